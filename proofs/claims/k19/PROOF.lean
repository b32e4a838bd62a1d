import PyProof.Rows.All
import Wide.All
import OpenK.AllK
import Wide.FinOn
import KE.KTypeName
import HandS.Base
import HandS.Call
import HandS.List
import HandS.Ends
import HandS.Exc
import HandS.ExcOwn
import HandS.ExcCtx
import HandS.Hot
import HandS.HotCalls
import HandS.ExcInit
import HandS.ExcInitHot
import HandS.ExcIs
import HandS.ClsMeth
import HandS.Comp
import KE.KExcIs
import HandS.ExcField
import HandS.SortKw
import KE.KMinKey
import KE.KStateDown
import Lean
import HandS.More
import HandS.Words
import HandS.WordsExc
import HandS.Defaults
import HandS.Head0
import HandS.Head1
import HandS.Head2
import HandS.HeadEnd
import HandS.HeadHook1
import HandS.HeadHook2
import PyProof.AttrMiss
import OpenK.KCls
import KE.KOpsOwn
import HandS.HeadHook3
import PySem.Challenge.RW_samewords_k19_first_part_that_fails
import PyProof.ByEval2
import HandS.WordsList
import HandS.IsInst
import HandS.Wide
import HandS.Iter
import HandS.Text
import HandS.StrMore
import HandS.Flow
import HandS.Walk
import HandS.Codes
import HandS.Set
import HandS.Strs
import PyProof.Rows.SortStr
import HandS.DictComp
import HandS.WideBits
import HandS.Dict
import HandS.Conv
import HandS.Star
import HandS.WordsDict
import HandS.DeepEq
import HandS.OwnEq
import HandS.FStr
import KE.GoesEnumKw
import KE.IntTextLaws
import HandS.RaiseMore
import HandS.Deep
import KE.KEqDict
import PyProof.EqKinds
import PyProof.FactsAll.dict
import PyProof.CompFree
set_option Elab.async false
set_option linter.all false
set_option maxRecDepth 100000
set_option maxHeartbeats 2000000
/-! Rules of my own: functions read off an own class, the class's name, classes made in a try. -/
namespace Sw
open PySem PySem.Spec PyProof.Rows L2

/-! ### C.m(e, ..), m a plain def of the class at C -/
structure ClFn (K : PySem.W.Frag) (C : Addr) (m : Str) (f : Addr) : Prop where
  rd : PySem.W.readsIn K C (.type "type") = true
  ga : PySem.W.specialIn K (.ref C) "__getattribute__" = some (some (.builtin "type.__getattribute__"))
  at_ : PySem.W.findCls K (.ref C) (.type "type") m = some (.val (.ref f))
section
variable {X : Cx} {CX : CXT} {k : Nat} {f C : Addr} {fd : FuncData} {ps : List Str} {sp : Sp} {dvs : List V} {ds : List Value} {E : XK} {x m : Str} {p pos apos : Pos} {e : Expr} {es : List Expr} {t : TA}
theorem getmeth_cls {pins : List (Addr × Obj)} {σ : L2.St} {H : Hp} {s : Shared} {A : Around} {E : Value → Shared → Prop} {pl : Sem Bool} {Q : Value × List Value → Shared → Prop} (I : Inv X pins σ H s) (c : ClFn X.K C m f)
    (h : ∀ s', Inv X pins σ H s' → Q (.ref f, []) s') : wpAny (model X.prog X.w) A (getMethod (.ref C) m pl) Q E s :=
  PySem.W.method_cls I.kIn c.ga (PySem.W.cls_value I.kIn c.rd c.at_ (handed_of (v := V.ref f) rfl) (h _ (I.tok _)))
theorem pe_clfn {pl : Sem Bool} (hg : Gl X x) (hm : X.mg x = some (.ref C)) (c : ClFn X.K C m f) (F : FnOk X.prog X.w X.K X.mg X.base CX k f fd ps sp) (hr : Room k X.A) (hk : PySem.W.keepIn X.K (.ref f) = true) (hb : Binds X.K fd ps ds) (hd : Vals dvs ds)
    (hx : Passes CX X E) (ha : PA X (e :: es) t)
    (hdb : (x == ("__debug__" : Str)) = false := by decide) (hst : starEach (e :: es) X.env = (false, eval e X.env) :: starEach es X.env := by rfl) (hpl : (backTo pos (starEach es X.env)).any (·.1) = false := by rfl)
    (ht : eval (.Call (.Attribute (.Name x p) m apos) (e :: es) [] pos) X.env = (do
      let ov ← eval (.Name x p) X.env
      standAt apos.atName
      let (f, first) ← holding [ov] (getMethod ov m pl)
      callWith pos f first (backTo pos (starEach (e :: es) X.env)) (backToKw pos (keywordEach [] X.env))) := by rfl) :
    PE X (.Call (.Attribute (.Name x p) m apos) (e :: es) [] pos) (tCall sp dvs E t) := by
  refine ⟨fun pins s σ H Q I h => ?_⟩
  refine PySem.W.methodCall_KW (pl := pl) (thn ((pe_glob (v := V.ref C) hg hm rfl hdb).run pins s σ H _ I (show (tC (V.ref C)) σ H (fun v H1 => v = .ref C ∧ H1 = H) from ⟨rfl, rfl⟩)) fun u s1 ⟨y, H1, I1, rx, ex, eh⟩ => ?_) ht
  subst ex eh
  obtain rfl : u = Value.ref C := rx
  refine getmeth_cls I1 c fun s2 I2 => ?_
  refine PySem.W.callWith_K (first := []) (h₀ := X.base) I2.ok.mod.kin hk (thn (ha.run pos pins s2 σ _ _ I2 h) fun us s3 ⟨vs, H3, I3, r, q3⟩ => ⟨I3.kIn, ?_⟩) hst hpl
  exact run_fn F hr hb hd hx I3 r q3
end

/-! ### C(e, ..) in a try: what follows a raise hangs on the slots -/
section
variable {X : Cx} {CX : CXT} {k : Nat} {f C : Addr} {fd : FuncData} {ps : List Str} {sp : Sp} {dvs : List V} {ds : List Value} {E : L2.St → XK} {x : Str} {p pos : Pos} {e : Expr} {es : List Expr} {t : TA}
def tMakeS (C : Addr) (sp : Sp) (dvs : List V) (E : L2.St → XK) (t : TA) : TE := fun σ H Q => t σ H fun vs H1 => ∀ x dx, H1 x = none → H1 dx = none → dx ≠ x →
  sp (.ref x :: (vs ++ dvs)) (upd (upd H1 dx (.own x)) x (.ins C dx [])) (fun v H2 => v = .non ∧ Q (.ref x) H2) (E σ)
theorem run_makeS {pins : List (Addr × Obj)} {σ : L2.St} {H : Hp} {s : Shared} {Q : VK} {us : List Value} {vs : List V} (M : Mk X.K C f) (F : FnOk X.prog X.w X.K X.mg X.base CX k f fd ps sp) (hr : Room (k + 1) X.A) (hb : Binds X.K fd ps ds) (hd : Vals dvs ds)
    (hx : PassesAt CX X σ (E σ)) (I : Inv X pins σ H s) (r : Vals vs us)
    (h : ∀ x dx, H x = none → H dx = none → dx ≠ x → sp (.ref x :: (vs ++ dvs)) (upd (upd H dx (.own x)) x (.ins C dx [])) (fun v H2 => v = .non ∧ Q (.ref x) H2) (E σ)) :
    wpAny (model X.prog X.w) X.A (call (.ref C) us) (EP X pins σ Q) X.xe s := by
  have hq := h (s.heap.objs.size + 1) s.heap.objs.size (I.hok.fresh (Nat.le_succ _)) (I.hok.fresh (Nat.le_refl _)) (Nat.ne_of_lt (Nat.lt_succ_self _))
  have I2 := Inv.made (C := C) I
  have r2 : Vals (V.ref (s.heap.objs.size + 1) :: (vs ++ dvs)) (Value.ref (s.heap.objs.size + 1) :: (us ++ ds)) := .cons rfl (r.append hd)
  have hl : (Value.ref (s.heap.objs.size + 1) :: us ++ ds).length = ps.length := by
    have e := r2.length
    rw [F.len _ _ _ _ hq] at e
    exact e.symm
  refine wpAny_call (make_map (f := f) I.kIn M.makes M.init (beq_iff_eq.mp M.fn) (codeAny_mono (F.run _ X.stack _ _ ⟨Value.ref (s.heap.objs.size + 1) :: us, []⟩ (Value.ref (s.heap.objs.size + 1) :: (us ++ ds)) _ _ (E σ) (hr.make C us [])
    (I2.env0.make C us []) (hb _ (Value.ref (s.heap.objs.size + 1) :: us) I2.kIn hl) r2 hq) fun r s' hq' => ?_))
  cases r with
  | error e => exact hx pins _ _ e s' I2 hq'
  | ok fl =>
    cases fl with
    | ret u =>
      obtain ⟨v, H', I3, rv, ev, q3⟩ := I2.after hq'
      subst ev
      exact ⟨rv, ⟨V.ref (s.heap.objs.size + 1), H', I3, rfl, q3⟩⟩
    | next => exact False.elim hq'
    | brk => exact False.elim hq'
    | cont => exact False.elim hq'
theorem pe_makeS (M : Mk X.K C f) (F : FnOk X.prog X.w X.K X.mg X.base CX k f fd ps sp) (hr : Room (k + 1) X.A) (hg : Gl X x) (hm : X.mg x = some (.ref C)) (hb : Binds X.K fd ps ds) (hd : Vals dvs ds) (hx : ∀ σ, PassesAt CX X σ (E σ))
    (ha : PA X (e :: es) t) (hdb : (x == ("__debug__" : Str)) = false := by decide) (he : starEach (e :: es) X.env = (false, eval e X.env) :: starEach es X.env := by rfl) (hpl : (backTo pos (starEach es X.env)).any (·.1) = false := by rfl) :
    PE X (.Call (.Name x p) (e :: es) [] pos) (tMakeS C sp dvs E t) := by
  refine ⟨fun pins s σ H Q I h => ?_⟩
  refine wpAny_Call_Name_kw (ld_glob I hg hm ?_ hdb)
  refine PySem.W.callWith_K (h₀ := X.base) I.ok.mod.kin M.kp (thn (ha.run pos pins s σ H _ I h) fun us s1 ⟨vs, H1, I1, r, q⟩ => ⟨I1.kIn, ?_⟩) he hpl
  exact run_makeS M F hr hb hd (hx σ) I1 r q
end
end Sw

/-! ### C.__name__, e.__class__ of an exception in the making -/
namespace Sw
open PySem PySem.W PySem.Calls PyProof.Rows Builtin Builtin.ObjectAttr Builtin.Getset_descriptor
section
variable {prog : Program} {w : World} {A : Around} {E : Value → Shared → Prop} {s : Shared} {K : Frag} {R : Result → Shared → Prop} {C : Addr} {o : Obj} {z : PySem.Str} {tk : Tok}
theorem cnm_dga (d tp : Value) (C : Addr) : descrGetArgs ⟨[d, .ref C, tp], []⟩ = pure (d, some (.ref C), given tp) := by kernel_rfl
theorem cnm_get {tp : Value} (hC : s.heap.get? C = some o) (hcls : o.cls = .type "type") (hsl : o.slots[2]? = some (some (.str z tk))) (h : R (.ok (.ret (.str z tk))) s) :
    codeAny (model prog w) A (.call (.builtin "getset_descriptor.__get__") ⟨[.builtin "type.__name__", .ref C, tp], []⟩) R s := by
  obtain ⟨hh, g, dr, t, os⟩ := s
  have L0 : Looks (model prog w) hh (typeOf (.ref C)) (.type "type") := by
    have q := (Looks.ld (M := model prog w) (part := some .none) hC).andThen (f := fun o => pure o.cls) .now
    rw [hcls] at q
    exact q
  have L1 : Looks (model prog w) hh (isSubtype (.type "type") (.type "type")) true := Looks.of_pure (by rw [isSubtype_type]; kernel_rfl)
  refine codeAny_call_builtin KF.slot_gs.plain KF.entry_gs (KF.slot_gs.check _ _ _ _ _ _ _ _ ktyn_type (KF.args_gs _ _ _) ?_)
  unfold Builtin.«getset_descriptor.__get__» descrGet
  rw [cnm_dga]
  refine wpAny_bind (wpAny_pure ?_)
  unfold descrGetter descrCheckInstance descrNameAndClass isInstance
  simp only [ktyn_owner]
  repeat lk
  refine ⟨Code.quiet_builtin _ (by decide +kernel), codeAny_builtin ktyn_entry ?_⟩
  unfold Builtin.«type.__name__» keptObject slotAt
  dsimp only
  refine wpAny_bind (wpAny_bind (wpAny_loadPart_at hC (wpAny_pure ?_)))
  rw [hsl]
  exact wpAny_pure h
/-- C.__name__ -/
theorem cnm_attr {expr : Bool} {Q : Value → Shared → Prop} (X : K.In s.heap) (rd : readsIn K C (.type "type") = true) (hf : findCls K (.ref C) (.type "type") "__name__" = some (.get (.builtin "getset_descriptor.__get__") (.builtin "type.__name__") (.ref C) (.type "type")))
    (hC : K.lookup C = some o) (hcls : o.cls = .type "type") (hsl : o.slots[2]? = some (some (.str z tk))) (h : Q (.str z tk) { s with toks := s.toks + 1 }) : wpAny (model prog w) A (getAttr (.ref C) "__name__" expr) Q E s := by
  refine cls_bind X rd hf (wpAny_call (cnm_get (s := { s with toks := s.toks + 1 }) (X _ _ hC) hcls hsl ?_))
  exact handed_on rfl h
/-- e.__class__, e an exception without a dict as yet -/
theorem exc_class {x : Addr} {ox : Obj} {expr : Bool} {Q : Value → Shared → Prop} {gt : Option Value}
    (X : K.In s.heap) (I : InstAt s.heap x ox C none) (hga : findIn K (.ref C) "__getattribute__" = some (some (.builtin "BaseException.__getattribute__"))) (hgt : findIn K (.ref C) "__getattr__" = some gt)
    (hsub : subIn K (.ref C) (.type "BaseException") = some true) (hdct : hasDictIn K C = true) (ha : findIn K (.ref C) "__class__" = some (some (.builtin "object.__class__")))
    (hn : specialIn K (.builtin "object.__class__") "__get__" = some (some (.builtin "getset_descriptor.__get__"))) (htk : takesIn K (.builtin "object.__class__") = some true) (hm : mroIn K C (.type "object") = some true)
    (h : Q (.ref C) { s with toks := s.toks + 1 }) : wpAny (model prog w) A (getAttr (.ref x) "__class__" expr) Q E s := by
  have hf : findObj K C none "__class__" = some (.bind (.builtin "getset_descriptor.__get__") (.builtin "object.__class__")) := findObj_dataN (by obtain ⟨cd, hc, _⟩ := any_some hdct; rw [hc]; rfl) ha hn htk
  obtain ⟨hp, g, d, t, os⟩ := s
  have L0 := I.type (M := model prog w)
  have L1 := looks_findIn (M := model prog w) X hga
  have L2 := looks_findIn (M := model prog w) X hgt
  have L3 := looks_find (M := model prog w) X I hf
  have sub : Looks (model prog w) hp (isInstance (.ref x) (.type "BaseException")) true := L0.andThen (looks_subIn X hsub)
  have hx0 : (expr && onTheHeap (Value.builtin "BaseException.__getattribute__")) = false := by cases expr <;> rfl
  have hx2 : (Value.builtin "BaseException.__getattribute__" == Value.builtin "object.__getattribute__") = false := by decide +kernel
  have hx1 : (onTheHeap (Value.ref C) && Value.builtin "BaseException.__getattribute__" == Value.builtin "object.__getattribute__") = false := by rw [hx2]; rfl
  unfold getAttr getAttrBy
  refine wpAny_bind (wpAny_mkText (wpAny_holding (wpAny_bind (L0.at (wpAny_bind (L1.at ?_))))))
  show wpAny _ _ (if (onTheHeap (Value.ref C) && Value.builtin "BaseException.__getattribute__" == Value.builtin "object.__getattribute__") = true then _ else _) _ _ _
  rw [hx1, if_neg Bool.false_ne_true]
  unfold getAttrByItsOwn hookBefore
  refine wpAny_bind ?_
  rw [if_pos (show onTheHeap (Value.ref C) = true from rfl)]
  refine L2.at ?_
  refine wpAny_bind (wpAny_attempt (wpAny_holding ?_))
  unfold callGetattribute
  rw [hx0, if_neg Bool.false_ne_true]
  unfold boundAndCalled
  rw [PySem.F.excAttr_ValueError.ga.bind (.ref x)]
  refine wpAny_bind (wpAny_pure ?_)
  show wpAny _ _ (call (.builtin "BaseException.__getattribute__") [.ref x, .str "__class__" t]) _ _ _
  refine wpAny_call (codeAny_call_builtin PySem.F.excAttr_ValueError.ga.plain PySem.F.entry_bexc_ga ?_)
  refine @check_slot (model prog w) _ _ ⟨hp, g, d, t + 1, os⟩ "BaseException.__getattribute__" "BaseException" "__getattribute__" (.ref x) [.str "__class__" t] [] _ (by decide +kernel) (by decide +kernel) sub (PySem.F.args_bexc_ga (.ref x) (.str "__class__" t)) ?_
  unfold Builtin.«object.__getattribute__»
  refine wpAny_bind (wpAny_of_eq (a := ((Value.ref x : Value), [Value.str "__class__" t])) (by first | rfl | (simp only [slotArgs]; rfl)) ?_)
  refine wpAny_bind (wpAny_pure (wpAny_bind (L0.at (wpAny_bind (L3.at ?_)))))
  show wpAny _ _ (holding [Value.builtin "object.__class__"] (call (.builtin "getset_descriptor.__get__") [.builtin "object.__class__", .ref x, .ref C]) >>= ret) _ _ _
  refine wpAny_bind (wpAny_holding (wpAny_call (class_get (s := ⟨hp, g, d, t + 1, os⟩) (ox := ox) (od := none) X I hm ?_)))
  refine wpAny_pure ?_
  show wpAny _ _ (handedOut (.ref C)) _ _ _
  rw [handedOut_of (v := .ref C) rfl]
  exact wpAny_pure h
end
end Sw
namespace Sw
open PySem PySem.Spec PyProof.Rows L2
/-- what a class must be for its name to be read -/
structure NamC (K : PySem.W.Frag) (C : Addr) (z : Str) : Prop where
  rd : PySem.W.readsIn K C (.type "type") = true
  fc : PySem.W.findCls K (.ref C) (.type "type") "__name__" = some (.get (.builtin "getset_descriptor.__get__") (.builtin "type.__name__") (.ref C) (.type "type"))
  lk : ∃ (o : Obj) (tk : Tok), K.lookup C = some o ∧ o.cls = .type "type" ∧ o.slots[2]? = some (some (.str z tk))
/-- e.__class__.__name__, e an exception in the making -/
def tExN (K : PySem.W.Frag) (te : TE) : TE := fun σ H Q => te σ H fun x H1 => ∃ (a C : Addr) (z : Str), x = .ref a ∧ H1 a = some (exo a C none) ∧ ExcC K C ∧ NamC K C z ∧ Q (.str z) H1
theorem pe_exn {X : Cx} {e : Expr} {p1 p2 : Pos} {te : TE} (he : PE X e te) (hb : attributeBase e "__class__" X.env (eval e X.env) = eval e X.env := by rfl)
    (hb2 : attributeBase (.Attribute e "__class__" p1) "__name__" X.env (eval (.Attribute e "__class__" p1) X.env) = eval (.Attribute e "__class__" p1) X.env := by rfl) :
    PE X (.Attribute (.Attribute e "__class__" p1) "__name__" p2) (tExN X.K te) := by
  refine ⟨fun pins s σ H Q I h => ?_⟩
  refine attr_of hb2 (attr_of hb (thn (he.run pins s σ H _ I h) fun u s1 ⟨x, H1, I1, rx, a, C, z, ex, ea, T, N, q⟩ => ?_))
  subst ex
  obtain rfl : u = Value.ref a := rx
  obtain ⟨t1, ho⟩ := exo_at I1.hok ea
  obtain ⟨o, tk, hC, hcls, hsl⟩ := N.lk
  refine exc_class I1.kIn (ox := _) ⟨ho, rfl, rfl, trivial⟩ T.hg T.hk T.hs T.hd T.ha T.hn T.ht T.hm ?_
  have I2 := I1.tok (s1.toks + 1)
  refine cnm_attr (s := { s1 with toks := s1.toks + 1 }) I2.kIn N.rd N.fc hC hcls hsl ?_
  exact ⟨.str z, H1, I2.tok _, ⟨tk, rfl⟩, q⟩
end Sw
set_option Elab.async false
set_option linter.all false
set_option maxRecDepth 100000
set_option maxHeartbeats 2000000
/-! Rules of my own: within an except suite: a def that is handed the caught exception, isinstance of it, a comprehension over a range. -/
namespace Sw
open PySem PySem.Spec PyProof.Rows L2 L2H HotX

/-! ### a def called while p's exception is handled, its promise speaks of p -/
structure FnE (P : Program) (w : World) (K : PySem.W.Frag) (mg : Str → Option Value) (base : Heap) (CX : CXT) (k : Nat) (f : Addr) (fd : FuncData) (ps : List Str) (sp : Addr × Obj → Sp) : Prop where
  len : ∀ p vs H Q E, sp p vs H Q E → vs.length = ps.length
  run : ∀ (p : Addr × Obj) (A : Around) (outer : List Env) (s : Shared) (H : Hp) (args : Args) (us : List Value) (vs : List V) (Q : VK) (E : XK), RoomH k A → Hot1 A p → PinOk outer H s p → Env0 P w K mg base A outer s H →
    BindsTo s fd args (ps.zip us) → Vals vs us → sp p vs H Q E → codeAny (model P w) A (.call (.ref f) args) (CR CX outer P w H s Q E) s
/-- for one exception it is a def of the hot kind; what a hot def's promise may lean on is put into it -/
def atP (p : Addr × Obj) (A : Around) (sp : Sp) : Sp := fun vs H Q E => Hot1 A p ∧ sp vs H Q E
theorem fn_ofE {CX : CXT} {P : Program} {w : World} {K : PySem.W.Frag} {mg : Str → Option Value} {base : Heap} {k : Nat} {f : Addr} {name qual : Str} {params : Arguments} {body : List Stmt} {scope : Scope} {dV kV doc pm cdv ct oc : Value} {an od : Option Addr}
    {osl : Array (Option Value)} {N ps : List Str} {sp : Addr × Obj → Sp} (lk : K.lookup f = some ⟨oc, od, .func (PySem.W.fnOf name qual params body scope dV kV doc pm an cdv ct), osl⟩) (hcd : PySem.W.codeIn K cdv qual = true) (S : FnScope N ps scope)
    (len : ∀ p vs H Q E, sp p vs H Q E → vs.length = ps.length)
    (hbody : ∀ (p : Addr × Obj) (A : Around) (outer : List Env) (s : Shared) (H : Hp) (vs : List V) (Q : VK) (E : XK), Hot1 A p → RoomH k (A.deeper (envOfC qual scope s.heap.objs.size f cdv)) → sp p vs H Q E →
      ∃ t, PSs (cxH CX P w K mg base N qual scope f cdv A outer s H E p) body t ∧ t { nx := fun _ H' => Q .non H', rt := Q } (L2.start N vs) H) :
    FnE P w K mg base CX (k + 1) f (PySem.W.fnOf name qual params body scope dV kV doc pm an cdv ct) ps sp := by
  refine ⟨len, fun p A outer s H args us vs Q E hr hot hpin e0 hb r hsp => ?_⟩
  have KX : K.In s.heap := e0.mod.kin.keeps fun b o e => (e0.bs b o e).1
  have lim := e0.mod.nolimit.keeps fun b o e => (e0.bs b o e).1
  have hl := len p _ _ _ _ hsp
  have names : ∀ y ∈ ps.zip us, scope.names.lookup y.1 = some .local ∨ (scope.names.lookup y.1 = some .cell ∧ ((cellsFrom (s.heap.objs.size + 1) scope.names []).lookup y.1).isSome = true) := by
    rintro ⟨n, v⟩ hy
    exact (S.par n (List.of_mem_zip hy).1).imp id fun q => ⟨q, PySem.W.cellsFrom_some _ _ _ (.inl q)⟩
  refine codeAny_call_function hr.depth (KX _ _ lk) rfl S.co S.gen rfl (PySem.W.codeRec_of KX hcd) (hb _ _ _ _ (wpAny_newFunctionEnv_cells S.kind names fun env he s1 x => ?_))
  subst he
  refine ⟨lim.keeps x.toInCall.keep, codeAny_func ?_⟩
  obtain ⟨t, ht, hq⟩ := hbody p A outer s H vs Q E hot (hr.deeper _) hsp
  refine wpAny_mono (ht.run [] s1 (L2.start N vs) H _ (inv_startH S hpin e0 hl r x) hq) (fun fl s' hs => ?_) fun _ _ z => z
  cases fl with
  | ret u =>
    obtain ⟨v, _, H', J, rv, q⟩ := hs
    exact ⟨v, H', J.os, J.bare, J.base, J.hok, rv, q⟩
  | next =>
    obtain ⟨_, H', J, q⟩ := hs
    exact ⟨V.non, H', J.os, J.bare, J.base, J.hok, rfl, q⟩
  | brk =>
    obtain ⟨_, _, _, q⟩ := hs
    exact False.elim q
  | cont =>
    obtain ⟨_, _, _, q⟩ := hs
    exact False.elim q
/-- f(e, ..), f being handed the exception: what its promise asks is shown of any object that Z holds of -/
def tCallX (Z : Addr × Obj → Prop) (sp : Addr × Obj → Sp) (E : L2.St → XK) (t : TA) : TE := fun σ H Q => t σ H fun vs H1 => ∀ p, Z p → sp p vs H1 Q (E σ)
section
variable {X : Cx} {CX : CXT} {k : Nat} {f : Addr} {fd : FuncData} {ps : List Str} {sp : Addr × Obj → Sp} {E : L2.St → XK} {x : Str} {q pos : Pos} {e : Expr} {es : List Expr} {t : TA} {p : Addr × Obj}
theorem pe_callE {Z : Addr × Obj → Prop} (hz : Z p) (F : FnE X.prog X.w X.K X.mg X.base CX k f fd ps sp) (hr : RoomH k X.A) (hot : Hot1 X.A p) (hp : p ∈ X.pn) (hg : Gl X x) (hm : X.mg x = some (.ref f)) (hk : PySem.W.keepIn X.K (.ref f) = true) (hb : Binds X.K fd ps []) (hx : ∀ σ, PassesAt CX X σ (E σ))
    (ha : PA X (e :: es) t) (hdb : (x == ("__debug__" : Str)) = false := by decide) (he : starEach (e :: es) X.env = (false, eval e X.env) :: starEach es X.env := by rfl) (hpl : (backTo pos (starEach es X.env)).any (·.1) = false := by rfl) :
    PE X (.Call (.Name x q) (e :: es) [] pos) (tCallX Z sp E t) := by
  refine ⟨fun pins s σ H Q I h => wpAny_Call_Name_kw (ld_glob I hg hm ?_ hdb)⟩
  refine PySem.W.callWith_K (h₀ := X.base) I.ok.mod.kin hk (thn (ha.run pos pins s σ H _ I h) fun us s1 ⟨vs, H1, I1, r, all⟩ => ⟨I1.kIn, ?_⟩) he hpl
  have hsp := all p hz
  have hl : us.length = ps.length := r.length.symm.trans (F.len p _ _ _ _ hsp)
  have b := hb s1 us I1.kIn (by rw [List.append_nil]; exact hl)
  rw [List.append_nil] at b
  have P1 := I1.pin p (List.mem_append_left _ hp)
  have hpin : PinOk X.stack H1 s1 p := ⟨P1.1, P1.2.1, fun hm => (List.mem_cons.mp (I1.stkSub p.1 hm)).elim P1.2.2.1 P1.2.2.2.1, P1.2.2.2.2⟩
  refine wpAny_call (codeAny_mono (F.run p X.A X.stack s1 H1 ⟨us, []⟩ us vs Q (E σ) hr hot hpin I1.env0 b r hsp) fun r s' hq => ?_)
  cases r with
  | error e => exact hx σ pins H1 s1 e s' I1 hq
  | ok fl =>
    cases fl with
    | ret u => exact I1.after hq
    | _ => exact hq.elim
end

/-! ### isinstance(e, C), e the exception that is handled, with a dict of its own -/
/-- isinstance(e, c): a the exception, D its class, d its dict -/
def rIsX (K : PySem.W.Frag) (D a d : Addr) : List V → Hp → VK → Prop := fun xs H Q => ∃ (c : V) (cv : Value) (b : Bool) (fs : List (Str × V)), xs = [.ref a, c] ∧ (∀ u, RelV c u → u = cv) ∧ PySem.W.kitOne K (.ref D) cv = some b ∧ H d = some (.xd fs) ∧ Q (.bl b) H
theorem call_isX {X : Cx} {D d : Addr} {p : Addr × Obj} (T : ExcC X.K D) (hp : p ∈ X.pn) (hz : Zc (.ref D) (some d) p.2) (hf : ∃ vs, p.2.data = .fields vs) : CallR X (.builtin "isinstance") (rIsX X.K D p.1 d) := by
  intro pins s σ H xs us Q I r h
  obtain ⟨c, cv, b, fs, rfl, hcv, e, hd, q⟩ := h
  obtain ⟨u1, u2, rfl, r1, r2⟩ := vals2 r
  obtain rfl : u1 = Value.ref p.1 := r1
  obtain rfl := hcv _ r2
  obtain ⟨vs, hv⟩ := hf
  obtain ⟨mA, hns, _⟩ := (show ObjOk X.prog X.w H s.heap d (.xd fs) from I.hok d _ hd)
  obtain ⟨od, ho, _⟩ := lookIn_ns hns
  have J : PySem.W.InstAt s.heap p.1 p.2 D (some od) := ⟨(I.pin p (List.mem_append_left _ hp)).1, hz.1, by unfold PySem.W.notCls; rw [hv] <;> rfl, by rw [hz.2]; exact ho⟩
  exact PySem.W.kia_one (PySem.W.kitx_exc (by obtain ⟨cd, hc, _⟩ := PySem.W.any_some T.hd; rw [hc]; rfl) T.hg T.hk T.hs T.ha T.hn T.ht T.hm) I.kIn J e (fun z => nomatch z) fun tk => ⟨.bl b, H, I.kept (t' := tk) fun _ _ z => z, rfl, q⟩

/-! ### [e for i in range(n) if t] within a suite -/
/-- a comprehension's block there: the handled exception is kept -/
abbrev hBlk (X : Cx) (s : Shared) (H : Hp) (scope : Scope) (cenv : Env) (fp : List Addr) : Cx := { X.blk s H scope cenv fp with pn := X.pn }
theorem hBlk_start {X : Cx} {pins : List (Addr × Obj)} {σ : L2.St} {H : Hp} {s : Shared} {scope : Scope} {own : List (Str × Nat)} {fp : List Addr} (I : Inv X pins σ H s) (ok : BlkOk X.N X.env.scope scope own) (hN : X.N.Nodup) (hfp : ∀ b ∈ fp, FpOk X pins H b ∧ b < s.heap.objs.size) :
    Inv (hBlk X s H scope (compEnvC scope (cellsFrom (s.heap.objs.size + 1) scope.names (cloFrom X.env.cells scope.names [])) s.heap.objs.size X.env) fp) [] (wipe σ (own.map (·.2))) H { s with heap := pushCells (s.heap.push { cls := .type "dict", data := .dict #[] }) scope.names } := by
  have J := block_start I ok hN hfp
  refine ⟨⟨J.ok.mod, J.ok.kind, J.ok.glob, J.ok.blt, J.ok.above, J.ok.inj, J.ok.has, J.ok.cab, J.ok.hd, J.ok.frames, J.ok.stk, J.ok.exf, J.ok.bs, J.ok.bsz, J.ok.noex, J.ok.exfs, J.ok.funs, J.ok.frf⟩, J.os, J.bare, J.base, J.loc, J.cell, J.free, J.freeC, fun p hp => ?_, J.hok, J.len⟩
  have hp2 : p ∈ X.pn := by simpa using hp
  obtain ⟨g1, g2, g3, g4, g5⟩ := I.pin p (List.mem_append_left _ hp2)
  refine ⟨pushCells_keeps _ _ _ _ (Heap.get?_push_of_some _ g1), g2, Nat.ne_of_lt (Heap.lt_size g1), fun hm => ?_, g5⟩
  exact (List.mem_cons.mp (I.stkSub p.1 hm)).elim g3 g4
def tLcH (lo : Int) (n : Nat) (g : TG) (tt : TT) (te : TE) (vs : List Nat) : TE := fun σ H Q => ∀ D, H D = none → ∃ Pv : Nat → Hp → Prop, Pv 0 (upd H D (.lst [])) ∧
  (∀ i H1, i < n → Pv i H1 → g (.int (lo + i)) (wipe σ vs) H1 fun σ2 H2 => wipe σ2 vs = wipe σ vs ∧ tt σ2 H2 fun b H3 =>
    if b = true then te σ2 H3 fun y H4 => ∃ acc, H4 D = some (.lst acc) ∧ acc.length < sizeLine ∧ Pv (i + 1) (upd H4 D (.lst (acc ++ [y]))) else Pv (i + 1) H3) ∧ ∀ H1, Pv n H1 → Q (.ref D) H1
section
variable {X : Cx}
theorem lc_coreH {pins : List (Addr × Obj)} {s : Shared} {σ : L2.St} {H : Hp} {Q : VK} {elt tg iter : Expr} {ifs : List Expr} {scope : Scope} {own : List (Str × Nat)} {pos pos' : Pos} {wi : TI} {g : TG} {tt : TT} {te : TE} {n : Nat} {lo : Int} {use : Option (Value → Sem Unit)} {Qf : Value → Shared → Prop}
    (hc : HotC X) (hN : X.N.Nodup) (I : Inv X pins σ H s) (hi : PIH X tg iter wi) (hw : ∀ σ H (R : It → Hp → Prop), R (Itr lo n) H → wi σ H R)
    (ok : BlkOk X.N X.env.scope scope own)
    (hg : ∀ (s : Shared) (H : Hp) (C : Addr) (cl : List (Str × Addr)) (fp : List Addr), PG (hBlk X s H scope (compEnvC scope cl C X.env) fp) tg g) (ht : ∀ (s : Shared) (H : Hp) (C : Addr) (cl : List (Str × Addr)) (fp : List Addr), PTs (hBlk X s H scope (compEnvC scope cl C X.env) fp) ifs tt)
    (he : ∀ (s : Shared) (H : Hp) (C : Addr) (cl : List (Str × Addr)) (fp : List Addr), PE (hBlk X s H scope (compEnvC scope cl C X.env) fp) elt te) (hs : ∀ x, foldedSetIterable iter X.env x = pure x)
    (h : tLcH lo n g tt te (own.map (·.2)) σ H Q)
    (hRR : ∀ D C s' m H', Inv X pins σ H' s' → Q (.ref D) H' → s'.heap.Ns C m → FpOk X pins H' C → compPost (model X.prog X.w) X.A X.xe use Qf (.ref D) C (.ok .next) s') :
    wpAny (model X.prog X.w) X.A (comprehension (.ListComp elt [⟨tg, iter, ifs, 0⟩] scope pos) scope X.env pos' (newList []) false (eval iter X.env) use) Qf X.xe s := by
  have caps : ∀ y ∈ scope.names, y.2 = .free → ∃ c, X.env.cells.lookup y.1 = some c := fun y hy e => I.ok.has _ ((ok.free y hy e).imp id id)
  refine wpAny_comprehension_free (use := use) rfl hs (closure_ok caps) ok.kind (fun y hy e => (ok.uniq y hy).trans (congrArg some e))
    (thn (hi.run pins s σ H (fun J H' => J = Itr lo n ∧ H' = H) I (hw _ _ _ ⟨rfl, rfl⟩)) fun xv s1 hx => thn hx fun itv s2 h2 => ?_)
  obtain ⟨it, fp, tn, J, H2, rfl, I2, T, st2, f2, eJ, eH⟩ := h2
  subst eJ eH
  refine wpAny_newObj_type (newEnv_comp ?_) (Nat.zero_le _)
  -- the list that is filled stands at D
  generalize hD : s2.heap.objs.size = D
  have freeD : H2 D = none := I2.hok.fresh (Nat.le_of_eq hD)
  obtain ⟨Pv, p0, turn, fin⟩ := h D freeD
  generalize hs3 : ({ s2 with heap := s2.heap.push { cls := .type "list", data := .seq ([] : List Value).toArray } } : Shared) = s3
  have heap3 : s3.heap = s2.heap.push { cls := .type "list", data := .seq ([] : List Value).toArray } := by rw [← hs3]
  have I3 : Inv X pins σ (upd H2 D (.lst [])) s3 := by
    rw [← hs3]
    exact I2.laid (t' := s2.toks) (fun b o e => Heap.get?_push_of_some _ e) (Nat.le_of_eq hD) ⟨Nat.zero_le _, [], 0, .nil, by rw [← hD]; exact Heap.get?_push_size _ rfl⟩
  have f3 : ∀ b ∈ fp, FpOk X pins (upd H2 D (.lst [])) b ∧ b < s3.heap.objs.size := fun b hb => by
    obtain ⟨o, e, _⟩ := T.obj _ _ st2 b hb
    have lt := Heap.lt_size e
    exact ⟨⟨by rw [upd_ne (by rw [← hD]; exact Nat.ne_of_lt lt)]; exact (f2 b hb).1, (f2 b hb).2⟩, by rw [heap3, Heap.size_push]; exact Nat.lt_succ_of_lt lt⟩
  have I4 := hBlk_start I3 ok hN f3
  have pg := hg s3 (upd H2 D (.lst [])) s3.heap.objs.size (cellsFrom (s3.heap.objs.size + 1) scope.names (cloFrom X.env.cells scope.names [])) fp
  have pt := ht s3 (upd H2 D (.lst [])) s3.heap.objs.size (cellsFrom (s3.heap.objs.size + 1) scope.names (cloFrom X.env.cells scope.names [])) fp
  have pe := he s3 (upd H2 D (.lst [])) s3.heap.objs.size (cellsFrom (s3.heap.objs.size + 1) scope.names (cloFrom X.env.cells scope.names [])) fp
  show codeAny _ _ (.compStart (.ListComp elt [⟨tg, iter, ifs, 0⟩] scope pos) 0 (.ref it) (.ref D) (compEnvC scope (cellsFrom (s3.heap.objs.size + 1) scope.names (cloFrom X.env.cells scope.names [])) s3.heap.objs.size X.env))
    (compPost (model X.prog X.w) X.A X.xe use Qf (.ref D) s3.heap.objs.size) { s3 with heap := pushCells (s3.heap.push { cls := .type "dict", data := .dict #[] }) scope.names }
  generalize hce : compEnvC scope (cellsFrom (s3.heap.objs.size + 1) scope.names (cloFrom X.env.cells scope.names [])) s3.heap.objs.size X.env = ce at I4 pg pt pe ⊢
  have cL : ce.locals = s3.heap.objs.size := by subst hce; rfl
  have nf3 : ∀ b ∈ fp, (upd H2 D (.lst [])) b = none := fun b hb => (f3 b hb).1.1
  generalize upd H2 D (.lst []) = H3 at I3 I4 pg pt pe p0 f3 nf3
  have hcB : HotC (hBlk X s3 H3 scope ce fp) := hc
  have st4 : tn 0 (pushCells (s3.heap.push { cls := .type "dict", data := .dict #[] }) scope.names) := T.keep _ _ _ st2 fun b _ o e => pushCells_keeps _ _ _ _ (Heap.get?_push_of_some _ (by rw [heap3]; exact Heap.get?_push_of_some _ e))
  generalize hs4 : ({ s3 with heap := pushCells (s3.heap.push { cls := .type "dict", data := .dict #[] }) scope.names } : Shared) = s4 at I4 ⊢
  have st4 : tn 0 s4.heap := by
    rw [← hs4]
    exact st4
  have stat : ∀ {σ' : L2.St} {H' : Hp} {s' : Shared}, Inv (hBlk X s3 H3 scope ce fp) [] σ' H' s' → (∀ b ∈ fp, H' b = none) → ∀ b ∈ fp, FpOk (hBlk X s3 H3 scope ce fp) [] H' b := fun {_ _ _} I' hn b hb =>
    ⟨hn b hb, (I'.ok.exf b hb).1, I'.ok.exfs b hb, .inl hb, fun x c e => (I'.ok.exf b hb).2 x c e, fun p hp => (f3 b hb).1.2.2.2.2.2 p (List.mem_append_left _ (by simpa using hp))⟩
  suffices loop : codeAny (model X.prog X.w) X.A (.compLoop (.ListComp elt [⟨tg, iter, ifs, 0⟩] scope pos) 0 (.ref it) (.ref D) ce) (compPost (model X.prog X.w) X.A X.xe use Qf (.ref D) s3.heap.objs.size) s4 from codeAny_compStart_list loop (T.self X.A 0 _ _ _ st4 loop)
  refine (compLoop_any (fun m s' => ∃ i H', m = n - i ∧ i ≤ n ∧ Inv (hBlk X s3 H3 scope ce fp) [] (wipe σ (own.map (·.2))) H' s' ∧ tn i s'.heap ∧ (∀ b ∈ fp, H' b = none) ∧ Pv i H') ?_ n ⟨0, H3, by simp, Nat.zero_le _, I4, st4, nf3, p0⟩)
  rintro m s5 ⟨i, H5, rfl, hle, I5, st5, n5, p5⟩
  by_cases hlt : i < n
  · -- one more turn
    refine thnF (T.item (hBlk X s3 H3 scope ce fp) rfl rfl rfl hcB i [] s5 _ H5 (fun _ _ => False) I5 (stat I5 n5) st5 hlt) fun r s6 ⟨u, hr, h6⟩ => ?_
    subst hr
    refine thnF h6 fun _ s7 ⟨x, H7, I7, r7, y7, st7, n7⟩ => ?_
    obtain ⟨e7, ex⟩ := y7
    subst e7 ex
    refine thnF (pg.run _ s7 _ H7 _ u _ (I7.pinned (stat I7 n7) (T.obj _ _ st7)) r7 (turn i H7 hlt p5)) fun _ s8 ⟨σ8, H8, I8, w8, q8⟩ => ?_
    refine thnF (pt.run _ s8 σ8 H8 _ I8 q8) fun b s9 ⟨H9, I9, q9⟩ => ?_
    have next : ∀ {s' : Shared} {H' : Hp}, Inv (hBlk X s3 H3 scope ce fp) ([] ++ pinsAt fp s7.heap) σ8 H' s' → Pv (i + 1) H' →
        ∃ m, m < n - i ∧ ∃ i H', m = n - i ∧ i ≤ n ∧ Inv (hBlk X s3 H3 scope ce fp) [] (wipe σ (own.map (·.2))) H' s' ∧ tn i s'.heap ∧ (∀ b ∈ fp, H' b = none) ∧ Pv i H' := fun {s' H'} I' p' => by
      have still : ∀ b ∈ fp, ∀ o, s7.heap.get? b = some o → s'.heap.get? b = some o ∧ H' b = none := fun b hb o e =>
        let z := I'.pin (b, o) (List.mem_append_right _ (List.mem_append_right _ (mem_pinsAt hb e)))
        ⟨z.1, z.2.1⟩
      refine ⟨n - (i + 1), by omega, i + 1, H', rfl, hlt, (I'.unpinned (pins := [])).weak (by rw [← w8, wipe_length]) (fun j v e => ?_), T.keep _ _ _ st7 fun b hb o e => (still b hb o e).1, fun b hb => ?_, p'⟩
      · rw [← w8] at e
        exact (wipe_some e).1
      · obtain ⟨o, e, _⟩ := T.obj _ _ st7 b hb
        exact (still b hb o e).2
    cases b with
    | false => exact next I9 q9
    | true =>
      refine thnF (pe.run _ s9 σ8 H9 _ I9 q9) fun z s10 ⟨yv, H10, I10, r10, acc, hD10, hz10, nx⟩ => ?_
      exact app_ok (X := hBlk X s3 H3 scope ce fp) I10 hD10 hz10 r10 fun s11 I11 => next I11 nx
  · -- the range is at its end
    have e : i = n := by omega
    subst e
    refine thnF (T.done (hBlk X s3 H3 scope ce fp) rfl rfl rfl hcB i [] s5 _ H5 (fun _ _ => False) I5 (stat I5 n5) st5 (Nat.le_refl i)) fun r s6 ⟨hr, I6⟩ => ?_
    subst hr
    have I7 : Inv X pins σ H5 s6 := I3.call' (ch := fp) I6.os I6.base I6.hok I6.bare fun b hb => ⟨(f3 b hb).1.2.2.2.1, (f3 b hb).1.2.1, (f3 b hb).1.2.2.2.2.1, (f3 b hb).1.2.2.2.2.2⟩
    have noC : H5 s3.heap.objs.size = none := cL ▸ I6.free
    obtain ⟨m, hn, _⟩ := I6.loc
    have hn : s6.heap.Ns s3.heap.objs.size m := cL ▸ hn
    exact hRR D s3.heap.objs.size s6 m H5 I7 (fin H5 p5) hn (I3.fpOk (Nat.le_refl _) noC)
variable {elt tg iter : Expr} {ifs : List Expr} {scope : Scope} {own : List (Str × Nat)} {pos : Pos} {wi : TI} {g : TG} {tt : TT} {te : TE} {n : Nat} {lo : Int}
theorem pe_lcH (hc : HotC X) (hN : X.N.Nodup) (hi : PIH X tg iter wi) (hw : ∀ σ H (R : It → Hp → Prop), R (Itr lo n) H → wi σ H R) (ok : BlkOk X.N X.env.scope scope own)
    (hg : ∀ (s : Shared) (H : Hp) (C : Addr) (cl : List (Str × Addr)) (fp : List Addr), PG (hBlk X s H scope (compEnvC scope cl C X.env) fp) tg g) (ht : ∀ (s : Shared) (H : Hp) (C : Addr) (cl : List (Str × Addr)) (fp : List Addr), PTs (hBlk X s H scope (compEnvC scope cl C X.env) fp) ifs tt)
    (he : ∀ (s : Shared) (H : Hp) (C : Addr) (cl : List (Str × Addr)) (fp : List Addr), PE (hBlk X s H scope (compEnvC scope cl C X.env) fp) elt te) (hs : ∀ x, foldedSetIterable iter X.env x = pure x := by intro _; rfl) :
    PE X (.ListComp elt [⟨tg, iter, ifs, 0⟩] scope pos) (tLcH lo n g tt te (own.map (·.2))) := by
  refine ⟨fun pins s σ H Q I h => ?_⟩
  rw [eval_ListComp]
  refine lc_coreH hc hN I hi hw ok hg ht he hs h fun D C s' m H' I' q hn ⟨z0, z1, z2, z3, z4, z5⟩ => ⟨m, hn, fun h'' sb => ?_⟩
  exact ⟨.ref D, H', I'.turned (t' := s'.toks) (fun b o hb e => (sb.2 b hb).trans e) z0 z1 z3 z4 z5, rfl, q⟩
/-- y = [..], y a local, written within the block's frame -/
theorem ps_setLcH {i : Nat} {y : Str} {py spos : Pos} (hc : HotC X) (hN : X.N.Nodup) (hy : X.N[i]? = some y) (hyl : X.env.scope.names.lookup y = some .local)
    (hsw : swapsWith (.ListComp elt [⟨tg, iter, ifs, 0⟩] scope pos) (some (.Name y py)) spos.line X.env = pure true) (hi : PIH X tg iter wi) (hw : ∀ σ H (R : It → Hp → Prop), R (Itr lo n) H → wi σ H R) (ok : BlkOk X.N X.env.scope scope own)
    (hg : ∀ (s : Shared) (H : Hp) (C : Addr) (cl : List (Str × Addr)) (fp : List Addr), PG (hBlk X s H scope (compEnvC scope cl C X.env) fp) tg g) (ht : ∀ (s : Shared) (H : Hp) (C : Addr) (cl : List (Str × Addr)) (fp : List Addr), PTs (hBlk X s H scope (compEnvC scope cl C X.env) fp) ifs tt)
    (he : ∀ (s : Shared) (H : Hp) (C : Addr) (cl : List (Str × Addr)) (fp : List Addr), PE (hBlk X s H scope (compEnvC scope cl C X.env) fp) elt te) (hs : ∀ x, foldedSetIterable iter X.env x = pure x := by intro _; rfl) :
    PS X (.Assign [.Name y py] (.ListComp elt [⟨tg, iter, ifs, 0⟩] scope pos) spos) (tAsg (tLcH lo n g tt te (own.map (·.2))) (gName i)) := by
  refine ⟨fun pins s σ H D I h => ?_⟩
  rw [exec_Assign_Name_used _ _ _ _ hsw]
  have h : tLcH lo n g tt te (own.map (·.2)) σ H (fun x H1 => gName i x σ H1 D.nx) := h
  refine wpAny_bind (wpAny_standAt (wpAny_bind ?_))
  refine wpAny_bind (thn (lc_coreH (use := some (assign (.Name y py) X.env)) (Qf := fun _ s' => SP X pins D .next s') hc hN I hi hw ok hg ht he hs h fun L C s' m H' I' q hn f => ?_) fun _ _ z => wpAny_pure (wpAny_pure z))
  obtain ⟨z0, z1, z2, z3, z4, z5⟩ := f
  refine wpAny_assign_Name (store_ok2 (v := V.ref L) I' hN hy (.inl hyl) rfl (fun s2 I2 ⟨a, sb, ha⟩ => ?_) (.inr hyl))
  have ne : C ≠ a := ha.elim (fun z => z ▸ z1) (fun z e => z4 y a z e.symm)
  refine ⟨m, hn.sameBut sb ne, fun h3 sb3 => ?_⟩
  exact ⟨_, H', I2.turned (t' := s2.toks) (fun b o hb e => (sb3.2 b hb).trans e) z0 z1 z3 z4 z5, q⟩
end
end Sw
set_option Elab.async false
set_option linter.all false
set_option maxRecDepth 100000
set_option maxHeartbeats 2000000
/-! Rules of my own: max(xs, default=d), xs a list of ints that may be empty. -/
namespace Sw
open PySem
section
variable {prog : Program} {w : World} {A : Around} {R : Result → Shared → Prop} {I S : Addr} {fp wr : List Addr} {n : Nat} {P : Nat → Value → Prop} {St : Nat → Heap → Prop} {d : Value}
abbrev dkw (d : Value) : List (Str × Value) := [(Str.ofString "default", d)]
/-- what stands in the list of the best so far -/
def bestSeq : Option Value → Array Value
  | none => #[]
  | some v => #[v, v]
theorem mxd_loop (W : Walks prog w A.in1 I fp wr n P St) (bt : Nat → Nat → Bool) (hcmp : CmpOf prog w A.in1 .Gt P bt) (hSf : S ∉ fp) : ∀ (k j : Nat) (s : Shared) (c : Nat) (best : Option Value), n - j = k → j ≤ n → St j s.heap →
    (best = none → j = 0) → (∀ v, best = some v → 0 < j ∧ P (argBest bt (j - 1)) v) → s.heap.get? S = some { cls := .type "list", dict := none, data := .seq (bestSeq best) c, slots := #[] } →
    (∀ u h' tk, (n = 0 → u = d) → (0 < n → P (argBest bt (n - 1)) u) → (∀ b o, b ∉ wr → b ≠ S → s.heap.get? b = some o → h'.get? b = some o) → R (.ok (.ret u)) { s with heap := h', toks := tk }) →
    codeAny (model prog w) A (.builtin "max.loop" ⟨[.ref I, .none, .ref S], dkw d⟩) R s := by
  have nameL : (toString "max" ++ toString ".loop" : String) = "max.loop" := by decide
  have hSw : S ∉ wr := fun h => hSf (W.sub _ h)
  intro k
  induction k with
  | zero =>
    intro j s c best hk hj hst h0 h1 hS hR
    have ej : j = n := by omega
    subst ej
    refine codeAny_builtin F.entry_max_loop ?_
    rw [Around.under_plainId F.plain_max_loop _]
    refine wpAny_bind (wpAny_seqItems hS rfl ?_)
    refine wpAny_bind (wpAny_tryCatch (W.done s _ _ hst fun h' tk hk' => ?_))
    have hS' := hk' S _ hSw hS
    cases best with
    | none =>
      have z := h0 rfl
      refine wpAny_bind (wpAny_rule ?_)
      refine wpAny_pure (hR d h' tk (fun _ => rfl) (fun y => absurd y (by omega)) fun b o hbw _ e => hk' b o hbw e)
    | some v =>
      obtain ⟨z1, z2⟩ := h1 v rfl
      have hS2 : h'.get? S = some { cls := .type "list", dict := none, data := .seq #[v, v] c, slots := #[] } := hS'
      refine wpAny_bind (wpAny_updateSeq hS2 rfl (wpAny_bind (wpAny_letGo (wpAny_pure ?_))))
      exact hR v _ tk (fun y => absurd y (by omega)) (fun _ => z2) fun b o hbw hbS e => (Heap.get?_update_other _ _ (Ne.symm hbS)).trans (hk' b o hbw e)
  | succ k ih =>
    intro j s c best hk hj hst h0 h1 hS hR
    have hlt : j < n := by omega
    refine codeAny_builtin F.entry_max_loop ?_
    rw [Around.under_plainId F.plain_max_loop _]
    refine wpAny_bind (wpAny_seqItems hS rfl ?_)
    refine wpAny_bind (wpAny_tryCatch (W.item j s _ _ hlt hst fun v h' tk hP hst' hk' => ?_))
    have hS' := hk' S _ hSw hS
    have put : ∀ (u : Value) (old : Array Value), h'.get? S = some { cls := .type "list", dict := none, data := .seq old c, slots := #[] } → P (argBest bt j) u →
        codeAny (model prog w) A (.builtin "max.loop" ⟨[.ref I, .none, .ref S], dkw d⟩) R { s with heap := h'.update S (Obj.mapSeq fun _ => #[u, u]), toks := tk } := fun u old hS2 hu => by
      have other : ∀ b, b ≠ S → (h'.update S (Obj.mapSeq fun _ => #[u, u])).get? b = h'.get? b := fun b hb => Heap.get?_update_other _ _ (Ne.symm hb)
      refine ih (j + 1) _ _ (some u) (by omega) hlt (W.frame _ _ _ hst' fun b hbf o e => (other b fun z => hSf (by rw [← z]; exact hbf)).trans e) (fun z => nomatch z) (fun v' e => ?_) (Heap.get?_update_self _ hS2 rfl) fun u' h'' tk'' e0 e1 hk'' => ?_
      · cases e
        exact ⟨by omega, hu⟩
      · exact hR u' h'' tk'' e0 e1 fun b o hbw hbS e => hk'' b o hbw hbS ((other b hbS).trans (hk' b o hbw e))
    cases best with
    | none =>
      have z := h0 rfl
      subst z
      have hS2 : h'.get? S = some { cls := .type "list", dict := none, data := .seq #[] c, slots := #[] } := hS'
      refine wpAny_bind (wpAny_pure (wpAny_bind (wpAny_updateSeq hS2 rfl ?_)))
      rw [nameL]
      exact wpAny_pure ⟨plainId_quiet F.plain_max_loop _, put v _ hS2 hP⟩
    | some vb =>
      obtain ⟨z1, z2⟩ := h1 vb rfl
      have hS2 : h'.get? S = some { cls := .type "list", dict := none, data := .seq #[vb, vb] c, slots := #[] } := hS'
      have ej : j - 1 + 1 = j := by omega
      have ab : argBest bt j = if bt j (argBest bt (j - 1)) = true then j else argBest bt (j - 1) := by
        have q : argBest bt (j - 1 + 1) = if bt (j - 1 + 1) (argBest bt (j - 1)) = true then j - 1 + 1 else argBest bt (j - 1) := rfl
        rw [ej] at q
        exact q
      refine wpAny_bind (wpAny_pure (wpAny_bind (wpAny_tryCatch (wpAny_holding (wpAny_bind (hcmp j (argBest bt (j - 1)) v vb _ _ _ hP z2 ?_))))))
      refine wpAny_bind (wpAny_holding (wpAny_truthy_bool (wpAny_bind (wpAny_letGo (wpAny_pure ?_)))))
      cases hb : bt j (argBest bt (j - 1)) with
      | true =>
        rw [hb, if_pos rfl] at ab
        refine wpAny_bind (wpAny_updateSeq hS2 rfl (wpAny_bind (wpAny_letGo ?_)))
        rw [nameL]
        exact wpAny_pure ⟨plainId_quiet F.plain_max_loop _, put v _ hS2 (by rw [ab]; exact hP)⟩
      | false =>
        rw [hb, if_neg (by decide)] at ab
        refine wpAny_bind (wpAny_letGo ?_)
        rw [nameL]
        refine wpAny_pure ⟨plainId_quiet F.plain_max_loop _, ih (j + 1) _ c (some vb) (by omega) hlt hst' (fun z => nomatch z) (fun v' e => ?_) hS2 fun u' h'' tk'' e0 e1 hk'' => ?_⟩
        · cases e
          exact ⟨by omega, by show P (argBest bt j) vb; rw [ab]; exact z2⟩
        · exact hR u' h'' tk'' e0 e1 fun b o hbw hbS e => hk'' b o hbw hbS (hk' b o hbw e)
end
section
variable {prog : Program} {w : World} {A : Around} {E : Value → Shared → Prop} {s : Shared} {l : Addr} {xs : Array (Int × Tok)} {d : Value}
theorem mxd_args (a v : Value) : argsOk "max" ⟨[a], dkw v⟩ := by unfold argsOk; kernel_rfl
theorem mxd_ints {Q : Value → Shared → Prop} (hh : A.handled = none) (hl : s.heap.IsList l (intItems xs))
    (h : ∀ v h' tk, (xs.size = 0 → v = d) → (0 < xs.size → (intItems xs)[argBest (fun i j => decide (numAt xs i > numAt xs j)) (xs.size - 1)]? = some v) → (∀ b o, s.heap.get? b = some o → h'.get? b = some o) → Q v { s with heap := h', toks := tk }) :
    wpAny (model prog w) A (call (.builtin "max") [.ref l] (dkw d)) Q E s := by
  have nameL : (toString "max" ++ toString ".loop" : String) = "max.loop" := by decide
  have hsz : (intItems xs).size = xs.size := by simp [intItems]
  refine PyProof.Rows.kmk_tree F.kind_max F.plain_max F.entry_max (mxd_args _ _) ?_
  refine wpAny_bind (wpAny_of_eq (show Builtin.Builtins.bindParams "max" ["key", "default"] 0 ⟨[], dkw d⟩ = pure [none, some d] from rfl) ?_)
  refine wpAny_bind (wpAny_pure ?_)
  refine wpAny_bind (iter_intList hl fun s2 e st hfp hlI => ?_)
  subst e
  refine wpAny_bind (wpAny_newObj_type ?_)
  rw [nameL]
  refine wpAny_pure ⟨plainId_quiet F.plain_max_loop _, ?_⟩
  have W := Walks.list (prog := prog) (w := w) (A := A.in1) hh s.heap.objs.size l hlI (intItems xs)
  refine mxd_loop W _ (CmpOf.ints_gt (numAt xs) (fun _ _ => intItems_at)) (fun hm => Nat.lt_irrefl _ (hfp _ hm)) _ 0 _ _ none rfl (Nat.zero_le _) (W.frame _ _ _ st fun b _ o e => Heap.get?_push_of_some _ e) (fun _ => rfl) (fun _ z => nomatch z)
    (Heap.get?_push_size _ rfl) fun u h' tk e0 e1 hk => ?_
  refine h u h' tk (fun z => e0 (hsz.trans z)) (fun z => ?_) fun b o e => ?_
  · have q := e1 (by rw [hsz]; exact z)
    rw [hsz] at q
    exact q
  · have lt := Heap.lt_size e
    refine hk b o (fun hm => ?_) (fun z => ?_) (Heap.get?_push_of_some _ (Heap.get?_push_of_some _ e))
    · have z : b = s.heap.objs.size := by simpa using hm
      exact absurd lt (by rw [z]; exact Nat.lt_irrefl _)
    · rw [z, Heap.size_push] at lt
      exact absurd lt (Nat.not_lt.mpr (Nat.le_succ _))
end
end Sw
namespace Sw
open PySem PySem.Spec PyProof.Rows L2
/-- max(xs, default=d) of a list of ints -/
def rMaxD (K : PySem.W.Frag) : List V → List V → Hp → VK → Prop := fun vs zs H Q => ∃ (a : Addr) (ns : List Int) (d : V), vs = [V.ref a] ∧ zs = [d] ∧ SqL K H a (ns.map V.int) ∧ (ns = [] → Q d H) ∧ ∀ m, m ∈ ns → (∀ y, y ∈ ns → y ≤ m) → Q (.int m) H
theorem crk_max {X : Cx} (hc : X.calm = true) : CallRK X (.builtin "max") ["default"] (rMaxD X.K) := by
  intro pins s σ H vs zs us ws Q I r rz h
  obtain ⟨a, ns, d, rfl, rfl, hs, q0, q1⟩ := h
  obtain ⟨its, rv, hl, _⟩ := I.list hs
  rw [Vals.ref1 r]
  cases rz with
  | @cons _ du _ _ rd rz =>
    cases rz
    obtain ⟨xs, e⟩ := rv.ints.allInts.items
    have hn : numsOf (intItems xs).toList = ns := by rw [← e]; exact rv.ints.numsOf
    rw [nums_intItems] at hn
    have hl2 := hl.isList
    rw [e] at hl2
    subst hn
    refine mxd_ints (d := du) (I.ok.hd hc) hl2 fun v h' tk e0 e1 hk => ?_
    cases hz : xs.size with
    | zero =>
      rw [e0 hz]
      refine ⟨d, H, I.kept hk, rd, q0 ?_⟩
      have : xs = #[] := Array.eq_empty_of_size_eq_zero hz
      rw [this]
      rfl
    | succ k =>
      have hv := e1 (by omega)
      obtain ⟨t, rfl⟩ := intItems_at hv
      obtain ⟨h1, h2⟩ := argBest_gt (numAt xs) (xs.size - 1)
      refine ⟨.int _, H, I.kept hk, ⟨t, rfl⟩, q1 _ ?_ fun y hy => ?_⟩
      · rw [numAt_eq]
        exact PySem.getD_mem (by rw [List.length_map, Array.length_toList]; omega)
      · obtain ⟨j, hj, rfl⟩ := mem_getD hy
        rw [List.length_map, Array.length_toList] at hj
        rw [← numAt_eq]
        exact h2 j (by omega)
end Sw
set_option Elab.async false
set_option linter.all false
set_option maxRecDepth 100000
set_option maxHeartbeats 2000000
/-! The head's facts: any closed test of the written part. -/
namespace Sw
open PySem PySem.Spec PyProof.Rows L2 He
abbrev Fb : Type := PySem.W.Frag → Bool
def asR (g : Addr → Option Obj) (roots : List Addr) : Nat → List Addr
  | 0 => roots
  | n + 1 => growD g (asR g roots n)
def obsF (fa : List Fb) (fn : List DefD) (K : PySem.W.Frag) : AlD := ((fa.all fun f => f K) && fn.all fun d => d.ok K, fn.map fun d => fnW K d.at_)
def SaysF (fa : List Fb) (fn : List DefD) (K : PySem.W.Frag) : Prop := obsF fa fn K = valD fn
abbrev roots : List Addr := [mainGlobals, cStatics]
def obsFG (n : Nat) (fa : List Fb) (fn : List DefD) (g : Addr → Option Obj) : AlD := obsF fa fn (frG g (asR g roots n))
def hookF (n : Nat) (fa : List Fb) (fn : List DefD) : PySem.W.Hook where
  α := AlD
  obs := fun s => obsFG n fa fn s.heap.get?
  val := fun _ => valD fn
  says := fun _ h => ∃ K : PySem.W.Frag, K.In h ∧ SaysF fa fn K
  of := fun _ _ e => ⟨_, frG_in, e⟩
  keeps := fun _ _ _ ⟨K, hK, c⟩ k => ⟨K, PySem.W.Frag.In.keeps hK k, c⟩
theorem obsFG_eq {n : Nat} {fa : List Fb} {fn : List DefD} {g : Addr → Option Obj} {s : Shared} (h : ∀ a, g a = s.heap.get? a) : obsFG n fa fn g = (hookF n fa fn).obs s := by
  have e : g = s.heap.get? := funext h
  rw [e] <;> rfl
section
variable {fa : List Fb} {fn : List DefD} {K : PySem.W.Frag}
theorem SaysF.fact (c : SaysF fa fn K) (i : Nat) {f : Fb} (h : fa[i]? = some f := by rfl) : f K = true :=
  List.all_eq_true.mp (ba (show ((fa.all fun f => f K) && fn.all fun d => d.ok K) = true from congrArg (fun z : AlD => z.1) c)).1 f (List.mem_of_getElem? h)
theorem SaysF.def_ (c : SaysF fa fn K) (i : Nat) {d : DefD} (h : fn[i]? = some d := by rfl) : ∃ fd, FunD K d.name d.qual d.params d.body d.scope (d.dvs K) (d.kws K) (fAd K d.at_) fd := by
  have e2 : (fn.map fun d => fnW K d.at_)[i]? = (fn.map DefD.val)[i]? := congrArg (fun z : AlD => z.2[i]?) c
  rw [List.getElem?_map, List.getElem?_map, h] at e2
  exact DefD.funD (Option.some.inj e2) (List.all_eq_true.mp (ba (show ((fa.all fun f => f K) && fn.all fun d => d.ok K) = true from congrArg (fun z : AlD => z.1) c)).2 d (List.mem_of_getElem? h))
end
end Sw
set_option Elab.async false
set_option linter.all false
set_option maxRecDepth 100000
set_option maxHeartbeats 2000000
/-! Own error classes over ValueError whose __init__ hands on to a base's: what the written part says, the promises, raise. -/
namespace Sw
open PySem PySem.Spec PyProof.Rows L2 He

/-! ### tests of the written part -/
def oexB (K : PySem.W.Frag) (C : Addr) : Bool := (match K.lookup C with
  | some ⟨.type c, _, .cls cd, sl⟩ => decide (c = "type") && (match cd.mro, sl.toList with
    | .ref C' :: bm, [_, _, _, _, some (.builtin n), _] => decide (C' = C) && (decide (n = "ValueError.__new__") && (cd.hasDict && (!cd.hasDel && PySem.HandSPX.refsVE bm)))
    | _, _ => false)
  | _ => false) && (eqO (PySem.W.findIn K (.ref C) "__setattr__") (some (some (.builtin "object.__setattr__"))) && (decide (PySem.W.subIn K (.ref C) (.type "BaseException") = some true) && (decide (PySem.W.typeIn K (.ref C) = some (.type "type")) && PySem.W.keepIn K (.ref C))))
theorem oexB_ok {K : PySem.W.Frag} {C : Addr} (h : oexB K C = true) : OexC K C := by
  obtain ⟨h1, h⟩ := ba h
  obtain ⟨h2, h⟩ := ba h
  obtain ⟨h3, h⟩ := ba h
  obtain ⟨h4, h5⟩ := ba h
  refine ⟨?_, eqO_ok h2, of_decide_eq_true h3, of_decide_eq_true h4, h5⟩
  split at h1
  · rename_i c dd cd sl lk
    obtain ⟨hc, h1⟩ := ba h1
    split at h1
    · rename_i C' bm k0 k1 k2 k3 n k5 hm hs
      obtain ⟨e1, h1⟩ := ba h1
      obtain ⟨e2, h1⟩ := ba h1
      obtain ⟨e3, h1⟩ := ba h1
      obtain ⟨e4, e5⟩ := ba h1
      obtain ⟨nm, bs, mro, ns, qn, hd, sn, sub, ab, col, del⟩ := cd
      obtain rfl := of_decide_eq_true hc
      obtain rfl := of_decide_eq_true e1
      obtain rfl := of_decide_eq_true e2
      have hsl : sl = #[k0, k1, k2, k3, some (.builtin "ValueError.__new__"), k5] := by
        obtain ⟨l⟩ := sl
        exact congrArg Array.mk hs
      have hm : mro = Value.ref C' :: bm := hm
      have hhd : hd = true := e3
      have hdl : del = false := by
        cases del with
        | false => rfl
        | true => cases e4
      subst hm hhd hdl hsl
      exact ⟨nm, qn, ns, bs, bm, sn, sub, ab, col, dd, k0, k1, k2, k3, k5, lk, e5⟩
    · cases h1
  · cases h1
def excB (K : PySem.W.Frag) (D : Addr) : Bool := eqO (PySem.W.findIn K (.ref D) "__getattribute__") (some (some (.builtin "BaseException.__getattribute__"))) && (eqO (PySem.W.findIn K (.ref D) "__getattr__") (some none) &&
  (PySem.W.hasDictIn K D && (eqO (PySem.W.findIn K (.ref D) "__class__") (some (some (.builtin "object.__class__"))) && (eqO (PySem.W.specialIn K (.builtin "object.__class__") "__get__") (some (some (.builtin "getset_descriptor.__get__"))) &&
  (decide (PySem.W.takesIn K (.builtin "object.__class__") = some true) && decide (PySem.W.mroIn K D (.type "object") = some true))))))
theorem excB_ok {K : PySem.W.Frag} {D : Addr} (o : OexC K D) (h : excB K D = true) : ExcC K D := by
  obtain ⟨h1, h⟩ := ba h
  obtain ⟨h2, h⟩ := ba h
  obtain ⟨h3, h⟩ := ba h
  obtain ⟨h4, h⟩ := ba h
  obtain ⟨h5, h⟩ := ba h
  obtain ⟨h6, h7⟩ := ba h
  exact ⟨eqO_ok h1, eqO_ok h2, o.exC, h3, eqO_ok h4, eqO_ok h5, of_decide_eq_true h6, of_decide_eq_true h7⟩
def clsRd (K : PySem.W.Frag) (C : Addr) : Bool := PySem.W.readsIn K C (.type "type") && eqO (PySem.W.specialIn K (.ref C) "__getattribute__") (some (some (.builtin "type.__getattribute__")))
def slStr (sl : Array (Option Value)) : Bool := match sl[2]? with
  | some (some (Value.str _ _)) => true
  | _ => false
theorem slStr_ok {sl : Array (Option Value)} (h : slStr sl = true) : ∃ z tk, sl[2]? = some (some (Value.str z tk)) := by
  unfold slStr at h
  split at h
  · rename_i z tk e
    exact ⟨z, tk, e⟩
  · cases h
def namB (K : PySem.W.Frag) (C : Addr) : Bool := (match PySem.W.findCls K (.ref C) (.type "type") "__name__" with
  | some (.get (.builtin g) (.builtin a) (.ref C') (.type t)) => decide (g = "getset_descriptor.__get__") && (decide (a = "type.__name__") && (decide (C' = C) && decide (t = "type")))
  | _ => false) && (match K.lookup C with
  | some ⟨.type c, _, _, sl⟩ => decide (c = "type") && slStr sl
  | _ => false)
theorem namB_ok {K : PySem.W.Frag} {C : Addr} (r : clsRd K C = true) (h : namB K C = true) : ∃ z, NamC K C z := by
  obtain ⟨h1, h2⟩ := ba h
  obtain ⟨r1, _⟩ := ba r
  split at h1
  · rename_i g a C' t e
    obtain ⟨e1, h1⟩ := ba h1
    obtain ⟨e2, h1⟩ := ba h1
    obtain ⟨e3, e4⟩ := ba h1
    obtain rfl := of_decide_eq_true e1
    obtain rfl := of_decide_eq_true e2
    obtain rfl := of_decide_eq_true e3
    obtain rfl := of_decide_eq_true e4
    split at h2
    · rename_i c dd dt sl lk
      obtain ⟨hc, h2⟩ := ba h2
      obtain rfl := of_decide_eq_true hc
      obtain ⟨z, tk, hz⟩ := slStr_ok h2
      exact ⟨z, r1, e, _, tk, lk, rfl, hz⟩
    · cases h2
  · cases h1
def clfnB (K : PySem.W.Frag) (C : Addr) (m : Str) : Bool := clsRd K C && (match PySem.W.findCls K (.ref C) (.type "type") m with
  | some (.val (.ref f)) => decide (f = ma K C m)
  | _ => false)
theorem clfnB_ok {K : PySem.W.Frag} {C : Addr} {m : Str} (h : clfnB K C m = true) : ClFn K C m (ma K C m) := by
  obtain ⟨h1, h2⟩ := ba h
  obtain ⟨r1, r2⟩ := ba h1
  split at h2
  · rename_i f e
    obtain rfl := of_decide_eq_true h2
    exact ⟨r1, eqO_ok r2, e⟩
  · cases h2
def veinB (K : PySem.W.Frag) : Bool := match PySem.W.findCls K (.type "ValueError") (.type "type") "__init__" with
  | some (.val (.builtin b)) => decide (b = "ValueError.__init__")
  | _ => false
theorem veinB_ok {K : PySem.W.Frag} (h : veinB K = true) : PySem.W.findCls K (.type "ValueError") (.type "type") "__init__" = some (.val (.builtin "ValueError.__init__")) := by
  unfold veinB at h
  split at h
  · rename_i b e
    obtain rfl := of_decide_eq_true h
    exact e
  · cases h
/-- an own error class, its __init__ a def -/
def errB (K : PySem.W.Frag) (C : Addr) : Bool := oexB K C && (excB K C && (clsRd K C && (namB K C && (eqO (PySem.W.findIn K (.ref C) "value") (some none) &&
  (eqO (PySem.W.findIn K (.ref C) "__init__") (some (some (.ref (ma K C "__init__")))) && decide (PySem.W.typeIn K (.ref (ma K C "__init__")) = some (.type "function")))))))
structure ErrC (K : PySem.W.Frag) (C : Addr) : Prop where
  o : OexC K C
  e : ExcC K C
  n : ∃ z, NamC K C z
  nv : PySem.W.findIn K (.ref C) "value" = some none
  ini : PySem.W.findIn K (.ref C) "__init__" = some (some (.ref (ma K C "__init__")))
  inT : PySem.W.typeIn K (.ref (ma K C "__init__")) = some (.type "function")
theorem errB_ok {K : PySem.W.Frag} {C : Addr} (h : errB K C = true) : ErrC K C := by
  obtain ⟨h1, h⟩ := ba h
  obtain ⟨h2, h⟩ := ba h
  obtain ⟨h3, h⟩ := ba h
  obtain ⟨h4, h⟩ := ba h
  obtain ⟨h5, h⟩ := ba h
  obtain ⟨h6, h7⟩ := ba h
  have o := oexB_ok h1
  exact ⟨o, excB_ok o h2, namB_ok h3 h4, eqO_ok h5, eqO_ok h6, of_decide_eq_true h7⟩
theorem ErrC.xf {K : PySem.W.Frag} {C : Addr} (T : ErrC K C) : XfC K C := ⟨T.e.hg, T.e.hk, T.o.exC, T.e.hd⟩

/-! ### the promise of such an __init__(self, value) -/
def spEInit (K : PySem.W.Frag) : Sp := fun vs H Q _ => ∃ (a C : Addr) (v : V), vs = [.ref a, v] ∧ H a = some (exo a C none) ∧ ErrC K C ∧ ∀ dx, H dx = none → dx ≠ a → Q .non (upd (upd H dx (exd dx [("value", v)])) a (exo a C (some dx)))
theorem spEInit_len {K : PySem.W.Frag} : ∀ vs H Q E, spEInit K vs H Q E → vs.length = ["self", "value"].length := fun vs H Q E h => by
  obtain ⟨a, C, v, rfl, _⟩ := h
  rfl

/-! ### C(e, ..) as what is raised, nothing being handled: its context is None -/
theorem pmkN_oex {X : Cx} {CX : CXT} {x : Str} {e : Expr} {es : List Expr} {ta : TA} {p pos : Pos} {C fI : Addr} {k : Nat} {fd : FuncData} {ps : List Str} {sp : Sp} {ds : List Value} {dvs : List V} (T : OexC X.K C) (iC : PySem.W.findIn X.K (.ref C) "__init__" = some (some (.ref fI)))
    (tI : PySem.W.typeIn X.K (.ref fI) = some (.type "function")) (F1 : FnOk X.prog X.w X.K X.mg X.base CX k fI fd ps sp) (hr : Room (k + 1) X.A) (hb : Binds X.K fd ps ds) (hd : Vals dvs ds) (hx : Passes CX X (fun _ _ _ => False)) (hg : Gl X x) (hm : X.mg x = some (.ref C)) (ha : PA X (e :: es) ta)
    (hdb : (x == ("__debug__" : Str)) = false := by decide) (he : starEach (e :: es) X.env = (false, eval e X.env) :: starEach es X.env := by rfl) (hpl : (backTo pos (starEach es X.env)).any (·.1) = false := by rfl) :
    L2N.PMk X (.Call (.Name x p) (e :: es) [] pos) (tMkO C sp dvs ta) := by
  intro pins s σ H Q I h
  obtain ⟨nm, q, N, bs, bm, sn, sub, ab, col, dd, k0, k1, k2, k3, k5, hC, hbm⟩ := T.cls
  refine wpAny_Call_Name_kw (ld_glob I hg hm ?_ hdb)
  refine PySem.W.callWith_K (h₀ := X.base) I.ok.mod.kin T.kC (thn (ha.run pos pins s σ H _ I h) fun us s1 ⟨vs, H1, I1, r1, hz, q1⟩ => ⟨I1.kIn, ?_⟩) he hpl
  obtain ⟨hp, g, dr, tk, os⟩ := s1
  -- the new exception stands behind its tuple of arguments
  generalize ea0 : hp.objs.size + 1 = a0
  have le0 : hp.objs.size ≤ a0 := by omega
  have free0 : H1 a0 = none := I1.hok.fresh le0
  have hq := q1 a0 free0
  have keep0 : ∀ b o, hp.get? b = some o → ((hp.push (PySem.W.kdv_tup us)).push (PySem.HandSPX.excO C hp.objs.size)).get? b = some o := fun b o e => Heap.get?_push_of_some _ (Heap.get?_push_of_some _ e)
  have get0 : ((hp.push (PySem.W.kdv_tup us)).push (PySem.HandSPX.excO C hp.objs.size)).get? a0 = some (PySem.HandSPX.excO C hp.objs.size) := by
    rw [← ea0]
    heap_get
  have I2 := I1.laid (t' := tk) (a := a0) (o := exo a0 C none) keep0 le0 (exo_ok get0)
  have r2 : Vals (V.ref a0 :: (vs ++ dvs)) (Value.ref a0 :: (us ++ ds)) := .cons rfl (r1.append hd)
  have hl : (Value.ref a0 :: us ++ ds).length = ps.length := (r2.length).symm.trans (F1.len _ _ _ _ hq)
  have hus : us.length ≤ sizeLine := by
    rw [← Paired.length r1, sizeLine_eq]
    omega
  subst ea0
  refine wpAny_call (PySem.HandSPX.call_own F.excBase_ValueError (fun Y => PySem.HandSPX.refsVE_contains Y bm hbm) (I1.kIn _ _ hC) (PySem.W.looks_findIn I1.kIn iC) (fun self => PySem.W.bind_fn I1.kIn self tI) hus
    (codeAny_mono (F1.run _ X.stack _ _ ⟨Value.ref (hp.objs.size + 1) :: us, []⟩ _ _ _ (fun _ _ _ => False) (hr.make C us []) (I2.env0.make C us []) (hb _ _ I2.kIn hl) r2 hq) fun r s' hq' => ?_))
  cases r with
  | error er => exact hx pins σ _ _ er s' I2 hq'
  | ok fl =>
    cases fl with
    | ret u =>
      obtain ⟨v, H2, os2, bare2, un2, hok2, rv, ev, d, fs, ea, ed, hd1, q2⟩ := hq'
      subst ev
      obtain ⟨h2, g2, d2, t2, os'⟩ := s'
      obtain ⟨t0, G, J, kG, ge, hoe, na⟩ := mk_end0 (d2 := d2) (t2 := t2) I1 le0 keep0 un2 hok2 os2 bare2 ea ed hd1
      refine ⟨rv, _, _, _, ⟨G, g2, d2, t2, os'⟩, _, .ref C, some d, rfl, J, kG, ge, hoe, ⟨rfl, rfl, fun ws hv => ?_⟩, rfl, rfl, na, rfl, bare2, raises_own T.exC T.tyC, q2⟩
      cases hv
      rfl
    | _ => exact hq'.elim
end Sw
set_option Elab.async false
set_option linter.all false
set_option maxRecDepth 100000
set_option maxHeartbeats 2000000
/-! Operators of own classes: a class without a reflected method, an instance of a subclass on the right. -/
namespace Sw
open PySem PySem.W PySem.Calls PyProof.Rows Builtin
section
variable {α : Type} {prog : Program} {w : World} {A : Around} {E : Value → Shared → Prop} {s : Shared} {K : Frag} {C D x y f g : Addr} {ox oy : Obj} {od oe : Option Obj} {nm : String}
theorem raiseStr_attr {M : Model} {msg : PySem.Str} {Q : α → Shared → Prop} (hh : A.handled = none)
    (h : ∀ h' tk e, Heap.NewExcOf s.heap h' e "AttributeError" → E (.ref e) { s with heap := h', toks := tk }) (hm : msg.length ≤ sizeLine) : wpAny M A (raiseErrorStr "AttributeError" msg : Sem α) Q E s := by
  unfold raiseErrorStr
  refine wpAny_bind (wpAny_mkStr (wpAny_bind ?_) hm)
  unfold newExc newTuple
  refine wpAny_bind (wpAny_newObj_type ?_ (by size_fits))
  refine wpAny_bind (m := firstArgMember _ _) (wpAny_of_eq (a := Value.none) (by simp only [firstArgMember, attrError_no_first]; rfl) ?_)
  rw [ownMembersOf_AttributeError]
  refine wpAny_newObj_type ?_ (by size_fits)
  unfold raiseNew
  refine wpAny_bind (wpAny_handled ?_)
  rw [hh]
  first
    | refine wpAny_throw ?_
    | refine wpAny_bind (wpAny_pure (wpAny_throw ?_))
  exact h _ _ _ ⟨fun b o hb => Heap.get?_push_of_some _ (Heap.get?_push_of_some _ hb), Heap.get?_none_of_le (by simp), _, _, Heap.get?_push_size _ rfl, rfl, rfl, rfl⟩
/-- the class's name -/
def nameB (K : Frag) (C : Addr) (z : String) : Bool := match clsIn K C with
  | some cd => decide (cd.name = PySem.Str.ofString z)
  | none => false
/-- a short name -/
def ShortOk (z : String) : Prop := (PySem.Str.ofString z).cps.foldl (fun k c => k + (PySem.Str.utf8Of c).length) 0 ≤ 100 ∧ PySem.Str.length (PySem.Str.ofString s!"type object '{(PySem.Str.ofString z).toString}' has no attribute '") ≤ 1000
theorem looks_cut {M : Model} {h : Heap} {z : String} (X : K.In h) (e : nameB K C z = true) (k : ShortOk z) : Looks M h (typeNameCut 100 (.ref C)) (PySem.Str.ofString z).toString := by
  unfold nameB at e
  split at e
  · rename_i cd hc
    have e := of_decide_eq_true e
    unfold typeNameCut
    refine (looks_clsIn X hc).andThen ?_
    dsimp only
    rw [e, if_pos k.1]
    exact .now
  · cases e
/-- what a class without an attribute of a name must tell -/
structure NoCls (K : Frag) (C : Addr) (name : PySem.Str) : Prop where
  rd : readsIn K C (.type "type") = true
  m1 : findIn K (.type "type") name = some none
  m2 : findIn K (.ref C) name = some none
  sh : ∃ z, nameB K C z = true ∧ ShortOk z
theorem type_getattr_none : typeLookup (.type "type") "__getattr__" = pure none := by rw [typeLookup_type, builtinLookup_eq_fast]; kernel_rfl
theorem tga_miss {name : PySem.Str} {tk : Tok} {Q : Fin → Shared → Prop} (X : K.In s.heap) (N : NoCls K C name) (hn : name.length ≤ 100) (hh : A.handled = none)
    (h : ∀ h' tk e, Heap.NewExcOf s.heap h' e "AttributeError" → E (.ref e) { s with heap := h', toks := tk }) : wpAny (model prog w) A (Builtin.«type.__getattribute__» ⟨[.ref C, .str name tk], []⟩) Q E s := by
  have hr := N.rd
  simp only [readsIn, Bool.and_eq_true, beq_iff_eq] at hr
  obtain ⟨⟨⟨⟨a, b⟩, c'⟩, d⟩, f⟩ := hr
  obtain ⟨z, e5, hz⟩ := N.sh
  have L5 := looks_cut (M := model prog w) X e5 hz
  have hz := hz.2
  have ho : Looks (model prog w) s.heap (opaqueClassAbove (.ref C)) none := looks_opaque X a
  have ht : Looks (model prog w) s.heap (typeOf (.ref C)) (.type "type") := looks_typeIn X b
  have L1 := looks_findIn (M := model prog w) X N.m1
  have L4 := looks_findIn (M := model prog w) X N.m2
  obtain ⟨hh', g, dd, t, os⟩ := s
  unfold Builtin.«type.__getattribute__»
  refine wpAny_bind (wpAny_pure (wpAny_bind (ho.at (wpAny_bind (ht.at (wpAny_bind (L1.at ?_)))))))
  dsimp only
  refine wpAny_bind (wpAny_pure (wpAny_bind (L4.at ?_)))
  dsimp only
  refine wpAny_bind (wpAny_rule ?_)
  refine wpAny_bind (L5.at ?_)
  refine raiseStr_attr hh h ?_
  rw [strLen_append, strLen_append]
  have e1 : (PySem.Str.ofString "'").length = 1 := by decide
  have e2 : sizeLine = 16777216 := sizeLine_eq
  omega
/-- getattr(C, name) is looked for and not there -/
theorem cls_none {name : PySem.Str} {tk : Tok} {Q : Option Value → Shared → Prop} (X : K.In s.heap) (N : NoCls K C name) (hn : name.length ≤ 100) (hh : A.handled = none)
    (h : ∀ h' tk, (∀ b o, s.heap.get? b = some o → h'.get? b = some o) → Q none { s with heap := h', toks := tk }) : wpAny (model prog w) A (getAttrBy? (.ref C) (.str name tk)) Q E s := by
  have hr := N.rd
  simp only [readsIn, Bool.and_eq_true, beq_iff_eq] at hr
  obtain ⟨⟨⟨⟨a, b⟩, c'⟩, d⟩, f⟩ := hr
  have ht : Looks (model prog w) s.heap (typeOf (.ref C)) (.type "type") := looks_typeIn X b
  have Lga := looks_findIn (M := model prog w) X c'
  have Lsub : Looks (model prog w) s.heap (isInstance (.ref C) (.type "type")) true := ht.andThen (looks_subIn X f)
  obtain ⟨hp, g, dr, t, os⟩ := s
  unfold getAttrBy? getAttrBy
  refine wpAny_bind (wpAny_attempt (wpAny_holding (wpAny_bind (ht.at (wpAny_bind (Lga.at ?_))))))
  dsimp only
  rw [show (onTheHeap (Value.type "type") && Value.builtin "type.__getattribute__" == Value.builtin "object.__getattribute__") = false from by decide +kernel, if_neg (by decide)]
  unfold getAttrByItsOwn
  refine wpAny_bind (m := hookBefore _) (wpAny_pure (wpAny_bind (wpAny_attempt (wpAny_holding ?_))))
  unfold callGetattribute
  rw [show (false && onTheHeap (Value.builtin "type.__getattribute__")) = false from rfl, if_neg (by decide)]
  unfold boundAndCalled
  rw [KF.slot_tga.bind]
  refine wpAny_bind (wpAny_pure ?_)
  show wpAny _ _ (call (.builtin "type.__getattribute__") [.ref C, .str name tk]) _ _ _
  refine wpAny_call ?_
  refine codeAny_call_builtin KF.slot_tga.plain KF.entry_tga ?_
  refine @check_slot (model prog w) _ _ ⟨hp, g, dr, t, os⟩ "type.__getattribute__" "type" "__getattribute__" (.ref C) [.str name tk] [] _ (by decide +kernel) (by decide +kernel) Lsub (KF.args_tga (.ref C) (.str name tk)) ?_
  refine tga_miss X N hn hh fun h' tk' e ne => ?_
  obtain ⟨ob, vs, he, hc, hd, h1⟩ := ne.there
  have inst : ∀ {Q : Bool → Shared → Prop} {E : Value → Shared → Prop}, Q true ⟨h', g, dr, tk', os⟩ → wpAny (model prog w) A (isInstance (.ref e) (.type "AttributeError")) Q E ⟨h', g, dr, tk', os⟩ := fun q =>
    wpAny_isInstance (T := "AttributeError") ⟨_, he, hc⟩ sub_AttributeError q
  show wpAny _ _ (getattributeRaised _ _ _ _ _ _ _) _ _ _
  unfold getattributeRaised
  refine wpAny_bind (inst ?_)
  rw [if_pos rfl]
  have hb : hookBehind (Value.type "type") none = pure none := type_getattr_none
  rw [hb]
  refine wpAny_bind (wpAny_pure ?_)
  show wpAny _ _ (attributeErrorLeaves _ _ _ false false) _ _ _
  unfold attributeErrorLeaves
  rw [if_pos (show (!false) = true from rfl)]
  refine wpAny_throw ?_
  refine wpAny_bind (inst ?_)
  rw [if_pos rfl]
  exact wpAny_pure (h h' tk' ne.keeps)
/-- what two own classes must tell for x op y, f the left one's method -/
structure BinP (K : Frag) (nm : String) (C D f : Addr) : Prop where
  fC : selfFirst K C = true
  fD : selfFirst K D = true
  sC : findIn K (.ref C) (PySem.dunder nm) = some (some (.ref f))
  sF : isFn K (.ref f) = true
  sD : ∃ g : Addr, findIn K (.ref D) (PySem.dunder nm) = some (some (.ref g))
  rC : findIn K (.ref C) (dunderR nm) = some none
  nD : NoCls K D (dunderR nm)
  sub : ∃ b, subIn K (.ref D) (.ref C) = some b
theorem refl_no {Q : Bool → Shared → Prop} (X : K.In s.heap) (P : BinP K nm C D f) (hn : (dunderR nm).length ≤ 100) (hh : A.handled = none)
    (h : ∀ h' tk, (∀ b o, s.heap.get? b = some o → h'.get? b = some o) → Q false { s with heap := h', toks := tk }) : wpAny (model prog w) A (reflectedDiffers (.ref C) (.ref D) nm) Q E s := by
  obtain ⟨g, sD⟩ := P.sD
  have L6 : Looks (model prog w) s.heap (numberSlotInPython (.ref C) nm) true := ksp_inPy X P.sC P.rC (.inl rfl)
  have L7 : Looks (model prog w) s.heap (numberSlotInPython (.ref D) nm) true := ksp_inPy X sD P.nD.m2 (.inl rfl)
  obtain ⟨hp, gg, dr, t, os⟩ := s
  unfold reflectedDiffers
  refine wpAny_bind (L6.at ?_)
  rw [if_neg (by decide)]
  refine wpAny_bind (L7.at ?_)
  rw [if_neg (by decide)]
  refine wpAny_bind (wpAny_mkStr ?_ (by rw [sizeLine_eq]; omega))
  refine wpAny_bind (cls_none (s := ⟨hp, gg, dr, _, os⟩) X P.nD hn hh fun h' tk k => ?_)
  exact wpAny_pure (h h' tk k)
theorem inst_keeps {h h' : Heap} (I : InstAt h x ox C od) (k : ∀ b o, h.get? b = some o → h'.get? b = some o) : InstAt h' x ox C od := ⟨k _ _ I.at_, I.cls, I.no, by
  have d := I.dict
  revert d
  cases ox.dict with
  | none => cases od <;> exact fun d => d
  | some dx => cases od with
    | none => exact fun d => d
    | some o => exact fun d => k _ _ d⟩
theorem own_bin {op : Operator} {Q : Value → Shared → Prop} (X : K.In s.heap) (Ia : InstAt s.heap x ox C od) (Ib : InstAt s.heap y oy D oe) (P : BinP K op.info.2 C D f) (hn : (dunderR op.info.2).length ≤ 100) (hh : A.handled = none)
    (h : ∀ (h' : Heap) tk, (∀ b o, s.heap.get? b = some o → h'.get? b = some o) → wpAny (model prog w) A (call (.ref f) [.ref x, .ref y]) (PySem.W.CmpBack Q) E { s with heap := h', toks := tk }) : wpAny (model prog w) A (binaryOp op (.ref x) (.ref y)) Q E s := by
  obtain ⟨g, sD⟩ := P.sD
  obtain ⟨b, hsub⟩ := P.sub
  obtain ⟨cd, rest, hcd, hm⟩ := ksp_first P.fC
  obtain ⟨cdD, restD, hcdD, hmD⟩ := ksp_first P.fD
  rcases hi : op.info with ⟨sym, nm'⟩
  rw [hi] at P hn sD
  dsimp only at P hn sD
  obtain ⟨hp, gg, dr, t, os⟩ := s
  have L1 : Looks (model prog w) hp (typeOf (.ref x)) (.ref C) := Ia.type
  have L2 : Looks (model prog w) hp (typeOf (.ref y)) (.ref D) := Ib.type
  have L3 : Looks (model prog w) hp (fillsNumberSlot (.ref C) nm') true := fills_K X hcd hm P.sC
  have L4 : Looks (model prog w) hp (fillsNumberSlot (.ref D) nm') true := fills_K X hcdD hmD sD
  have L5 : Looks (model prog w) hp (isSubtype (.ref D) (.ref C)) b := looks_subIn X hsub
  have one : ∀ (h' : Heap) tk, (∀ b o, hp.get? b = some o → h'.get? b = some o) → wpAny (model prog w) A (tryMethod (.ref x) (PySem.dunder nm') (.ref y)) (fun r s' => ∃ v, r = some v ∧ Q v s') E ⟨h', gg, dr, tk, os⟩ := fun h' tk k =>
    ksp_try (s := ⟨h', gg, dr, tk, os⟩) (X.keeps k) (inst_keeps Ia k) P.sC P.sF (h h' tk k)
  simp only [binaryOp, hi]
  refine wpAny_holding (wpAny_bind ?_)
  unfold binaryOp1
  refine wpAny_bind (L1.at (wpAny_bind (L2.at (wpAny_bind (L3.at ?_)))))
  by_cases hCD : C = D
  · subst hCD
    simp only [beq_self_eq_true, if_true]
    refine wpAny_bind (wpAny_pure ?_)
    simp only [Bool.and_false, Bool.false_eq_true, if_false, Bool.false_and]
    refine wpAny_bind (wpAny_pure ?_)
    simp only [Bool.false_eq_true, if_false]
    refine wpAny_bind (wpAny_mono (one hp t fun _ _ z => z) (fun r s' hr' => ?_) fun _ _ e => e)
    obtain ⟨v, rfl, hq⟩ := hr'
    exact wpAny_pure (wpAny_pure hq)
  have hne : (Value.ref C == Value.ref D) = false := Bool.eq_false_iff.mpr fun q => hCD (by cases beq_iff_eq.mp q; rfl)
  simp only [hne, Bool.false_eq_true, if_false]
  refine wpAny_bind (L4.at ?_)
  simp only [Bool.and_self, if_true]
  have L6 : ∀ h' : Heap, (∀ b o, hp.get? b = some o → h'.get? b = some o) → Looks (model prog w) h' (numberSlotInPython (.ref C) nm') true := fun h' k => ksp_inPy (X.keeps k) P.sC P.rC (.inl rfl)
  have L7 : ∀ h' : Heap, (∀ b o, hp.get? b = some o → h'.get? b = some o) → Looks (model prog w) h' (numberSlotInPython (.ref D) nm') true := fun h' k => ksp_inPy (X.keeps k) sD P.nD.m2 (.inl rfl)
  refine wpAny_bind (L5.at ?_)
  cases b with
  | false =>
    rw [if_neg (by decide)]
    rw [if_pos (by decide)]
    refine wpAny_bind ((L6 hp fun _ _ z => z).at ?_)
    rw [if_pos rfl]
    refine wpAny_bind ((L7 hp fun _ _ z => z).at ?_)
    rw [if_neg (by decide)]
    refine wpAny_bind (wpAny_mono (one hp t fun _ _ z => z) (fun r s' hr' => ?_) fun _ _ e => e)
    obtain ⟨v, rfl, hq⟩ := hr'
    exact wpAny_pure (wpAny_pure hq)
  | true =>
    rw [if_pos rfl]
    refine wpAny_bind (refl_no (s := ⟨hp, gg, dr, t, os⟩) X P hn hh fun h' tk k => ?_)
    rw [if_neg (by decide)]
    rw [if_pos (by decide)]
    refine wpAny_bind ((L6 h' k).at ?_)
    rw [if_pos rfl]
    refine wpAny_bind ((L7 h' k).at ?_)
    rw [if_neg (by decide)]
    refine wpAny_bind (wpAny_mono (one h' tk k) (fun r s' hr' => ?_) fun _ _ e => e)
    obtain ⟨v, rfl, hq⟩ := hr'
    exact wpAny_pure (wpAny_pure hq)
/-- x op n, n of a built-in type that knows the operator, too -/
structure BinT (K : Frag) (nm : String) (C f : Addr) (T : String) : Prop where
  fC : selfFirst K C = true
  sC : findIn K (.ref C) (PySem.dunder nm) = some (some (.ref f))
  sF : isFn K (.ref f) = true
  rC : findIn K (.ref C) (dunderR nm) = some none
  sT : ∃ a b, findIn K (.type T) (PySem.dunder nm) = some a ∧ findIn K (.type T) (dunderR nm) = some b
  sub : subIn K (.type T) (.ref C) = some false
end
end Sw
namespace Sw
open PySem PySem.Spec PyProof.Rows L2
section
variable {X : Cx} {CX : CXT} {k : Nat} {f : Addr} {fd : FuncData} {ps : List Str} {sp : Sp} {E : XK}
/-- what an operator's method gives: an object -/
abbrev QRef (Q : VK) : VK := fun v H2 => (∃ r, v = .ref r) ∧ Q v H2
theorem run_back {pins : List (Addr × Obj)} {σ : L2.St} {H : Hp} {s : Shared} {Q : VK} {us : List Value} {vs : List V} (F : FnOk X.prog X.w X.K X.mg X.base CX k f fd ps sp) (hr : Room k X.A) (hb : Binds X.K fd ps []) (hx : Passes CX X E)
    (I : Inv X pins σ H s) (r : Vals vs us) (h : sp vs H (QRef Q) E) : wpAny (model X.prog X.w) X.A (call (.ref f) us) (PySem.W.CmpBack (EP X pins σ Q)) X.xe s := by
  refine wpAny_mono (run_fn (Q := QRef Q) F hr hb .nil hx I r (by rw [List.append_nil]; exact h)) (fun u s' hu => ?_) fun _ _ z => z
  obtain ⟨v, H', I', rv, ⟨a, rfl⟩, q⟩ := hu
  obtain rfl : u = Value.ref a := rv
  exact ⟨V.ref a, H', I', rfl, q⟩
/-- x op y, both instances of own classes -/
def rOwn (K : PySem.W.Frag) (nm : String) (f : Addr) (sp : Sp) (E : XK) : R2 := fun x y H Q => ∃ (a b C D dx dy : Addr) (fs gs : List (Str × V)), x = .ref a ∧ y = .ref b ∧ H a = some (.ins C dx fs) ∧ H b = some (.ins D dy gs) ∧ BinP K nm C D f ∧ sp [.ref a, .ref b] H (QRef Q) E
theorem op_own {op : Operator} (F : FnOk X.prog X.w X.K X.mg X.base CX k f fd ps sp) (hr : Room k X.A) (hb : Binds X.K fd ps []) (hx : Passes CX X E) (hc : X.calm = true) (hn : (dunderR op.info.2).length ≤ 100 := by decide) :
    OpR X (binaryOp op) (rOwn X.K op.info.2 f sp E) := by
  intro pins s σ H x y v u Q I rx ry h
  obtain ⟨a, b, C, D, dx, dy, fs, gs, rfl, rfl, ea, eb, P, q⟩ := h
  obtain rfl : v = Value.ref a := rx
  obtain rfl : u = Value.ref b := ry
  obtain ⟨mA, O, _⟩ := ins_get I.hok ea
  obtain ⟨mB, O2, _⟩ := ins_get I.hok eb
  obtain ⟨oda, Ia, _⟩ := O.look
  obtain ⟨odb, Ib, _⟩ := O2.look
  exact own_bin I.kIn Ia Ib P hn (I.ok.hd hc) fun h' tk kp => run_back (vs := [.ref a, .ref b]) F hr hb hx (I.kept (t' := tk) kp) (.cons rfl (.cons rfl .nil)) q
/-- x op n, n an int -/
def rOwnI (K : PySem.W.Frag) (nm : String) (f : Addr) (sp : Sp) (E : XK) : R2 := fun x y H Q => ∃ (a C dx : Addr) (fs : List (Str × V)) (i : Int), x = .ref a ∧ y = .int i ∧ H a = some (.ins C dx fs) ∧ BinT K nm C f "int" ∧ sp [.ref a, .int i] H (QRef Q) E
theorem op_ownI {op : Operator} (F : FnOk X.prog X.w X.K X.mg X.base CX k f fd ps sp) (hr : Room k X.A) (hb : Binds X.K fd ps []) (hx : Passes CX X E) : OpR X (binaryOp op) (rOwnI X.K op.info.2 f sp E) := by
  intro pins s σ H x y v u Q I rx ry h
  obtain ⟨a, C, dx, fs, i, rfl, rfl, ea, P, q⟩ := h
  obtain rfl : v = Value.ref a := rx
  obtain ⟨t, rfl⟩ := (show ∃ t, u = Value.int i t from ry)
  obtain ⟨mA, O, _⟩ := ins_get I.hok ea
  obtain ⟨oda, Ia, _⟩ := O.look
  obtain ⟨m, hn, _⟩ := I.loc
  obtain ⟨fo, ro, h1, h2⟩ := P.sT
  exact PySem.W.ksp_binT (T := "int") (h₀ := X.base) (m := m) (L := X.env.locals) ⟨hn, I.bk, Nat.le_trans I.ok.bsz I.ok.above⟩ I.ok.mod.kin Ia rfl P.fC P.sC P.sF P.rC (.inl rfl) h1 h2 P.sub (run_back (vs := [.ref a, .int i]) F hr hb hx I (.cons rfl (.cons ⟨t, rfl⟩ .nil)) q)
/-- - x, an instance of an own class -/
structure NegP (K : PySem.W.Frag) (C f : Addr) : Prop where
  s : PySem.W.findIn K (.ref C) "__neg__" = some (some (.ref f))
  sF : PySem.W.isFn K (.ref f) = true
def rOwnN (K : PySem.W.Frag) (f : Addr) (sp : Sp) (E : XK) : V → Hp → VK → Prop := fun x H Q => ∃ (a C dx : Addr) (fs : List (Str × V)), x = .ref a ∧ H a = some (.ins C dx fs) ∧ NegP K C f ∧ sp [.ref a] H Q E
theorem un_own (F : FnOk X.prog X.w X.K X.mg X.base CX k f fd ps sp) (hr : Room k X.A) (hb : Binds X.K fd ps []) (hx : Passes CX X E) : UnR X (unaryOp .USub) (rOwnN X.K f sp E) := by
  intro pins s σ H x v Q I rx h
  obtain ⟨a, C, dx, fs, rfl, ea, P, q⟩ := h
  obtain rfl : v = Value.ref a := rx
  obtain ⟨mA, O, _⟩ := ins_get I.hok ea
  obtain ⟨oda, Ia, _⟩ := O.look
  obtain ⟨m, hn, _⟩ := I.loc
  exact PySem.W.ksp_neg (h₀ := X.base) (m := m) (L := X.env.locals) ⟨hn, I.bk, Nat.le_trans I.ok.bsz I.ok.above⟩ I.ok.mod.kin Ia P.s P.sF (run_fn (vs := [.ref a]) F hr hb .nil hx I (.cons rfl .nil) (by rw [List.append_nil]; exact q))
end
end Sw
set_option Elab.async false
set_option linter.all false
set_option maxRecDepth 100000
set_option maxHeartbeats 2000000
namespace Sw
open PySem PySem.Spec PyProof.Rows L2
/-- a statement that is not reached -/
theorem ps_dead {X : Cx} {st : Stmt} : PS X st (fun _ _ _ => False) := ⟨fun _ _ _ _ _ _ h => h.elim⟩
/-- C() as what is raised, nothing being handled -/
theorem pmkN_oex0 {X : Cx} {CX : CXT} {x : Str} {p pos : Pos} {C fI : Addr} {k : Nat} {fd : FuncData} {ps : List Str} {sp : Sp} (T : OexC X.K C) (iC : PySem.W.findIn X.K (.ref C) "__init__" = some (some (.ref fI)))
    (tI : PySem.W.typeIn X.K (.ref fI) = some (.type "function")) (F1 : FnOk X.prog X.w X.K X.mg X.base CX k fI fd ps sp) (hr : Room (k + 1) X.A) (hb : Binds X.K fd ps []) (hx : Passes CX X (fun _ _ _ => False)) (hg : Gl X x) (hm : X.mg x = some (.ref C))
    (hdb : (x == ("__debug__" : Str)) = false := by decide) : L2N.PMk X (.Call (.Name x p) [] [] pos) (tMkO C sp [] tNil) := by
  intro pins s1 σ H1 Q I1 h
  obtain ⟨hz, q1⟩ := (show (([] : List V).length ≤ 1000 ∧ _) from h)
  obtain ⟨nm, q, N, bs, bm, sn, sub, ab, col, dd, k0, k1, k2, k3, k5, hC, hbm⟩ := T.cls
  refine wpAny_Call_Name_kw (ld_glob I1 hg hm ?_ hdb)
  refine PySem.W.callWith_K0 I1.kIn T.kC ?_
  obtain ⟨hp, g, dr, tk, os⟩ := s1
  generalize ea0 : hp.objs.size + 1 = a0
  have le0 : hp.objs.size ≤ a0 := by omega
  have free0 : H1 a0 = none := I1.hok.fresh le0
  have hq := q1 a0 free0
  have keep0 : ∀ b o, hp.get? b = some o → ((hp.push (PySem.W.kdv_tup [])).push (PySem.HandSPX.excO C hp.objs.size)).get? b = some o := fun b o e => Heap.get?_push_of_some _ (Heap.get?_push_of_some _ e)
  have get0 : ((hp.push (PySem.W.kdv_tup [])).push (PySem.HandSPX.excO C hp.objs.size)).get? a0 = some (PySem.HandSPX.excO C hp.objs.size) := by
    rw [← ea0]
    heap_get
  have I2 := I1.laid (t' := tk) (a := a0) (o := exo a0 C none) keep0 le0 (exo_ok get0)
  have r2 : Vals [V.ref a0] [Value.ref a0] := .cons rfl .nil
  have hl : ([Value.ref a0] ++ []).length = ps.length := (r2.length).symm.trans (F1.len _ _ _ _ hq)
  have hus : ([] : List Value).length ≤ sizeLine := Nat.zero_le _
  subst ea0
  refine wpAny_call (PySem.HandSPX.call_own F.excBase_ValueError (fun Y => PySem.HandSPX.refsVE_contains Y bm hbm) (I1.kIn _ _ hC) (PySem.W.looks_findIn I1.kIn iC) (fun self => PySem.W.bind_fn I1.kIn self tI) hus
    (codeAny_mono (F1.run _ X.stack _ _ ⟨[Value.ref (hp.objs.size + 1)], []⟩ _ _ _ (fun _ _ _ => False) (hr.make C [] []) (I2.env0.make C [] []) (hb _ _ I2.kIn hl) r2 hq) fun r s' hq' => ?_))
  cases r with
  | error er => exact hx pins σ _ _ er s' I2 hq'
  | ok fl =>
    cases fl with
    | ret u =>
      obtain ⟨v, H2, os2, bare2, un2, hok2, rv, ev, d, fs, ea, ed, hd1, q2⟩ := hq'
      subst ev
      obtain ⟨h2, g2, d2, t2, os'⟩ := s'
      obtain ⟨t0, G, J, kG, ge, hoe, na⟩ := mk_end0 (d2 := d2) (t2 := t2) I1 le0 keep0 un2 hok2 os2 bare2 ea ed hd1
      refine ⟨rv, _, _, _, ⟨G, g2, d2, t2, os'⟩, _, .ref C, some d, rfl, J, kG, ge, hoe, ⟨rfl, rfl, fun ws hv => ?_⟩, rfl, rfl, na, rfl, bare2, raises_own T.exC T.tyC, q2⟩
      cases hv
      rfl
    | _ => exact hq'.elim
end Sw
set_option Elab.async false
set_option linter.all false
set_option maxRecDepth 100000
set_option maxHeartbeats 2000000
namespace Sw
open PySem PySem.Spec PyProof.Rows L2 He
/-! ### a def that keeps its promise, as its callers ask for it -/
/-- the def at f keeps sp, by at most k calls one in another; its callers hand over every parameter -/
def Cal (P : Program) (w : World) (K : PySem.W.Frag) (mg : Str → Option Value) (base : Heap) (CX : CXT) (k : Nat) (f : Addr) (ps : List Str) (sp : Sp) : Prop := ∃ fd, FnOk P w K mg base CX k f fd ps sp ∧ PySem.W.keepIn K (.ref f) = true ∧ L2.Binds K fd ps []
section
variable {X : Cx} {CX : CXT} {k : Nat} {f C : Addr} {ps : List Str} {sp : Sp} {E : XK} {x m : Str} {p pos apos : Pos} {e o : Expr} {es : List Expr} {ta : TE} {t : TA}
theorem pe_callC (F : Cal X.prog X.w X.K X.mg X.base CX k f ps sp) (hr : Room k X.A) (hg : Gl X x) (hm : X.mg x = some (.ref f)) (hx : Passes CX X E)
    (ha : PA X (e :: es) t) (hdb : (x == ("__debug__" : Str)) = false := by decide) (he : starEach (e :: es) X.env = (false, eval e X.env) :: starEach es X.env := by rfl) (hpl : (backTo pos (starEach es X.env)).any (·.1) = false := by rfl) :
    PE X (.Call (.Name x p) (e :: es) [] pos) (tCall sp [] E t) := by
  obtain ⟨fd, F, hk, hb⟩ := F
  exact pe_call F hr hg hm hk hb .nil hx ha hdb he hpl
theorem pe_makeC (M : Mk X.K C f) (F : Cal X.prog X.w X.K X.mg X.base CX k f ps sp) (hr : Room (k + 1) X.A) (hg : Gl X x) (hm : X.mg x = some (.ref C)) (hx : Passes CX X E)
    (ha : PA X (e :: es) t) (hdb : (x == ("__debug__" : Str)) = false := by decide) (he : starEach (e :: es) X.env = (false, eval e X.env) :: starEach es X.env := by rfl) (hpl : (backTo pos (starEach es X.env)).any (·.1) = false := by rfl) :
    PE X (.Call (.Name x p) (e :: es) [] pos) (tMake C sp [] E t) := by
  obtain ⟨fd, F, hk, hb⟩ := F
  exact pe_make M F hr hg hm hb .nil hx ha hdb he hpl
theorem pe_clfnC {pl : Sem Bool} (F : Cal X.prog X.w X.K X.mg X.base CX k f ps sp) (c : ClFn X.K C m f) (hr : Room k X.A) (hg : Gl X x) (hm : X.mg x = some (.ref C))
    (hx : Passes CX X E) (ha : PA X (e :: es) t)
    (hdb : (x == ("__debug__" : Str)) = false := by decide) (hst : starEach (e :: es) X.env = (false, eval e X.env) :: starEach es X.env := by rfl) (hpl : (backTo pos (starEach es X.env)).any (·.1) = false := by rfl)
    (ht : eval (.Call (.Attribute (.Name x p) m apos) (e :: es) [] pos) X.env = (do
      let ov ← eval (.Name x p) X.env
      standAt apos.atName
      let (f, first) ← holding [ov] (getMethod ov m pl)
      callWith pos f first (backTo pos (starEach (e :: es) X.env)) (backToKw pos (keywordEach [] X.env))) := by rfl) :
    PE X (.Call (.Attribute (.Name x p) m apos) (e :: es) [] pos) (tCall sp [] E t) := by
  obtain ⟨fd, F, hk, hb⟩ := F
  exact pe_clfn hg hm c F hr hk hb .nil hx ha hdb hst hpl ht
end
section
variable {X : Cx} {CX : CXT} {k : Nat} {f : Addr} {ps : List Str} {sp : Sp} {E : XK}
theorem op_ownC {op : Operator} (F : Cal X.prog X.w X.K X.mg X.base CX k f ps sp) (hr : Room k X.A) (hx : Passes CX X E) (hc : X.calm = true) (hn : (dunderR op.info.2).length ≤ 100 := by decide) : OpR X (binaryOp op) (rOwn X.K op.info.2 f sp E) := by
  obtain ⟨fd, F, hk, hb⟩ := F
  exact op_own F hr hb hx hc hn
theorem op_ownIC {op : Operator} (F : Cal X.prog X.w X.K X.mg X.base CX k f ps sp) (hr : Room k X.A) (hx : Passes CX X E) : OpR X (binaryOp op) (rOwnI X.K op.info.2 f sp E) := by
  obtain ⟨fd, F, hk, hb⟩ := F
  exact op_ownI F hr hb hx
theorem un_ownC (F : Cal X.prog X.w X.K X.mg X.base CX k f ps sp) (hr : Room k X.A) (hx : Passes CX X E) : UnR X (unaryOp .USub) (rOwnN X.K f sp E) := by
  obtain ⟨fd, F, hk, hb⟩ := F
  exact un_own F hr hb hx
end
end Sw
set_option Elab.async false
set_option linter.all false
set_option maxRecDepth 100000
set_option maxHeartbeats 2000000
/-! The head's facts with dicts of the top (text keys): hookX. -/
namespace Sw
open PySem PySem.Spec PyProof.Rows L2 He
def obsX (fa : List Fb) (fn : List DefD) (ts : List Tab) (K : PySem.W.Frag) : AlT := (obsF fa fn K, ts.map fun t => dicW K (t.1 K))
def SaysX (fa : List Fb) (fn : List DefD) (ts : List Tab) (w : World) (K : PySem.W.Frag) : Prop := obsX fa fn ts K = valT fn ts w
def obsXG (n : Nat) (fa : List Fb) (fn : List DefD) (ts : List Tab) (g : Addr → Option Obj) : AlT := obsX fa fn ts (frG g (asR g roots n))
def hookX (n : Nat) (fa : List Fb) (fn : List DefD) (ts : List Tab) : PySem.W.Hook where
  α := AlT
  obs := fun s => obsXG n fa fn ts s.heap.get?
  val := fun w => valT fn ts w
  says := fun w h => ∃ K : PySem.W.Frag, K.In h ∧ SaysX fa fn ts w K
  of := fun _ _ e => ⟨_, frG_in, e⟩
  keeps := fun _ _ _ ⟨K, hK, c⟩ k => ⟨K, PySem.W.Frag.In.keeps hK k, c⟩
theorem obsXG_eq {n : Nat} {fa : List Fb} {fn : List DefD} {ts : List Tab} {g : Addr → Option Obj} {s : Shared} (h : ∀ a, g a = s.heap.get? a) : obsXG n fa fn ts g = (hookX n fa fn ts).obs s := by
  have e : g = s.heap.get? := funext h
  rw [e] <;> rfl
section
variable {fa : List Fb} {fn : List DefD} {ts : List Tab} {w : World} {K : PySem.W.Frag}
theorem SaysX.f (c : SaysX fa fn ts w K) : SaysF fa fn K := congrArg (fun z : AlT => z.1) c
theorem SaysX.tab (c : SaysX fa fn ts w K) (i : Nat) {t : Tab} (h : ts[i]? = some t := by rfl) : ∃ es n, KDict K w (t.1 K) es n := by
  have e : ts.map (fun t => dicW K (t.1 K)) = ts.map fun t => some (keysIn w.params t.2) := congrArg (fun z : AlT => z.2) c
  have e2 : (ts.map fun t => dicW K (t.1 K))[i]? = (ts.map fun t => some (keysIn w.params t.2))[i]? := by rw [e]
  rw [List.getElem?_map, List.getElem?_map, h] at e2
  exact dicW_ok (Option.some.inj e2)
end
theorem kdct_of {K : PySem.W.Frag} {w : World} {a : Addr} {es : Array DictEntry} {n : Nat} {x : Str} {v : V} {u : Value} (D : KDict K w a es n) (e : PySem.W.nsIn K a x = some (some u)) (r : RelV v u) : KDct K w a x v := ⟨es, n, u, D.at_, D.lit, e, r⟩
end Sw
set_option Elab.async false
set_option linter.all false
set_option maxRecDepth 100000
set_option maxHeartbeats 2000000
namespace KM
open PySem PySem.Spec PyProof.Rows L2 He Sw
/-! ### the text by places -/
def top (i : Nat) : Stmt := PySem.Challenge.pw_samewords_k19_first_part_that_fails.main.body.getD i (.Pass ⟨0, 0, 0, 0⟩)
abbrev s_SameError___init__ : Stmt := inClass (top 2) 0
abbrev s_BadName___init__ : Stmt := inClass (top 3) 0
abbrev s_BadBound___init__ : Stmt := inClass (top 5) 0
abbrev s_BadText___init__ : Stmt := inClass (top 7) 0
abbrev s_TooMany___init__ : Stmt := inClass (top 8) 0
abbrev sIsInt : Stmt := top 14
abbrev sIsRow : Stmt := top 15
abbrev sIsName : Stmt := top 16
abbrev sIsShift : Stmt := top 17
abbrev sCkName : Stmt := top 18
abbrev sCkShift : Stmt := top 19
abbrev sForm : Stmt := inClass (top 25) 0
abbrev sAdd : Stmt := inClass (top 25) 4
abbrev sSub : Stmt := inClass (top 25) 5
abbrev sMul : Stmt := inClass (top 25) 6
abbrev sNeg : Stmt := inClass (top 25) 7
abbrev sShl : Stmt := inClass (top 25) 8
abbrev s_Formula___eq__ : Stmt := inClass (top 25) 9
abbrev sNum : Stmt := inClass (top 26) 0
abbrev sName : Stmt := inClass (top 27) 0
abbrev sSum : Stmt := inClass (top 28) 0
abbrev sCall : Stmt := inClass (top 29) 0
abbrev sCkForm : Stmt := top 30
abbrev sInner : Stmt := top 31
abbrev sIx : Stmt := top 32
abbrev s_write_formula : Stmt := top 38
abbrev s_read_formula : Stmt := top 39
abbrev s_written : Stmt := top 40
abbrev s_tree_at : Stmt := top 41
abbrev s_operation_at : Stmt := top 42
abbrev s_sum_at : Stmt := top 43
abbrev s_call_at : Stmt := top 44
abbrev s_bound_at : Stmt := top 45
abbrev s_number_at : Stmt := top 46
abbrev s_shift_at : Stmt := top 47
abbrev s_name_at : Stmt := top 48
abbrev s_letters_at : Stmt := top 49
abbrev s_after : Stmt := top 50
abbrev s_made_of : Stmt := top 51
abbrev s__law_stream : Stmt := top 53
abbrev sDraw : Stmt := top 54
abbrev sLeaf : Stmt := top 55
abbrev s__law_sum : Stmt := top 56
abbrev sTree : Stmt := top 57
abbrev s__law_copies : Stmt := top 58
abbrev s__law_text : Stmt := top 59
abbrev s__law_inside : Stmt := top 60
abbrev s__law_walk : Stmt := top 61
abbrev s__law_answer : Stmt := top 62
abbrev s__law_right : Stmt := top 63
abbrev sLaw : Stmt := top 64
/-! ### what the head tells -/
def dF (x : Str) (st : Stmt) : DefD := ⟨(x, none), x, x, defArgs st, defBody st, defScope st, [], []⟩
def dM (c m q : Str) (st : Stmt) (dfl : List Dv) : DefD := ⟨(c, some m), m, q, defArgs st, defBody st, defScope st, dfl, []⟩
def fn : List DefD := [dM "SameError" "__init__" "SameError.__init__" s_SameError___init__ [.non],
  dM "BadName" "__init__" "BadName.__init__" s_BadName___init__ [],
  dM "BadBound" "__init__" "BadBound.__init__" s_BadBound___init__ [],
  dM "BadText" "__init__" "BadText.__init__" s_BadText___init__ [],
  dM "TooMany" "__init__" "TooMany.__init__" s_TooMany___init__ [],
  dF "is_integer" sIsInt,
  dF "is_row" sIsRow,
  dF "is_name" sIsName,
  dF "is_shift" sIsShift,
  dF "check_name" sCkName,
  dF "check_shift" sCkShift,
  dM "Formula" "__init__" "Formula.__init__" sForm [],
  dM "Formula" "__add__" "Formula.__add__" sAdd [],
  dM "Formula" "__sub__" "Formula.__sub__" sSub [],
  dM "Formula" "__mul__" "Formula.__mul__" sMul [],
  dM "Formula" "__neg__" "Formula.__neg__" sNeg [],
  dM "Formula" "__lshift__" "Formula.__lshift__" sShl [],
  dM "Formula" "__eq__" "Formula.__eq__" s_Formula___eq__ [],
  dM "Number" "__init__" "Number.__init__" sNum [],
  dM "Name" "__init__" "Name.__init__" sName [],
  dM "Sum" "__init__" "Sum.__init__" sSum [],
  dM "Call" "__init__" "Call.__init__" sCall [],
  dF "check_formula" sCkForm,
  dF "inner_formulas" sInner,
  dF "index_names" sIx,
  dF "write_formula" s_write_formula,
  dF "read_formula" s_read_formula,
  dF "written" s_written,
  dF "tree_at" s_tree_at,
  dF "operation_at" s_operation_at,
  dF "sum_at" s_sum_at,
  dF "call_at" s_call_at,
  dF "bound_at" s_bound_at,
  dF "number_at" s_number_at,
  dF "shift_at" s_shift_at,
  dF "name_at" s_name_at,
  dF "letters_at" s_letters_at,
  dF "after" s_after,
  dF "made_of" s_made_of,
  dF "_law_stream" s__law_stream,
  dF "_law_draw" sDraw,
  dF "_law_leaf" sLeaf,
  dF "_law_sum" s__law_sum,
  dF "_law_tree" sTree,
  dF "_law_copies" s__law_copies,
  dF "_law_text" s__law_text,
  dF "_law_inside" s__law_inside,
  dF "_law_walk" s__law_walk,
  dF "_law_answer" s__law_answer,
  dF "_law_right" s__law_right,
  dF "law" sLaw]
def gloL0 : List Str := ["is_integer", "is_row", "is_name", "is_shift", "check_name", "check_shift", "check_formula", "inner_formulas", "index_names", "write_formula", "read_formula", "written", "tree_at", "operation_at"]
def gloL1 : List Str := ["sum_at", "call_at", "bound_at", "number_at", "shift_at", "name_at", "letters_at", "after", "made_of", "_law_stream", "_law_draw", "_law_leaf", "_law_sum", "_law_tree"]
def gloL2 : List Str := ["_law_copies", "_law_text", "_law_inside", "_law_walk", "_law_answer", "_law_right", "law", "Formula", "Number", "Name", "Sum", "Call", "NO_NAMES"]

def errL : List Str := ["BadText", "BadBound", "BadName", "TooMany"]
def kinds : List Str := ["BadName", "BadNumber", "BadBound", "BadFormula", "BadText", "TooMany"]
def thTys : List String := ["NoneType", "bool", "int", "str", "tuple", "list", "dict"]
def gloE : List Str := ["SameError", "SIGNS", "KINDS", "BadName", "BadNumber", "BadBound", "BadFormula", "BadText", "TooMany"]
def gloL : List Str := gloE ++ gloL0 ++ gloL1 ++ gloL2
def freeL : List Str := ["ValueError", "isinstance", "int", "bool", "str", "len", "all", "any", "sum", "max", "min", "range", "abs", "list", "tuple", "sorted", "set", "dict", "zip", "enumerate"]
def clsL : List Str := ["Formula", "Number", "Name", "Sum", "Call"]
def clsS : List String := ["Formula", "Number", "Name", "Sum", "Call"]
def fldL : List Str := ["kind", "things", "parts", "depth"]
def binL : List String := ["add", "sub", "mul"]
def kitB2 (K : PySem.W.Frag) (a b : Str) (r : Bool) : Bool := decide (PySem.W.kitOne K (.ref (ga K a)) (.ref (ga K b)) = some r)
/-- an own class whose instances isinstance may ask -/
def insB (K : PySem.W.Frag) (C : Addr) : Bool := eqO (PySem.W.findIn K (.ref C) "__class__") (some (some (.builtin "object.__class__"))) && (eqO (PySem.W.specialIn K (.builtin "object.__class__") "__get__") (some (some (.builtin "getset_descriptor.__get__"))) &&
  (decide (PySem.W.takesIn K (.builtin "object.__class__") = some true) && decide (PySem.W.mroIn K C (.type "object") = some true)))
def noClsB (K : PySem.W.Frag) (C : Addr) (name : Str) (z : String) : Bool := PySem.W.readsIn K C (.type "type") && (eqO (PySem.W.findIn K (.type "type") name) (some none) && (eqO (PySem.W.findIn K (.ref C) name) (some none) && nameB K C z))
def mF (K : PySem.W.Frag) (m : Str) : Addr := ma K (ga K "Formula") m
def opB (K : PySem.W.Frag) (C : Addr) (nm z : String) : Bool := PySem.W.selfFirst K C && (eqO (PySem.W.findIn K (.ref C) (PySem.dunder nm)) (some (some (.ref (mF K (PySem.dunder nm))))) && (PySem.W.isFn K (.ref (mF K (PySem.dunder nm))) && noClsB K C (dunderR nm) z))
def shlB (K : PySem.W.Frag) (C : Addr) : Bool := PySem.W.selfFirst K C && (eqO (PySem.W.findIn K (.ref C) (PySem.dunder "lshift")) (some (some (.ref (mF K (PySem.dunder "lshift"))))) && (PySem.W.isFn K (.ref (mF K (PySem.dunder "lshift"))) && (eqO (PySem.W.findIn K (.ref C) (dunderR "lshift")) (some none) &&
  (((PySem.W.findIn K (.type "int") (PySem.dunder "lshift")).isSome && (PySem.W.findIn K (.type "int") (dunderR "lshift")).isSome) && decide (PySem.W.subIn K (.type "int") (.ref C) = some false)))))
def negB (K : PySem.W.Frag) (C : Addr) : Bool := eqO (PySem.W.findIn K (.ref C) "__neg__") (some (some (.ref (mF K "__neg__")))) && PySem.W.isFn K (.ref (mF K "__neg__"))
def noNames : List Str := ["width", "in", "def", "let", "if", "then", "else", "out", "sum"]
def fa : List Fb := [
  fun K => gloL.all fun x => (Fa.glo x).ok K,
  fun K => freeL.all fun x => (Fa.free x).ok K,
  fun K => clfnB K (ga K "Formula") "__init__",
  fun K => (Fa.str "LETTERS" "abcdefghijklmnopqrstuvwxyz").ok K,
  fun K => (Fa.int "MOST_LETTERS" 8).ok K,
  fun K => (Fa.int "MOST_PARTS" 300).ok K,
  fun K => (Fa.int "MOST_DEPTH" 40).ok K,
  fun K => (Fa.int "NUMBER_END" (10 ^ 30)).ok K,
  fun K => (Fa.int "MOST_SHIFT" 64).ok K,
  fun K => (Fa.int "MOST_THINGS" 4).ok K,
  fun K => tupB K "NO_NAMES" (noNames.map Dv.str),
  fun K => clsL.all fun x => (Fa.cls x).ok K && ((Fa.mkr x).ok K && insB K (ga K x)),
  fun K => clsL.all fun x => fldL.all fun f => (Fa.noat x f).ok K,
  fun K => clsL.all fun x => clsL.all fun y => kitB2 K x y (decide (x = y) || decide (y = "Formula")),
  fun K => clsS.all fun z => binL.all fun nm => opB K (ga K (Str.ofString z)) nm z,
  fun K => clsL.all fun x => clsL.all fun y => (PySem.W.subIn K (.ref (ga K y)) (.ref (ga K x))).isSome,
  fun K => clsL.all fun x => shlB K (ga K x),
  fun K => clsL.all fun x => negB K (ga K x),
  fun K => errL.all fun x => errB K (ga K x),
  fun K => errL.all fun x => errL.all fun y => (Fa.exm x y (decide (x = y))).ok K,
  fun K => errL.all fun x => decide (PySem.W.kitOne K (.ref (ga K x)) (.type "ValueError") = some true),
  fun K => clfnB K (ga K "SameError") "__init__",
  fun K => veinB K,
  fun K => valsB K (ga K "SIGNS") [("plus", .str "+"), ("minus", .str "-"), ("times", .str "*")],
  fun K => (Fa.str "DIGITS" "0123456789").ok K,
  fun K => (Fa.int "MOST_DIGITS" 30).ok K,
  fun K => valsB K (ga K "KINDS") [("+", .str "plus"), ("-", .str "minus"), ("*", .str "times"), ("<", .str "shift")]]
abbrev R : PySem.W.OpenRow := PySem.W.OpenLaw.row PySem.Challenge.rw_samewords_k19_first_part_that_fails
def ts : List Tab := [(fun K => ga K "SIGNS", ["plus", "minus", "times"]), (fun K => ga K "KINDS", ["+", "-", "*", "<"])]
abbrev hk : PySem.W.Hook := hookX 6 fa fn ts
def ob (s : PySem.W.SharedT) : AlT := obsXG 6 fa fn ts (HandSHeadRun.getT s)
theorem ob_eq (s : PySem.W.SharedT) : ob s = hk.obs s.abs := obsXG_eq (HandSHeadRun.getT_eq s)
def looseL0 : List Str := ["_wall", "__name__", "SameError", "BadName", "BadNumber", "BadBound", "BadFormula", "BadText", "TooMany", "LETTERS", "NO_NAMES", "MOST_LETTERS", "MOST_SHIFT", "is_integer"]
def looseL1 : List Str := ["is_row", "is_name", "is_shift", "check_name", "check_shift", "MOST_PARTS", "MOST_DEPTH", "MOST_THINGS", "NUMBER_END", "Formula", "Number", "Name", "Sum", "Call"]
def looseL2 : List Str := ["check_formula", "inner_formulas", "index_names", "SIGNS", "KINDS", "DIGITS", "MOST_DIGITS", "write_formula", "read_formula", "written", "tree_at", "operation_at", "sum_at", "call_at"]
def looseL3 : List Str := ["bound_at", "number_at", "shift_at", "name_at", "letters_at", "after", "made_of", "_law_stream", "_law_draw", "_law_leaf", "_law_sum", "_law_tree", "_law_copies", "_law_text"]
def looseL4 : List Str := ["_law_inside", "_law_walk", "_law_answer", "_law_right"]
def looseL : List Str := looseL0 ++ looseL1 ++ looseL2 ++ looseL3 ++ looseL4
end KM
set_option Elab.async false
set_option linter.all false
set_option maxRecDepth 100000
set_option maxHeartbeats 0
namespace KM
open PySem PySem.Spec PyProof.Rows L2 He Sw
theorem runT (w : World) : HandSHeadRun.RunEq R (PySem.W.view R.prog [64]) hk ob 8000 looseL (w.withFollow "special-get-raises" true) := by
  intro os
  kernel_rfl
theorem runF (w : World) : HandSHeadRun.RunEq R (PySem.W.view R.prog [64]) hk ob 8000 looseL (w.withFollow "special-get-raises" false) := by
  intro os
  kernel_rfl
theorem run (w : World) : HandSHeadRun.RunEq R (PySem.W.view R.prog [64]) hk ob 8000 looseL w := by
  have h : HandSHeadRun.RunEq R (PySem.W.view R.prog [64]) hk ob 8000 looseL (w.withFollow "special-get-raises" (w.params.followText "special-get-raises")) := by
    cases w.params.followText "special-get-raises"
    · exact runF w
    · exact runT w
  rw [PySem.World.withFollow_self w "special-get-raises"] at h
  exact h
end KM
set_option Elab.async false
set_option linter.all false
set_option maxRecDepth 100000
set_option maxHeartbeats 0
section
open PySem PySem.W PySem.Calls PyProof.Rows
theorem KM.headQ (hq : WalkO (view (PySem.Challenge.rw_samewords_k19_first_part_that_fails).row.prog [64]) (KM.looseL) (XL (view (PySem.Challenge.rw_samewords_k19_first_part_that_fails).row.prog [64]) []) KM.hk.says (PySem.Challenge.rw_samewords_k19_first_part_that_fails).row.toRowW (HandSHeadRun.topDef (PySem.Challenge.rw_samewords_k19_first_part_that_fails).row.prog 64) [] (fun f vs => call f vs)) : PySem.Challenge.rw_samewords_k19_first_part_that_fails.Holds := by
  w_on; o_law
  refine HandSHeadRun.head_any (r := OpenLaw.row PySem.Challenge.rw_samewords_k19_first_part_that_fails) (q := view (OpenLaw.row PySem.Challenge.rw_samewords_k19_first_part_that_fails).prog [64]) (H := KM.hk) (ob := KM.ob) (M := 8000) (loose := KM.looseL) (d := HandSHeadRun.topDef (OpenLaw.row PySem.Challenge.rw_samewords_k19_first_part_that_fails).prog 64) (kwd := []) KM.ob_eq
    (by kernel_rfl) (fun s => by kernel_rfl) KM.run (by kernel_rfl) (by kernel_rfl) (by kernel_rfl) (by rfl) (by first | assumption | decide +kernel) (by decide +kernel) ⟨rfl, rfl, rfl, rfl, rfl, by decide +kernel⟩ ?hw ?hc
  case hw => w_witness2
  case hc => exact hq
end
set_option Elab.async false
set_option linter.all false
set_option maxRecDepth 100000
set_option maxHeartbeats 2000000
namespace KM
open PySem PySem.Spec PyProof.Rows L2 He Sw
/-! ### what the defs lean on -/
structure InsT (K : PySem.W.Frag) (C : Addr) : Prop where
  cl : Cls K C
  mkr : Mk K C (ma K C "__init__")
  ha : PySem.W.findIn K (.ref C) "__class__" = some (some (.builtin "object.__class__"))
  hn : PySem.W.specialIn K (.builtin "object.__class__") "__get__" = some (some (.builtin "getset_descriptor.__get__"))
  ht : PySem.W.takesIn K (.builtin "object.__class__") = some true
  hm : PySem.W.mroIn K C (.type "object") = some true
  no : ∀ f ∈ fldL, NoAttr K C f
structure Txt (K : PySem.W.Frag) (mg : Str → Option Value) : Prop where
  glo : ∀ x ∈ gloL, mg x = some (.ref (ga K x))
  fre : ∀ x ∈ freeL, mg x = none
  foI : ClFn K (ga K "Formula") "__init__" (ma K (ga K "Formula") "__init__")
  let_ : ∃ t, mg "LETTERS" = some (.str "abcdefghijklmnopqrstuvwxyz" t)
  mLet : ∃ t, mg "MOST_LETTERS" = some (.int 8 t)
  mPar : ∃ t, mg "MOST_PARTS" = some (.int 300 t)
  mDep : ∃ t, mg "MOST_DEPTH" = some (.int 40 t)
  nEnd : ∃ t, mg "NUMBER_END" = some (.int (10 ^ 30) t)
  mShf : ∃ t, mg "MOST_SHIFT" = some (.int 64 t)
  mThg : ∃ t, mg "MOST_THINGS" = some (.int 4 t)
  noN : ∀ H : Hp, SqT K H (ga K "NO_NAMES") (noNames.map V.str)
  ins : ∀ x ∈ clsL, InsT K (ga K x)
  kit : ∀ x ∈ clsL, ∀ y ∈ clsL, PySem.W.kitOne K (.ref (ga K x)) (.ref (ga K y)) = some (decide (x = y) || decide (y = "Formula"))
  bin : ∀ x ∈ clsL, ∀ y ∈ clsL, ∀ nm ∈ binL, BinP K nm (ga K x) (ga K y) (mF K (PySem.dunder nm))
  shl : ∀ x ∈ clsL, BinT K "lshift" (ga K x) (mF K (PySem.dunder "lshift")) "int"
  neg : ∀ x ∈ clsL, NegP K (ga K x) (mF K "__neg__")
  err : ∀ x ∈ errL, ErrC K (ga K x)
  exmE : ∀ x ∈ errL, ∀ y ∈ errL, PySem.W.exmOne K (.ref (ga K x)) (.ref (ga K y)) = some (decide (x = y))
  kveE : ∀ x ∈ errL, PySem.W.kitOne K (.ref (ga K x)) (.type "ValueError") = some true
  seI : ClFn K (ga K "SameError") "__init__" (ma K (ga K "SameError") "__init__")
  veI : PySem.W.findCls K (.type "ValueError") (.type "type") "__init__" = some (.val (.builtin "ValueError.__init__"))
  sg : valsB K (ga K "SIGNS") [("plus", .str "+"), ("minus", .str "-"), ("times", .str "*")] = true
  dig : ∃ t, mg "DIGITS" = some (.str "0123456789" t)
  mDig : ∃ t, mg "MOST_DIGITS" = some (.int 30 t)
  kd : valsB K (ga K "KINDS") [("+", .str "plus"), ("-", .str "minus"), ("*", .str "times"), ("<", .str "shift")] = true
  dd : ∀ (i : Nat) (d : DefD), fn[i]? = some d → ∃ fd, FunD K d.name d.qual d.params d.body d.scope (d.dvs K) (d.kws K) (fAd K d.at_) fd
section
variable {P : Program} {w : World} {K : PySem.W.Frag} {mg : Str → Option Value} {base : Heap}
theorem Txt.g (T : Txt K mg) (x : Str) (h : x ∈ gloL := by decide +kernel) : mg x = some (.ref (ga K x)) := T.glo x h
theorem Txt.f (T : Txt K mg) (x : Str) (h : x ∈ freeL := by decide +kernel) : mg x = none := T.fre x h
/-- a def of the text -/
abbrev FnM (K : PySem.W.Frag) (c q : Str) (st : Stmt) (dvs : List V) (fd : FuncData) : Prop := FunD K "__init__" q (defArgs st) (defBody st) (defScope st) dvs [] (ma K (ga K c) "__init__") fd
abbrev FnG (K : PySem.W.Frag) (x : Str) (st : Stmt) (fd : FuncData) : Prop := FunD K x x (defArgs st) (defBody st) (defScope st) [] [] (ga K x) fd

theorem Txt.f_BadName___init__ (T : Txt K mg) : ∃ fd, FunD K "__init__" "BadName.__init__" (defArgs s_BadName___init__) (defBody s_BadName___init__) (defScope s_BadName___init__) [] [] (ma K (ga K "BadName") "__init__") fd := T.dd 1 _ rfl
theorem Txt.f_BadBound___init__ (T : Txt K mg) : ∃ fd, FunD K "__init__" "BadBound.__init__" (defArgs s_BadBound___init__) (defBody s_BadBound___init__) (defScope s_BadBound___init__) [] [] (ma K (ga K "BadBound") "__init__") fd := T.dd 2 _ rfl
theorem Txt.f_BadText___init__ (T : Txt K mg) : ∃ fd, FunD K "__init__" "BadText.__init__" (defArgs s_BadText___init__) (defBody s_BadText___init__) (defScope s_BadText___init__) [] [] (ma K (ga K "BadText") "__init__") fd := T.dd 3 _ rfl
theorem Txt.f_TooMany___init__ (T : Txt K mg) : ∃ fd, FunD K "__init__" "TooMany.__init__" (defArgs s_TooMany___init__) (defBody s_TooMany___init__) (defScope s_TooMany___init__) [] [] (ma K (ga K "TooMany") "__init__") fd := T.dd 4 _ rfl
theorem Txt.f_is_integer (T : Txt K mg) : ∃ fd, FnG K "is_integer" sIsInt fd := T.dd 5 _ rfl
theorem Txt.f_is_row (T : Txt K mg) : ∃ fd, FnG K "is_row" sIsRow fd := T.dd 6 _ rfl
theorem Txt.f_is_name (T : Txt K mg) : ∃ fd, FnG K "is_name" sIsName fd := T.dd 7 _ rfl
theorem Txt.f_is_shift (T : Txt K mg) : ∃ fd, FnG K "is_shift" sIsShift fd := T.dd 8 _ rfl
theorem Txt.f_check_name (T : Txt K mg) : ∃ fd, FnG K "check_name" sCkName fd := T.dd 9 _ rfl
theorem Txt.f_check_shift (T : Txt K mg) : ∃ fd, FnG K "check_shift" sCkShift fd := T.dd 10 _ rfl
theorem Txt.f_Formula___init__ (T : Txt K mg) : ∃ fd, FunD K "__init__" "Formula.__init__" (defArgs sForm) (defBody sForm) (defScope sForm) [] [] (ma K (ga K "Formula") "__init__") fd := T.dd 11 _ rfl
theorem Txt.f_Formula___add__ (T : Txt K mg) : ∃ fd, FunD K "__add__" "Formula.__add__" (defArgs sAdd) (defBody sAdd) (defScope sAdd) [] [] (ma K (ga K "Formula") "__add__") fd := T.dd 12 _ rfl
theorem Txt.f_Formula___sub__ (T : Txt K mg) : ∃ fd, FunD K "__sub__" "Formula.__sub__" (defArgs sSub) (defBody sSub) (defScope sSub) [] [] (ma K (ga K "Formula") "__sub__") fd := T.dd 13 _ rfl
theorem Txt.f_Formula___mul__ (T : Txt K mg) : ∃ fd, FunD K "__mul__" "Formula.__mul__" (defArgs sMul) (defBody sMul) (defScope sMul) [] [] (ma K (ga K "Formula") "__mul__") fd := T.dd 14 _ rfl
theorem Txt.f_Formula___neg__ (T : Txt K mg) : ∃ fd, FunD K "__neg__" "Formula.__neg__" (defArgs sNeg) (defBody sNeg) (defScope sNeg) [] [] (ma K (ga K "Formula") "__neg__") fd := T.dd 15 _ rfl
theorem Txt.f_Formula___lshift__ (T : Txt K mg) : ∃ fd, FunD K "__lshift__" "Formula.__lshift__" (defArgs sShl) (defBody sShl) (defScope sShl) [] [] (ma K (ga K "Formula") "__lshift__") fd := T.dd 16 _ rfl
theorem Txt.f_Formula___eq__ (T : Txt K mg) : ∃ fd, FunD K "__eq__" "Formula.__eq__" (defArgs s_Formula___eq__) (defBody s_Formula___eq__) (defScope s_Formula___eq__) [] [] (ma K (ga K "Formula") "__eq__") fd := T.dd 17 _ rfl
theorem Txt.f_Number___init__ (T : Txt K mg) : ∃ fd, FunD K "__init__" "Number.__init__" (defArgs sNum) (defBody sNum) (defScope sNum) [] [] (ma K (ga K "Number") "__init__") fd := T.dd 18 _ rfl
theorem Txt.f_Name___init__ (T : Txt K mg) : ∃ fd, FunD K "__init__" "Name.__init__" (defArgs sName) (defBody sName) (defScope sName) [] [] (ma K (ga K "Name") "__init__") fd := T.dd 19 _ rfl
theorem Txt.f_Sum___init__ (T : Txt K mg) : ∃ fd, FunD K "__init__" "Sum.__init__" (defArgs sSum) (defBody sSum) (defScope sSum) [] [] (ma K (ga K "Sum") "__init__") fd := T.dd 20 _ rfl
theorem Txt.f_Call___init__ (T : Txt K mg) : ∃ fd, FunD K "__init__" "Call.__init__" (defArgs sCall) (defBody sCall) (defScope sCall) [] [] (ma K (ga K "Call") "__init__") fd := T.dd 21 _ rfl
theorem Txt.f_check_formula (T : Txt K mg) : ∃ fd, FnG K "check_formula" sCkForm fd := T.dd 22 _ rfl
theorem Txt.f_inner_formulas (T : Txt K mg) : ∃ fd, FnG K "inner_formulas" sInner fd := T.dd 23 _ rfl
theorem Txt.f_index_names (T : Txt K mg) : ∃ fd, FnG K "index_names" sIx fd := T.dd 24 _ rfl
theorem Txt.f_write_formula (T : Txt K mg) : ∃ fd, FnG K "write_formula" s_write_formula fd := T.dd 25 _ rfl
theorem Txt.f_read_formula (T : Txt K mg) : ∃ fd, FnG K "read_formula" s_read_formula fd := T.dd 26 _ rfl
theorem Txt.f_written (T : Txt K mg) : ∃ fd, FnG K "written" s_written fd := T.dd 27 _ rfl
theorem Txt.f_tree_at (T : Txt K mg) : ∃ fd, FnG K "tree_at" s_tree_at fd := T.dd 28 _ rfl
theorem Txt.f_operation_at (T : Txt K mg) : ∃ fd, FnG K "operation_at" s_operation_at fd := T.dd 29 _ rfl
theorem Txt.f_sum_at (T : Txt K mg) : ∃ fd, FnG K "sum_at" s_sum_at fd := T.dd 30 _ rfl
theorem Txt.f_call_at (T : Txt K mg) : ∃ fd, FnG K "call_at" s_call_at fd := T.dd 31 _ rfl
theorem Txt.f_bound_at (T : Txt K mg) : ∃ fd, FnG K "bound_at" s_bound_at fd := T.dd 32 _ rfl
theorem Txt.f_number_at (T : Txt K mg) : ∃ fd, FnG K "number_at" s_number_at fd := T.dd 33 _ rfl
theorem Txt.f_shift_at (T : Txt K mg) : ∃ fd, FnG K "shift_at" s_shift_at fd := T.dd 34 _ rfl
theorem Txt.f_name_at (T : Txt K mg) : ∃ fd, FnG K "name_at" s_name_at fd := T.dd 35 _ rfl
theorem Txt.f_letters_at (T : Txt K mg) : ∃ fd, FnG K "letters_at" s_letters_at fd := T.dd 36 _ rfl
theorem Txt.f_after (T : Txt K mg) : ∃ fd, FnG K "after" s_after fd := T.dd 37 _ rfl
theorem Txt.f_made_of (T : Txt K mg) : ∃ fd, FnG K "made_of" s_made_of fd := T.dd 38 _ rfl
theorem Txt.f__law_stream (T : Txt K mg) : ∃ fd, FnG K "_law_stream" s__law_stream fd := T.dd 39 _ rfl
theorem Txt.f__law_draw (T : Txt K mg) : ∃ fd, FnG K "_law_draw" sDraw fd := T.dd 40 _ rfl
theorem Txt.f__law_leaf (T : Txt K mg) : ∃ fd, FnG K "_law_leaf" sLeaf fd := T.dd 41 _ rfl
theorem Txt.f__law_sum (T : Txt K mg) : ∃ fd, FnG K "_law_sum" s__law_sum fd := T.dd 42 _ rfl
theorem Txt.f__law_tree (T : Txt K mg) : ∃ fd, FnG K "_law_tree" sTree fd := T.dd 43 _ rfl
theorem Txt.f__law_copies (T : Txt K mg) : ∃ fd, FnG K "_law_copies" s__law_copies fd := T.dd 44 _ rfl
theorem Txt.f__law_text (T : Txt K mg) : ∃ fd, FnG K "_law_text" s__law_text fd := T.dd 45 _ rfl
theorem Txt.f__law_inside (T : Txt K mg) : ∃ fd, FnG K "_law_inside" s__law_inside fd := T.dd 46 _ rfl
theorem Txt.f__law_walk (T : Txt K mg) : ∃ fd, FnG K "_law_walk" s__law_walk fd := T.dd 47 _ rfl
theorem Txt.f__law_answer (T : Txt K mg) : ∃ fd, FnG K "_law_answer" s__law_answer fd := T.dd 48 _ rfl
theorem Txt.f__law_right (T : Txt K mg) : ∃ fd, FnG K "_law_right" s__law_right fd := T.dd 49 _ rfl
theorem Txt.f_law (T : Txt K mg) : ∃ fd, FnG K "law" sLaw fd := T.dd 50 _ rfl
/-! ### the things that are handed in -/
inductive Th (H : Hp) : V → String → Prop
  | non : Th H .non "NoneType"
  | bl (b : Bool) : Th H (.bl b) "bool"
  | int (i : Int) : Th H (.int i) "int"
  | str (z : Str) (h : z.length ≤ 100) : Th H (.str z) "str"
  | tup (a : Addr) (e : H a = some (.tup [.str "x"])) : Th H (.ref a) "tuple"
  | lst (a : Addr) (e : H a = some (.lst [.str "x"])) : Th H (.ref a) "list"
  | dct (a : Addr) (e : H a = some (.dK [(.inr "x", .int 1)])) : Th H (.ref a) "dict"
theorem Th.ty {H : Hp} {v : V} {n : String} (t : Th H v n) : TyX K H v (.type n) := by
  cases t with
  | non => exact .base .non
  | bl b => exact .base (.bl b)
  | int i => exact .base (.int i)
  | str z h => exact .base (.str z)
  | tup a e => exact .base (.tup e)
  | lst a e => exact .base (.lst e)
  | dct a e => exact .base (.dK e)
theorem Th.same {H H' : Hp} {v : V} {n : String} (t : Th H v n) (s : Same H H') : Th H' v n := by
  cases t with
  | non => exact .non
  | bl b => exact .bl b
  | int i => exact .int i
  | str z h => exact .str z h
  | tup a e => exact .tup a (s _ _ e)
  | lst a e => exact .lst a (s _ _ e)
  | dct a e => exact .dct a (s _ _ e)
def isI : V → Bool
  | .int _ => true
  | _ => false
def isS : V → Bool
  | .str _ => true
  | _ => false
def isB : V → Bool
  | .bl _ => true
  | _ => false
theorem Th.kInt {H : Hp} {v : V} {n : String} (t : Th H v n) : PySem.W.kitOne K (.type n) (.type "int") = some (isI v || isB v) := by
  cases t <;> first
    | exact kit_ty (show kitB _ _ = some true by decide +kernel)
    | exact kit_ty (show kitB _ _ = some false by decide +kernel)
theorem Th.kBool {H : Hp} {v : V} {n : String} (t : Th H v n) : PySem.W.kitOne K (.type n) (.type "bool") = some (isB v) := by
  cases t <;> first
    | exact kit_ty (show kitB _ _ = some true by decide +kernel)
    | exact kit_ty (show kitB _ _ = some false by decide +kernel)
theorem Th.kStr {H : Hp} {v : V} {n : String} (t : Th H v n) : PySem.W.kitOne K (.type n) (.type "str") = some (isS v) := by
  cases t <;> first
    | exact kit_ty (show kitB _ _ = some true by decide +kernel)
    | exact kit_ty (show kitB _ _ = some false by decide +kernel)

/-! ### is_integer, the law's own too -/
def spIsInt : Sp := fun vs H Q _ => ∃ (v : V) (n : String), vs = [v] ∧ Th H v n ∧ Q (.bl (isI v)) H
theorem scIsInt : FnScope ["thing"] ["thing"] (defScope sIsInt) := ⟨rfl, rfl, rfl, by decide +kernel, rfl, by decide +kernel, by decide +kernel⟩
theorem ok_isInt {fd : FuncData} (T : Txt K mg) (F : FnG K "is_integer" sIsInt fd) : FnOk P w K mg base CX0 1 (ga K "is_integer") fd ["thing"] spIsInt := by
  refine F.ok scIsInt (fun vs H Q E h => ?_) (fun cdv A outer s H vs Q E hr h => ?_)
  · obtain ⟨v, n, rfl, _⟩ := h
    rfl
  obtain ⟨v, n, rfl, t, k⟩ := h
  refine ⟨_, pss_one (ps_ret (pe_and (pe_callB call_isi rfl (T.f "isinstance") (by decide +kernel) (pa_cons (pv 0) (pa_cons (pe_bltn (v := .ty "int") rfl (T.f "int") (by decide +kernel) rfl) pa_nil)))
    (pe_one (pe_not (pe_callB call_isi rfl (T.f "isinstance") (by decide +kernel) (pa_cons (pv 0) (pa_cons (pe_bltn (v := .ty "bool") rfl (T.f "bool") (by decide +kernel) rfl) pa_nil))))))), ?_⟩
  refine ⟨_, rfl, v, .ty "int", .type n, .type "int", _, rfl, .ty _, t.ty, t.kInt, _, rfl, ?_⟩
  refine ite2 (fun h => ?_) (fun h => ?_)
  · refine ⟨_, rfl, v, .ty "bool", .type n, .type "bool", _, rfl, .ty _, t.ty, t.kBool, _, rfl, ?_⟩
    have e : (!isB v) = isI v := by cases t <;> first | rfl | cases h
    rw [e]
    exact k
  · have e : isI v = false := by cases t <;> first | rfl | exact absurd rfl h
    rw [e] at k
    exact k
end
end KM
set_option Elab.async false
set_option linter.all false
set_option maxRecDepth 100000
set_option maxHeartbeats 2000000
namespace Sw
open PySem PySem.Spec PyProof.Rows L2
/-- [f(c) for c in z], the element changes nothing -/
theorem lc_mapS {i : Nat} {z : Str} {f : Nat → V} {te : TE} {σ : L2.St} {H1 : Hp} {D : Addr} {Qd : Hp → Prop} (hz : z.length ≤ 1000)
    (ht : ∀ (c : Nat) (H : Hp) (Q : VK), Q (f c) H → te ((wipe σ [i]).set i (some (.str ⟨#[c]⟩))) H Q) (hd : Qd (upd H1 D (.lst (z.cps.toList.map f)))) :
    ∃ W : Nat → Nat → Hp → Prop, (∃ m, W 0 m (upd H1 D (.lst []))) ∧ ∀ j m H, W j m H →
      ((Its z).stop j H ∧ Qd H) ∨ ((Its z).go j H ∧ ∃ Nx : Hp → Prop, (∀ H', Nx H' → ∃ m', m' < m ∧ W (j + 1) m' H') ∧ ∀ x H', (Its z).yld j H x H' → gName i x (wipe σ [i]) H' fun σ2 H2 => wipe σ2 [i] = wipe σ [i] ∧ tYes σ2 H2 fun b H3 =>
        if b = true then te σ2 H3 fun y H4 => ∃ acc, H4 D = some (.lst acc) ∧ acc.length < sizeLine ∧ Nx (upd H4 D (.lst (acc ++ [y]))) else Nx H3) := by
  have hsz : z.cps.size ≤ 1000 := hz
  have updd : ∀ (o o' : HO), upd (upd H1 D o) D o' = upd H1 D o' := fun o o' => by
    funext b
    by_cases hb : b = D
    · rw [hb, upd_same, upd_same]
    · rw [upd_ne hb, upd_ne hb, upd_ne hb]
  refine lc_it walk_str (fun j H => H = upd H1 D (.lst ((z.cps.toList.take j).map f))) (by simp) (fun _ _ _ _ => trivial) ?_ ?_
  · rintro j x H H' hj rfl ⟨rfl, c, hc, rfl⟩
    have hc2 : z.cps.toList[j]? = some c := by rw [Array.getElem?_toList]; exact hc
    refine ⟨by simp [wipe], ?_⟩
    refine ht c (upd H1 D (.lst ((z.cps.toList.take j).map f))) _ ⟨_, upd_same, ?_, ?_⟩
    · rw [List.length_map, List.length_take, sizeLine_eq]
      omega
    · show upd (upd H1 D _) D _ = _
      rw [updd, List.take_add_one, hc2]
      simp
  · rintro H rfl
    have e : z.cps.toList.take z.cps.size = z.cps.toList := List.take_of_length_le (by simp)
    rw [e]
    exact hd
end Sw
namespace KM
open PySem PySem.Spec PyProof.Rows L2 He Sw
section
variable {P : Program} {w : World} {K : PySem.W.Frag} {mg : Str → Option Value} {base : Heap}
abbrev LET : Str := "abcdefghijklmnopqrstuvwxyz"
/-- a text of small letters alone -/
def low (z : Str) : Bool := z.cps.toList.all fun c => decide (c ∈ LET.cps.toList)
def isNmS (z : Str) : Bool := decide ((1 : Int) ≤ (z.length : Nat)) && (decide (((z.length : Nat) : Int) ≤ 8) && (!inV (.str z) (noNames.map V.str) && low z))
def isNm : V → Bool
  | .str z => isNmS z
  | _ => false
def spIsName : Sp := fun vs H Q _ => ∃ (v : V) (n : String), vs = [v] ∧ Th H v n ∧ ∀ H', Same H H' → Q (.bl (isNm v)) H'
theorem scIsName : FnScope ["thing", "letter"] ["thing"] (defScope sIsName) := ⟨rfl, rfl, rfl, by decide +kernel, rfl, by decide +kernel, by decide +kernel⟩
theorem noN_flat : (noNames.map V.str).all flatV = true := rfl
theorem ok_isName {fd : FuncData} (T : Txt K mg) (F : FnG K "is_name" sIsName fd) : FnOk P w K mg base CX0 1 (ga K "is_name") fd ["thing"] spIsName := by
  refine F.ok scIsName (fun vs H Q E h => ?_) (fun cdv A outer s H vs Q E hr h => ?_)
  · obtain ⟨v, n, rfl, _⟩ := h
    rfl
  obtain ⟨v, n, rfl, t, k⟩ := h
  obtain ⟨tL, hL⟩ := T.let_
  obtain ⟨t8, h8⟩ := T.mLet
  have nd := scIsName.nd
  refine ⟨_, PSs.nox (pss_cons (ps_if (PW.pt (pw_or (pt_not (pt_val (pe_callB call_isi rfl (T.f "isinstance") (by decide +kernel) (pa_cons (pv 0) (pa_cons (pe_bltn (v := .ty "str") rfl (T.f "str") (by decide +kernel) rfl) pa_nil)))))
      (pw_or1 (pt_not (pt_chain op_le op_le pe_int (pe_callB call_len_str rfl (T.f "len") (by decide +kernel) (pa_cons (pv 0) pa_nil)) (pe_glob (v := .int 8) rfl h8 ⟨_, rfl⟩))))))
      (pss_one (ps_ret pe_bl)) pss_nil)
    (pss_one (ps_ret (pe_and (pe_cmpR op_notIn_seq (pv 0) (pe_glob (v := .ref (ga K "NO_NAMES")) rfl (T.g "NO_NAMES") rfl) rfl)
      (pe_one (pe_callB (cr_all rfl) rfl (T.f "all") (by decide +kernel) (pa_cons (pe_lc (own := [("letter", 1)]) (g := gName 1) (tt := tYes) rfl nd (pi_str (pv 0))
        (blkOk_by (N := ["thing", "letter"]) (sc := defScope sIsName) (by decide +kernel)) (fun _ _ _ _ _ => pg_name (i := 1) nd rfl (Or.inl rfl)) (fun _ _ _ _ _ => pts_nil)
        (fun _ _ _ _ _ => pe_cmpR op_in_sign (pv 1) (pe_glob (v := .str LET) rfl hL ⟨_, rfl⟩) rfl)) pa_nil))))))), ?_⟩
  refine ⟨_, rfl, v, .ty "str", .type n, .type "str", _, rfl, .ty _, t.ty, t.kStr, _, rfl, ?_⟩
  refine ite2 (fun h => ?_) (fun h => ?_)
  · -- no text
    refine ite2 (fun _ => ?_) (fun h2 => absurd rfl h2)
    have e : isNm v = false := by cases t <;> first | rfl | cases h
    have q := k H (Same.refl H)
    rw [e] at q
    exact q
  · obtain ⟨z, rfl, hz⟩ : ∃ z, v = V.str z ∧ z.length ≤ 100 := by
      cases t <;> first | exact absurd rfl h | skip
      rename_i z hz
      exact ⟨z, rfl, hz⟩
    refine ⟨_, rfl, z, rfl, (by rw [sizeLine_eq]; omega), _, _, rfl, rfl, _, rfl, ?_⟩
    have fin : ∀ (b : Bool), b = isNmS z → ∀ H', Same H H' → Q (.bl b) H' := fun b e H' s => by
      rw [e]
      exact k H' s
    have back : ∀ h1 : ¬ ((decide ((1 : Int) ≤ (z.length : Nat)) && decide (((z.length : Nat) : Int) ≤ 8)) = true), isNmS z = false := fun h1 => by
      unfold isNmS
      rw [← Bool.and_assoc, Bool.eq_false_iff.mpr h1, Bool.false_and]
    -- 1 <= len(thing) <= MOST_LETTERS
    have rest : (decide ((1 : Int) ≤ (z.length : Nat)) && decide (((z.length : Nat) : Int) ≤ 8)) = true → tAndV (tOp (rIn K true) (tVar 0) (tC (V.ref (ga K "NO_NAMES")))) (tCB (rAll K) (tCons (tLc (iStr (tVar 0)) (gName 1) tYes
        (tOp (fun x y H Q => ∃ c z, x = V.str { cps := #[c] } ∧ y = V.str z ∧ Q (V.bl (decide (c ∈ z.cps.toList))) H) (tVar 1) (tC (V.str LET))) [1]) tNil)) (L2.start ["thing", "letter"] [V.str z]) H Q := fun h1 => by
      have e1 : isNmS z = (!inV (.str z) (noNames.map V.str) && low z) := by
        unfold isNmS
        rw [← Bool.and_assoc, h1, Bool.true_and]
      refine ⟨_, rfl, _, _, rfl, .inr (T.noN H), rfl, noN_flat, _, rfl, ?_⟩
      refine ite2 (fun h2 => ?_) (fun h2 => ?_)
      · refine ⟨_, rfl, z, rfl, fun D hD => ?_⟩
        refine lc_mapS (f := fun c => V.bl (decide (c ∈ LET.cps.toList))) (by omega) (fun c H Q q => ⟨_, rfl, c, _, rfl, rfl, q⟩) ?_
        refine ⟨D, z.cps.toList.map fun c => decide (c ∈ LET.cps.toList), rfl, .inl (.inl ?_), ?_⟩
        · rw [upd_same, List.map_map]
          rfl
        · refine fin _ ?_ _ fun b o e => by rw [upd_ne (ne_of_none e hD)]; exact e
          rw [e1, show (!inV (.str z) (noNames.map V.str)) = true from h2, Bool.true_and, List.all_map]
          rfl
      · refine fin false ?_ H (Same.refl H)
        rw [e1, show (!inV (.str z) (noNames.map V.str)) = false from Bool.eq_false_iff.mpr h2, Bool.false_and]
    refine ite2 (fun h1 => ?_) (fun h1 => ?_)
    · refine ⟨_, _, rfl, rfl, _, rfl, ?_⟩
      refine ite2 (fun h2 => ?_) (fun h2 => ?_)
      · refine fin false (back fun y => ?_).symm H (Same.refl H)
        have y2 := (Bool.and_eq_true_iff.mp y).2
        rw [y2] at h2
        cases h2
      · refine rest ?_
        have h2' : decide (((z.length : Nat) : Int) ≤ 8) = true := by
          cases e : decide (((z.length : Nat) : Int) ≤ 8) with
          | true => rfl
          | false => exact absurd (by show (!decide (((z.length : Nat) : Int) ≤ 8)) = true; rw [e]; rfl) h2
        rw [h1, h2']
        rfl
    · refine ⟨_, rfl, ?_⟩
      refine ite2 (fun h2 => ?_) (fun h2 => absurd rfl h2)
      refine fin false (back fun y => h1 (Bool.and_eq_true_iff.mp y).1).symm H (Same.refl H)
end
end KM
set_option Elab.async false
set_option linter.all false
set_option maxRecDepth 100000
set_option maxHeartbeats 4000000
namespace KM
open PySem PySem.Spec PyProof.Rows L2 He Sw
section
variable {P : Program} {w : World} {K : PySem.W.Frag} {mg : Str → Option Value} {base : Heap}
def GoodN (z : Str) : Prop := isNmS z = true ∧ z.length ≤ 100
/-! ### check_name -/
def spCkName : Sp := fun vs H Q _ => ∃ (z : Str), vs = [.str z] ∧ GoodN z ∧ ∀ H', Same H H' → Q .non H'
theorem scCkName : FnScope ["thing"] ["thing"] (defScope sCkName) := ⟨rfl, rfl, rfl, by decide +kernel, rfl, by decide +kernel, by decide +kernel⟩
theorem ok_ckName {fd fdN : FuncData} (T : Txt K mg) (F : FnG K "check_name" sCkName fd) (FN : FnG K "is_name" sIsName fdN) : FnOk P w K mg base CX0 2 (ga K "check_name") fd ["thing"] spCkName := by
  have GN : FnOk P w K mg base CX0 1 (ga K "is_name") fdN ["thing"] spIsName := ok_isName T FN
  have bN : Binds K fdN ["thing"] [] := FN.bindsN fun _ _ _ _ _ _ us hl => match us, hl with | [_], _ => rfl
  refine F.ok scCkName (fun vs H Q E h => ?_) (fun cdv A outer s H vs Q E hr h => ?_)
  · obtain ⟨z, rfl, _⟩ := h
    rfl
  obtain ⟨z, rfl, g, k⟩ := h
  refine ⟨_, PSs.nox (pss_one (ps_if (pt_not (pt_val (pe_call GN hr rfl (T.g "is_name") FN.kp bN .nil pass0 (pa_cons (pv 0) pa_nil)))) (pss_one ps_never) pss_nil)), ?_⟩
  refine ⟨_, rfl, .str z, _, rfl, .str z g.2, fun H' s' => ⟨_, rfl, ?_⟩⟩
  refine ite2 (fun h => ?_) (fun _ => k H' s')
  have h : (!isNmS z) = true := h
  rw [g.1] at h
  cases h
/-! ### Formula.__init__ -/
def flds (kd th : V) (p d : Nat) : List (Str × V) := putF "depth" (.int d) (putF "parts" (.int p) (putF "things" th (putF "kind" kd [])))
/-- all but the object at a is as it was -/
def SameBut (a : Addr) (H H' : Hp) : Prop := ∀ b o, b ≠ a → H b = some o → H' b = some o
/-- a formula: where it stands, its depth, parts, indexes, class, kind and things -/
structure Kd where
  a : Addr
  d : Nat
  p : Nat
  ix : List Str
  C : Str
  kd : Str
  th : List V
def sumP (ks : List Kd) : Nat := (ks.map (·.p)).sum
def maxD : List Kd → Nat
  | [] => 0
  | k :: ks => max k.d (maxD ks)
def KidAt (K : PySem.W.Frag) (H : Hp) (k : Kd) : Prop := ∃ (dx t : Addr), k.C ∈ clsL ∧ H k.a = some (.ins (ga K k.C) dx (flds (.str k.kd) (.ref t) k.p k.d)) ∧ H t = some (.tup k.th)
theorem KidAt.same {H H' : Hp} {k : Kd} (h : KidAt K H k) (s : Same H H') : KidAt K H' k := by
  obtain ⟨dx, t, I, e, e2⟩ := h
  exact ⟨dx, t, I, s _ _ e, s _ _ e2⟩
def refs (ks : List Kd) : List V := ks.map fun k => V.ref k.a
def Fits (ks : List Kd) : Prop := 1 + sumP ks ≤ 300 ∧ 1 + maxD ks ≤ 40
def spForm (K : PySem.W.Frag) : Sp := fun vs H Q _ => ∃ (a C dx e : Addr) (kd th : V) (ks : List Kd), vs = [.ref a, kd, th, .ref e] ∧ H a = some (.ins C dx []) ∧ InsT K C ∧ H e = some (.tup (refs ks)) ∧ (∀ k ∈ ks, KidAt K H k) ∧ ks.length ≤ 10 ∧ Fits ks ∧
  ∀ H', SameBut a H H' → H' a = some (.ins C dx (flds kd th (1 + sumP ks) (1 + maxD ks))) → Q .non H'
theorem scForm : FnScope ["self", "kind", "things", "inner", "parts", "depth", "one"] ["self", "kind", "things", "inner"] (defScope sForm) := ⟨rfl, rfl, rfl, by decide +kernel, rfl, by decide +kernel, by decide +kernel⟩
/-- [one.f for one in inner] -/
theorem lc_kids {ks : List Kd} {f : Str} {g : Kd → Nat} {i : Nat} {e : Addr} {H D : _} {σ : L2.St} {Qd : Hp → Prop} (T : Txt K mg) (he : H e = some (.tup (refs ks))) (hk : ∀ k ∈ ks, KidAt K H k) (hl : ks.length ≤ 10) (hD : H D = none) (hf : f ∈ fldL)
    (hg : ∀ kd th (k : Kd), (flds kd th k.p k.d).lookup f = some (.int (g k))) (hi : ∀ v : V, ((wipe σ [i]).set i (some v))[i]? = some (some v)) (hw : ∀ v : V, wipe ((wipe σ [i]).set i (some v)) [i] = wipe σ [i]) (hd : ∀ H', H' D = some (.lst ((ks.map fun k => ((g k : Nat) : Int)).map V.int)) → Same H H' → Qd H') :
    ∃ W : Nat → Nat → Hp → Prop, (∃ m, W 0 m (upd H D (.lst []))) ∧ ∀ j m H, W j m H →
      ((Itt K e).stop j H ∧ Qd H) ∨ ((Itt K e).go j H ∧ ∃ Nx : Hp → Prop, (∀ H', Nx H' → ∃ m', m' < m ∧ W (j + 1) m' H') ∧ ∀ x H', (Itt K e).yld j H x H' → gName i x (wipe σ [i]) H' fun σ2 H2 => wipe σ2 [i] = wipe σ [i] ∧ tYes σ2 H2 fun b H3 =>
        if b = true then tFld K (tVar i) f σ2 H3 fun y H4 => ∃ acc, H4 D = some (.lst acc) ∧ acc.length < sizeLine ∧ Nx (upd H4 D (.lst (acc ++ [y]))) else Nx H3) := by
  have updd : ∀ (o o' : HO), upd (upd H D o) D o' = upd H D o' := fun o o' => by
    funext b
    by_cases hb : b = D
    · rw [hb, upd_same, upd_same]
    · rw [upd_ne hb, upd_ne hb, upd_ne hb]
  have up : ∀ {o}, Same H (upd H D o) := fun {o} b u e => by rw [upd_ne (ne_of_none e hD)]; exact e
  refine lc_tup (K := K) (a := e) (xs := refs ks) (fun j H' => H' = upd H D (.lst ((ks.take j).map fun k => .int (g k)))) (by simp) (fun j H' _ eH => by rw [eH]; exact SqT.of (up _ _ he)) (fun j x H' hx eH => ?_) (fun H' eH => ?_)
  · subst eH
    obtain ⟨k, hkj, rfl⟩ : ∃ k, ks[j]? = some k ∧ V.ref k.a = x := by
      unfold refs at hx
      rw [List.getElem?_map] at hx
      cases h : ks[j]? with
      | none => rw [h] at hx; cases hx
      | some k => rw [h] at hx; exact ⟨k, rfl, by injection hx⟩
    obtain ⟨dx, t, hC, ek, _⟩ := hk k (List.mem_of_getElem? hkj)
    have I := T.ins _ hC
    refine ⟨hw _, ?_⟩
    refine ⟨_, hi _, k.a, _, dx, _, _, rfl, up _ _ ek, I.cl, I.no f hf, hg _ _ k, _, upd_same, ?_, ?_⟩
    · rw [List.length_map, List.length_take, sizeLine_eq]
      omega
    · show upd (upd H D _) D _ = _
      rw [updd, List.take_add_one, hkj]
      simp
  · subst eH
    have e2 : ks.take (refs ks).length = ks := List.take_of_length_le (by simp [refs])
    rw [e2]
    exact hd _ (by rw [upd_same, List.map_map]; rfl) up
theorem maxD_ge : ∀ {ks : List Kd} {k : Kd}, k ∈ ks → k.d ≤ maxD ks
  | q :: qs, k, h => by
    rcases List.mem_cons.mp h with rfl | h
    · exact Nat.le_max_left _ _
    · exact Nat.le_trans (maxD_ge h) (Nat.le_max_right _ _)
theorem maxD_mem : ∀ {ks : List Kd}, ks ≠ [] → ∃ k ∈ ks, k.d = maxD ks
  | [q], _ => ⟨q, List.mem_cons_self, by show q.d = max q.d 0; omega⟩
  | q :: r :: qs, _ => by
    obtain ⟨k, hk, e⟩ := maxD_mem (ks := r :: qs) (by simp)
    by_cases h : maxD (r :: qs) ≤ q.d
    · exact ⟨q, List.mem_cons_self, by show q.d = max q.d (maxD (r :: qs)); omega⟩
    · exact ⟨k, List.mem_cons_of_mem _ hk, by show k.d = max q.d (maxD (r :: qs)); omega⟩
theorem sum_int : ∀ ks : List Kd, (ks.map fun k => (k.p : Int)).sum = (sumP ks : Nat)
  | [] => rfl
  | k :: ks => by
    have e := sum_int ks
    show (k.p : Int) + (ks.map fun k => (k.p : Int)).sum = ((k.p + sumP ks : Nat) : Int)
    omega
theorem max_kids {ks : List Kd} {G : Int → Prop} (q : G (maxD ks : Nat)) : (∀ m, m ∈ (ks.map fun k => (k.d : Int)) → (∀ y, y ∈ (ks.map fun k => (k.d : Int)) → y ≤ m) → G m) ∧ ((ks.map fun k => (k.d : Int)) = [] → G 0) := by
  refine ⟨fun m hm hy => ?_, fun h => ?_⟩
  · obtain ⟨k, hk, rfl⟩ := List.mem_map.mp hm
    have h1 := maxD_ge hk
    obtain ⟨k', hk', e'⟩ := maxD_mem (ks := ks) (fun z => by rw [z] at hk; cases hk)
    have h2 := hy _ (List.mem_map.mpr ⟨k', hk', rfl⟩)
    have e3 : k.d = maxD ks := by omega
    rw [e3]
    exact q
  · have e0 : ks = [] := List.map_eq_nil_iff.mp h
    subst e0
    exact q
theorem ok_form {fd : FuncData} (T : Txt K mg) (F : FnM K "Formula" "Formula.__init__" sForm [] fd) :
    FnOk P w K mg base CX0 1 (ma K (ga K "Formula") "__init__") fd ["self", "kind", "things", "inner"] (spForm K) := by
  refine F.ok scForm (fun vs H Q E h => ?_) (fun cdv A outer s H vs Q E hr h => ?_)
  · obtain ⟨a, C, dx, e, kd, th, ks, rfl, _⟩ := h
    rfl
  obtain ⟨a, C, dx, e, kd, th, ks, rfl, ha, TC, he, hk, hl, fit, k1⟩ := h
  obtain ⟨tP, hP⟩ := T.mPar
  obtain ⟨tD, hD⟩ := T.mDep
  have nd := scForm.nd
  refine ⟨_, PSs.nox (pss_cons (ps_set (i := 4) nd rfl (Or.inl rfl) (pe_op op_add pe_int (pe_callB (cr_sum rfl) rfl (T.f "sum") (by decide +kernel) (pa_cons (pe_lc (own := [("one", 6)]) (te := tFld K (tVar 6) "parts") (g := gName 6) (tt := tYes) rfl nd (pi_tup (pv 3))
        (blkOk_by (N := ["self", "kind", "things", "inner", "parts", "depth", "one"]) (sc := defScope sForm) (by decide +kernel)) (fun _ _ _ _ _ => pg_name (i := 6) nd rfl (Or.inl rfl)) (fun _ _ _ _ _ => pts_nil)
        (fun _ _ _ _ _ => pe_fld (pv 6) rfl)) pa_nil))))
    (pss_cons (ps_set (i := 5) nd rfl (Or.inl rfl) (pe_op op_add pe_int (pe_callBK (crk_max rfl) rfl (T.f "max") (by decide +kernel) (pa_cons (pe_lc (own := [("one", 6)]) (te := tFld K (tVar 6) "depth") (g := gName 6) (tt := tYes) rfl nd (pi_tup (pv 3))
        (blkOk_by (N := ["self", "kind", "things", "inner", "parts", "depth", "one"]) (sc := defScope sForm) (by decide +kernel)) (fun _ _ _ _ _ => pg_name (i := 6) nd rfl (Or.inl rfl)) (fun _ _ _ _ _ => pts_nil)
        (fun _ _ _ _ _ => pe_fld (pv 6) rfl)) pa_nil) (pk_cons pe_int pk_nil))))
    (pss_cons (ps_if (PW.pt (pw_or (pt_cmpR op_gt (pv 4) (pe_glob (v := .int 300) rfl hP ⟨_, rfl⟩) (nomark _)) (pw_or1 (pt_cmpR op_gt (pv 5) (pe_glob (v := .int 40) rfl hD ⟨_, rfl⟩) (nomark _)))))
      (pss_one ps_never) pss_nil)
    (pss_cons (ps_fld (pv 0) (pv 1) rfl) (pss_cons (ps_fld (pv 0) (pv 2) rfl) (pss_cons (ps_fld (pv 0) (pv 4) rfl) (pss_one (ps_fld (pv 0) (pv 5) rfl)))))))), ?_⟩
  have no : ∀ f ∈ fldL, NoAttr K C f := TC.no
  -- parts = 1 + sum([..])
  refine ⟨_, rfl, e, rfl, ⟨_, .inl (.inl he)⟩, fun D hDn => ?_⟩
  refine lc_kids T (g := fun k => k.p) he hk hl hDn (by decide +kernel) (fun _ _ _ => rfl) (fun _ => rfl) (fun _ => rfl) (fun H1 e1 s1 => ?_)
  refine ⟨D, ks.map fun k => (k.p : Int), rfl, SqL.of e1, _, _, rfl, rfl, ?_⟩
  rw [sum_int]
  -- depth = 1 + max([..], default=0)
  refine ⟨_, rfl, e, rfl, ⟨_, .inl (.inl (s1 _ _ he))⟩, fun D2 hD2 => ?_⟩
  refine lc_kids T (g := fun k => k.d) (s1 _ _ he) (fun k hk' => (hk k hk').same s1) hl hD2 (by decide +kernel) (fun _ _ _ => rfl) (fun _ => rfl) (fun _ => rfl) (fun H2 e2 s2 => ?_)
  have s02 := s1.trans s2
  refine ⟨D2, ks.map fun k => (k.d : Int), .int 0, rfl, rfl, SqL.of e2, And.symm (max_kids ?_)⟩
  refine ⟨_, _, rfl, rfl, ?_⟩
  have done : (1 + sumP ks ≤ 300 ∧ 1 + maxD ks ≤ 40) → ∀ H', SameBut a H H' → H' a = some (.ins C dx (putF "depth" (.int (1 + (maxD ks : Nat))) (putF "parts" (.int (1 + (sumP ks : Nat))) (putF "things" th (putF "kind" kd []))))) → Q .non H' := by
    intro g H' sb e'
    refine k1 H' sb ?_
    rw [e']
    unfold flds
    rw [Int.natCast_add, Int.natCast_add]
    rfl
  -- neither is too great
  refine ⟨_, rfl, _, _, rfl, rfl, _, rfl, ?_⟩
  refine ite2 (fun h => ?_) (fun h => ?_)
  · refine ite2 (fun _ => ?_) (fun h2 => absurd rfl h2)
    have h : (300 : Int) < 1 + (sumP ks : Nat) := of_decide_eq_true h
    exact absurd fit.1 (by omega)
  have h : ¬ ((300 : Int) < 1 + (sumP ks : Nat)) := fun z => h (decide_eq_true z)
  refine ⟨_, rfl, _, _, rfl, rfl, _, rfl, ?_⟩
  refine ite2 (fun h4 => ?_) (fun h4 => ?_)
  · have h4 : (40 : Int) < 1 + (maxD ks : Nat) := of_decide_eq_true h4
    exact absurd fit.2 (by omega)
  have h4 : ¬ ((40 : Int) < 1 + (maxD ks : Nat)) := fun z => h4 (decide_eq_true z)
  have ha2 := s02 _ _ ha
  -- the fields
  refine ⟨_, rfl, _, rfl, a, C, dx, _, rfl, ha2, TC.cl, no _ (by decide +kernel), (by show 0 < 1000; decide), ?_⟩
  refine ⟨_, rfl, _, rfl, a, C, dx, _, rfl, upd_same, TC.cl, no _ (by decide +kernel), (by show 1 < 1000; decide), ?_⟩
  refine ⟨_, rfl, _, rfl, a, C, dx, _, rfl, upd_same, TC.cl, no _ (by decide +kernel), (by show 2 < 1000; decide), ?_⟩
  refine ⟨_, rfl, _, rfl, a, C, dx, _, rfl, upd_same, TC.cl, no _ (by decide +kernel), (by show 3 < 1000; decide), ?_⟩
  refine done fit _ (fun b o hb q => ?_) upd_same
  rw [upd_ne hb, upd_ne hb, upd_ne hb, upd_ne hb]
  exact s02 _ _ q
end
end KM
set_option Elab.async false
set_option linter.all false
set_option maxRecDepth 100000
set_option maxHeartbeats 8000000
namespace KM
open PySem PySem.Spec PyProof.Rows L2 He Sw L2H
section
variable {P : Program} {w : World} {K : PySem.W.Frag} {mg : Str → Option Value} {base : Heap}
/-! ### the heap -/
theorem tsz {n : Nat} (h : n ≤ 1000000) : n ≤ sizeLine := by rw [sizeLine_eq]; omega
theorem tlt {n : Nat} (h : n < 1000000) : n < sizeLine := by rw [sizeLine_eq]; omega
theorem none_back {H H' : Hp} {d : Addr} (s : Same H H') (h : H' d = none) : H d = none := by
  cases e : H d with
  | none => rfl
  | some o => rw [s _ _ e] at h; cases h
theorem SameBut.of {a : Addr} {H H' : Hp} (x : Same H H') : SameBut a H H' := fun b o _ e => x b o e
theorem SameBut.trans {a : Addr} {H H1 H2 : Hp} (x : SameBut a H H1) (y : SameBut a H1 H2) : SameBut a H H2 := fun b o hb e => y b o hb (x b o hb e)
theorem SameBut.refl {a : Addr} {H : Hp} : SameBut a H H := fun _ _ _ e => e
theorem sameBut_upd {a : Addr} {H : Hp} {o : HO} : SameBut a H (upd H a o) := fun b u hb e => by rw [upd_ne hb]; exact e
theorem tup_but {H H' : Hp} {a C dx t : Addr} {fs : List (Str × V)} {xs : List V} (ha : H a = some (.ins C dx fs)) (s : SameBut a H H') (et : H t = some (.tup xs)) : H' t = some (.tup xs) := s _ _ (fun z => by
  rw [z, ha] at et
  cases et) et
theorem upd_new {H : Hp} {p : Addr} {o : HO} (hp : H p = none) : Same H (upd H p o) := fun b o q => by rw [upd_ne (ne_of_none q hp)]; exact q
theorem upd2 (G : Hp) (D : Addr) (o o' : HO) : upd (upd G D o) D o' = upd G D o' := by
  funext b
  by_cases hb : b = D
  · rw [hb, upd_same, upd_same]
  · rw [upd_ne hb, upd_ne hb, upd_ne hb]
/-! ### what lists do not touch -/
def SameT (H H' : Hp) : Prop := ∀ b o, H b = some o → (∀ xs, o ≠ .lst xs) → H' b = some o
theorem SameT.of {H H' : Hp} (s : Same H H') : SameT H H' := fun b o e _ => s b o e
theorem SameT.refl (H : Hp) : SameT H H := fun _ _ e _ => e
theorem SameT.trans {H H1 H2 : Hp} (x : SameT H H1) (y : SameT H1 H2) : SameT H H2 := fun b o e n => y b o (x b o e n) n
theorem SameT.but {H H' : Hp} {a : Addr} {xs : List V} (s : SameBut a H H') (ha : H a = some (.lst xs)) : SameT H H' := fun b o e n => s b o (fun z => by
  rw [z, ha] at e
  injection e with e
  exact n xs e.symm) e
theorem filt_pos {α : Type} {p : α → Bool} {l : List α} {z : α} (h : p z = true) : (l ++ [z]).filter p = l.filter p ++ [z] := by rw [List.filter_append, List.filter_cons_of_pos h]; rfl
theorem filt_neg {α : Type} {p : α → Bool} {l : List α} {z : α} (h : ¬ p z = true) : (l ++ [z]).filter p = l.filter p := by rw [List.filter_append, List.filter_cons_of_neg h]; simp
theorem take_at {α : Type} {l : List α} {i : Nat} {k : α} (h : l[i]? = some k) : l.take (i + 1) = l.take i ++ [k] := by rw [List.take_add_one, h]; rfl
theorem map_at {α : Type} {f : α → V} {l : List α} {i : Nat} {x : V} (h : (l.map f)[i]? = some x) : ∃ k, l[i]? = some k ∧ f k = x := by
  rw [List.getElem?_map] at h
  cases e : l[i]? with
  | none => rw [e] at h; cases h
  | some k => rw [e] at h; exact ⟨k, rfl, by injection h⟩
theorem pick_str {zs : List Str} {j : Nat} (h : j < zs.length) : ∃ z ∈ zs, (zs.map V.str)[j]? = some (V.str z) := ⟨zs[j], List.getElem_mem h, by rw [List.getElem?_map, List.getElem?_eq_getElem h]; rfl⟩
/-- [x for x in xs], texts, kept if p -/
theorem no_false {Pr : Prop} (h : false = true) : Pr := Bool.noConfusion h
theorem notr {b : Bool} (h : ¬ b = true) : b = false := Bool.eq_false_iff.mpr h
theorem flat_strs (zs : List Str) : (zs.map V.str).all flatV = true := by
  rw [List.all_eq_true]
  intro v hv
  obtain ⟨z, _, rfl⟩ := List.mem_map.mp hv
  rfl
theorem inV_strs (z : Str) : ∀ zs : List Str, inV (.str z) (zs.map V.str) = decide (z ∈ zs)
  | [] => rfl
  | y :: zs => by
    have h := inV_strs z zs
    have e : inV (.str z) ((y :: zs).map V.str) = (eqV (.str y) (.str z) || inV (.str z) (zs.map V.str)) := rfl
    have e2 : eqV (.str y) (.str z) = decide (z = y) := by
      show decide _ = _
      by_cases c : z = y
      · subst c
        simp
      · simp [c, Ne.symm c]
    rw [e, e2, h]
    by_cases c : z = y
    · simp [c]
    · simp [c]

end
end KM
set_option Elab.async false
set_option linter.all false
set_option maxRecDepth 100000
set_option maxHeartbeats 8000000
namespace KM
open PySem PySem.Spec PyProof.Rows L2 He Sw L2H
section
variable {P : Program} {w : World} {K : PySem.W.Frag} {mg : Str → Option Value} {base : Heap}
def mk (l : List Nat) : Str := ⟨l.toArray⟩
theorem mk_add (a b : List Nat) : mk a ++ mk b = mk (a ++ b) := by
  show (⟨a.toArray ++ b.toArray⟩ : Str) = ⟨(a ++ b).toArray⟩
  simp
theorem mk_len (l : List Nat) : (mk l).length = l.length := by
  show l.toArray.size = _
  simp
theorem mk_inj {a b : List Nat} (h : mk a = mk b) : a = b := by
  have e : a.toArray = b.toArray := congrArg Str.cps h
  simpa using e
def Lo (l : List Nat) : Prop := ∀ x ∈ l, 97 ≤ x ∧ x < 123
theorem LET_ix : ∀ j : _root_.Fin 26, LET.cps[j.val]? = some (97 + j.val) := by decide +kernel
theorem LET_mem : ∀ j : _root_.Fin 26, 97 + j.val ∈ LET.cps.toList := by decide +kernel
theorem LET_len : LET.length = 26 := by decide +kernel
theorem low_mk {l : List Nat} (h : Lo l) : low (mk l) = true := by
  unfold low
  show (l.toArray.toList.all fun c => decide (c ∈ LET.cps.toList)) = true
  rw [List.all_eq_true]
  intro c hc
  have hc : c ∈ l := by simpa using hc
  obtain ⟨h1, h2⟩ := h c hc
  have e := LET_mem ⟨c - 97, by omega⟩
  have e2 : 97 + (c - 97) = c := by omega
  exact decide_eq_true (by rw [← e2]; exact e)
theorem good_mk {l : List Nat} (h : Lo l) (h1 : 1 ≤ l.length) (h8 : l.length ≤ 8) (hn : mk l ∉ noNames) : isNmS (mk l) = true := by
  unfold isNmS
  rw [mk_len, inV_strs, decide_eq_false hn, low_mk h, decide_eq_true (by omega : (1 : Int) ≤ (l.length : Nat)), decide_eq_true (by omega : ((l.length : Nat) : Int) ≤ 8)]
  rfl
/-- no more of them than places -/
theorem pig : ∀ (L B : List Str), L.Nodup → (∀ x ∈ L, x ∈ B) → L.length ≤ B.length
  | [], B, _, _ => Nat.zero_le _
  | x :: xs, B, hn, h => by
    have hx := h x List.mem_cons_self
    have hn' := List.nodup_cons.mp hn
    have r := pig xs (B.erase x) hn'.2 fun y hy => (List.mem_erase_of_ne (fun z => hn'.1 (by rw [← z]; exact hy))).mpr (h y (List.mem_cons_of_mem _ hy))
    have e := List.length_erase_of_mem hx
    have p := List.length_pos_of_mem hx
    show xs.length + 1 ≤ B.length
    omega
end
end KM
set_option Elab.async false
set_option linter.all false
set_option maxRecDepth 100000
set_option maxHeartbeats 8000000
namespace KM
open PySem PySem.Spec PyProof.Rows L2 He Sw L2H
section
variable {P : Program} {w : World} {K : PySem.W.Frag} {mg : Str → Option Value} {base : Heap}
end
/-! ### formulas -/
inductive B3
  | plus
  | minus
  | times
deriving DecidableEq
def B3.str : B3 → Str
  | .plus => "plus"
  | .minus => "minus"
  | .times => "times"
inductive Fo
  | num (n : Int)
  | nam (z : Str)
  | neg (a : Fo)
  | shl (a : Fo) (n : Int)
  | bin (o : B3) (a b : Fo)
  | sum (i : Str) (b : Fo) (a : Fo)
  | call (z : Str) (as : List Fo)
def Fo.kind : Fo → Str
  | .num _ => "number"
  | .nam _ => "name"
  | .neg _ => "negative"
  | .shl _ _ => "shift"
  | .bin o _ _ => o.str
  | .sum _ _ _ => "sum"
  | .call _ _ => "call"
def Fo.cls : Fo → Str
  | .num _ => "Number"
  | .nam _ => "Name"
  | .sum _ _ _ => "Sum"
  | .call _ _ => "Call"
  | _ => "Formula"
def Fo.kids : Fo → List Fo
  | .num _ => []
  | .nam _ => []
  | .neg a => [a]
  | .shl a _ => [a]
  | .bin _ a b => [a, b]
  | .sum _ _ a => [a]
  | .call _ as => as
mutual
def Fo.parts : Fo → Nat
  | .num _ => 1
  | .nam _ => 1
  | .neg a => 1 + a.parts
  | .shl a _ => 1 + a.parts
  | .bin _ a b => 1 + (a.parts + b.parts)
  | .sum _ _ a => 1 + a.parts
  | .call _ as => 1 + Fo.partsL as
def Fo.partsL : List Fo → Nat
  | [] => 0
  | f :: fs => f.parts + Fo.partsL fs
end
mutual
def Fo.depth : Fo → Nat
  | .num _ => 1
  | .nam _ => 1
  | .neg a => 1 + a.depth
  | .shl a _ => 1 + a.depth
  | .bin _ a b => 1 + max a.depth b.depth
  | .sum _ _ a => 1 + a.depth
  | .call _ as => 1 + Fo.depthL as
def Fo.depthL : List Fo → Nat
  | [] => 0
  | f :: fs => max f.depth (Fo.depthL fs)
end
mutual
/-- the indexes of the sums in it, as index_names tells them -/
def Fo.ixs : Fo → List Str
  | .num _ => []
  | .nam _ => []
  | .neg a => a.ixs
  | .shl a _ => a.ixs
  | .bin _ a b => a.ixs ++ b.ixs
  | .sum i _ a => i :: a.ixs
  | .call _ as => Fo.ixsL as
def Fo.ixsL : List Fo → List Str
  | [] => []
  | f :: fs => f.ixs ++ Fo.ixsL fs
end
theorem Fo.depth_kids (f : Fo) : f.depth = 1 + Fo.depthL f.kids := by
  cases f <;> simp [Fo.depth, Fo.kids, Fo.depthL]
theorem Fo.parts_kids (f : Fo) : f.parts = 1 + Fo.partsL f.kids := by
  cases f <;> simp [Fo.parts, Fo.kids, Fo.partsL]
theorem Fo.depth_pos (f : Fo) : 1 ≤ f.depth := by rw [f.depth_kids]; omega
theorem Fo.parts_pos (f : Fo) : 1 ≤ f.parts := by rw [f.parts_kids]; omega
theorem Fo.depthL_ge {f : Fo} : ∀ {fs : List Fo}, f ∈ fs → f.depth ≤ Fo.depthL fs
  | g :: fs, h => by
    rw [Fo.depthL]
    rcases List.mem_cons.mp h with rfl | h
    · omega
    · have := Fo.depthL_ge h; omega
theorem Fo.partsL_ge {f : Fo} : ∀ {fs : List Fo}, f ∈ fs → f.parts ≤ Fo.partsL fs
  | g :: fs, h => by
    rw [Fo.partsL]
    rcases List.mem_cons.mp h with rfl | h
    · omega
    · have := Fo.partsL_ge h; omega
theorem Fo.kid_depth {f g : Fo} (h : g ∈ f.kids) : g.depth < f.depth := by
  rw [f.depth_kids]
  have := Fo.depthL_ge h
  omega
theorem Fo.kid_parts {f g : Fo} (h : g ∈ f.kids) : g.parts < f.parts := by
  rw [f.parts_kids]
  have := Fo.partsL_ge h
  omega
theorem Fo.depthL_len {fs : List Fo} {n : Nat} (h : ∀ f ∈ fs, f.depth ≤ n) : Fo.depthL fs ≤ n := by
  induction fs with
  | nil => simp [Fo.depthL]
  | cons f fs ih =>
    rw [Fo.depthL]
    have h1 := h f List.mem_cons_self
    have h2 := ih fun g hg => h g (List.mem_cons_of_mem _ hg)
    omega
theorem Fo.mem_ixsL {i : Str} : ∀ {fs : List Fo}, i ∈ Fo.ixsL fs ↔ ∃ f ∈ fs, i ∈ f.ixs
  | [] => by simp [Fo.ixsL]
  | f :: fs => by simp [Fo.ixsL, Fo.mem_ixsL (fs := fs)]
/-- a number or a name -/
def Fo.leaf : Fo → Prop
  | .num _ => True
  | .nam _ => True
  | _ => False
mutual
/-- what the document lets -/
def Fo.Ok : Fo → Prop
  | .num n => 0 ≤ n ∧ n < 10 ^ 30
  | .nam z => GoodN z
  | .neg a => a.Ok
  | .shl a n => 0 ≤ n ∧ n ≤ 64 ∧ a.Ok
  | .bin _ a b => a.Ok ∧ b.Ok
  | .sum i b a => GoodN i ∧ b.leaf ∧ b.Ok ∧ b ≠ .nam i ∧ i ∉ a.ixs ∧ a.Ok
  | .call z as => GoodN z ∧ 1 ≤ as.length ∧ as.length ≤ 4 ∧ Fo.OkL as
def Fo.OkL : List Fo → Prop
  | [] => True
  | f :: fs => f.Ok ∧ Fo.OkL fs
end
theorem Fo.okL_mem : ∀ {fs : List Fo}, Fo.OkL fs ↔ ∀ f ∈ fs, f.Ok
  | [] => by simp [Fo.OkL]
  | f :: fs => by simp [Fo.OkL, Fo.okL_mem (fs := fs)]
theorem Fo.ok_kids {f : Fo} (h : f.Ok) : ∀ g ∈ f.kids, g.Ok := by
  cases f with
  | num n => intro g hg; cases hg
  | nam z => intro g hg; cases hg
  | neg a => intro g hg; rw [List.mem_singleton.mp hg]; simpa [Fo.Ok] using h
  | shl a n =>
    simp only [Fo.Ok] at h
    intro g hg; rw [List.mem_singleton.mp hg]; exact h.2.2
  | bin o a b =>
    simp only [Fo.Ok] at h
    intro g hg
    rcases List.mem_cons.mp hg with rfl | hg
    · exact h.1
    · rw [List.mem_singleton.mp hg]; exact h.2
  | sum i b a =>
    simp only [Fo.Ok] at h
    intro g hg; rw [List.mem_singleton.mp hg]; exact h.2.2.2.2.2
  | call z as =>
    simp only [Fo.Ok] at h
    exact Fo.okL_mem.mp h.2.2.2
def Fo.Fits (f : Fo) : Prop := f.parts ≤ 300 ∧ f.depth ≤ 40
theorem Fo.Fits.kid {f g : Fo} (h : f.Fits) (k : g ∈ f.kids) : g.Fits := ⟨by have := Fo.kid_parts k; have := h.1; omega, by have := Fo.kid_depth k; have := h.2; omega⟩
theorem Fo.leaf_sizes {f : Fo} (h : f.leaf) : f.parts = 1 ∧ f.depth = 1 := by cases f <;> first | exact (show False from h).elim | exact ⟨by simp [Fo.parts], by simp [Fo.depth]⟩
section
variable {P : Program} {w : World} {K : PySem.W.Frag} {mg : Str → Option Value} {base : Heap}
/-! ### formulas in the heap -/
def Nd (K : PySem.W.Frag) (H : Hp) (f : Fo) (a : Addr) (th : List V) : Prop := ∃ dx t, H a = some (.ins (ga K f.cls) dx (flds (.str f.kind) (.ref t) f.parts f.depth)) ∧ H t = some (.tup th)
mutual
def FoAt (K : PySem.W.Frag) (H : Hp) : Fo → Addr → Prop
  | .num n, a => Nd K H (.num n) a [.int n]
  | .nam z, a => Nd K H (.nam z) a [.str z]
  | .neg f, a => ∃ x, Nd K H (.neg f) a [.ref x] ∧ FoAt K H f x
  | .shl f n, a => ∃ x, Nd K H (.shl f n) a [.ref x, .int n] ∧ FoAt K H f x
  | .bin o f g, a => ∃ x y, Nd K H (.bin o f g) a [.ref x, .ref y] ∧ FoAt K H f x ∧ FoAt K H g y
  | .sum i b f, a => ∃ y x, Nd K H (.sum i b f) a [.str i, .ref y, .ref x] ∧ FoAt K H b y ∧ FoAt K H f x
  | .call z fs, a => ∃ u xs, Nd K H (.call z fs) a [.str z, .ref u] ∧ H u = some (.tup (xs.map V.ref)) ∧ FoAts K H fs xs
def FoAts (K : PySem.W.Frag) (H : Hp) : List Fo → List Addr → Prop
  | [], xs => xs = []
  | f :: fs, xs => ∃ x ys, xs = x :: ys ∧ FoAt K H f x ∧ FoAts K H fs ys
end
theorem notL {xs : List V} : ∀ ys, HO.tup xs ≠ .lst ys := fun _ z => by cases z
theorem notLi {C dx : Addr} {fs : List (Str × V)} : ∀ ys, HO.ins C dx fs ≠ .lst ys := fun _ z => by cases z
theorem Nd.sameT {H H' : Hp} {f : Fo} {a : Addr} {th : List V} (h : Nd K H f a th) (s : SameT H H') : Nd K H' f a th := by
  obtain ⟨dx, t, e1, e2⟩ := h
  exact ⟨dx, t, s _ _ e1 notLi, s _ _ e2 notL⟩
mutual
theorem FoAt.sameT {H H' : Hp} (s : SameT H H') : ∀ {f : Fo} {a : Addr}, FoAt K H f a → FoAt K H' f a
  | .num n, a, h => by simp only [FoAt] at h ⊢; exact h.sameT s
  | .nam z, a, h => by simp only [FoAt] at h ⊢; exact h.sameT s
  | .neg f, a, h => by simp only [FoAt] at h ⊢; obtain ⟨x, n, q⟩ := h; exact ⟨x, n.sameT s, FoAt.sameT s q⟩
  | .shl f n, a, h => by simp only [FoAt] at h ⊢; obtain ⟨x, n, q⟩ := h; exact ⟨x, n.sameT s, FoAt.sameT s q⟩
  | .bin o f g, a, h => by simp only [FoAt] at h ⊢; obtain ⟨x, y, n, q, r⟩ := h; exact ⟨x, y, n.sameT s, FoAt.sameT s q, FoAt.sameT s r⟩
  | .sum i b f, a, h => by simp only [FoAt] at h ⊢; obtain ⟨x, y, n, q, r⟩ := h; exact ⟨x, y, n.sameT s, FoAt.sameT s q, FoAt.sameT s r⟩
  | .call z fs, a, h => by simp only [FoAt] at h ⊢; obtain ⟨u, xs, n, e, q⟩ := h; exact ⟨u, xs, n.sameT s, s _ _ e notL, FoAts.sameT s q⟩
theorem FoAts.sameT {H H' : Hp} (s : SameT H H') : ∀ {fs : List Fo} {xs : List Addr}, FoAts K H fs xs → FoAts K H' fs xs
  | [], xs, h => by simp only [FoAts] at h ⊢; exact h
  | f :: fs, xs, h => by simp only [FoAts] at h ⊢; obtain ⟨x, ys, e, q, r⟩ := h; exact ⟨x, ys, e, FoAt.sameT s q, FoAts.sameT s r⟩
end
theorem FoAt.same {H H' : Hp} {f : Fo} {a : Addr} (h : FoAt K H f a) (s : Same H H') : FoAt K H' f a := h.sameT (SameT.of s)
theorem FoAts.same {H H' : Hp} {fs : List Fo} {xs : List Addr} (h : FoAts K H fs xs) (s : Same H H') : FoAts K H' fs xs := h.sameT (SameT.of s)
theorem FoAts.len {H : Hp} : ∀ {fs : List Fo} {xs : List Addr}, FoAts K H fs xs → xs.length = fs.length
  | [], xs, h => by simp only [FoAts] at h; rw [h]; rfl
  | f :: fs, xs, h => by simp only [FoAts] at h; obtain ⟨x, ys, rfl, q, r⟩ := h; simp [FoAts.len r]
theorem FoAts.get {H : Hp} : ∀ {fs : List Fo} {xs : List Addr}, FoAts K H fs xs → ∀ {i : Nat} {x : Addr}, xs[i]? = some x → ∃ f, fs[i]? = some f ∧ FoAt K H f x
  | [], xs, h, i, x, e => by simp only [FoAts] at h; rw [h] at e; cases i <;> cases e
  | f :: fs, xs, h, i, x, e => by
    simp only [FoAts] at h
    obtain ⟨y, ys, rfl, q, r⟩ := h
    cases i with
    | zero => injection e with e; subst e; exact ⟨f, rfl, q⟩
    | succ i => exact FoAts.get r e
theorem FoAts.snoc {H : Hp} {f : Fo} {x : Addr} (q : FoAt K H f x) : ∀ {fs : List Fo} {xs : List Addr}, FoAts K H fs xs → FoAts K H (fs ++ [f]) (xs ++ [x])
  | [], xs, h => by simp only [FoAts] at h; rw [h]; simp only [List.nil_append, FoAts]; exact ⟨x, [], rfl, q, rfl⟩
  | g :: fs, xs, h => by
    simp only [FoAts] at h
    obtain ⟨y, ys, rfl, q', r⟩ := h
    simp only [List.cons_append, FoAts]
    exact ⟨y, ys ++ [x], rfl, q', FoAts.snoc q r⟩
theorem FoAt.nd {H : Hp} {f : Fo} {a : Addr} (h : FoAt K H f a) : ∃ th, Nd K H f a th := by
  cases f <;> simp only [FoAt] at h
  · exact ⟨_, h⟩
  · exact ⟨_, h⟩
  · obtain ⟨x, n, _⟩ := h; exact ⟨_, n⟩
  · obtain ⟨x, n, _⟩ := h; exact ⟨_, n⟩
  · obtain ⟨x, y, n, _⟩ := h; exact ⟨_, n⟩
  · obtain ⟨x, y, n, _⟩ := h; exact ⟨_, n⟩
  · obtain ⟨x, y, n, _⟩ := h; exact ⟨_, n⟩
theorem Fo.cls_mem (f : Fo) : f.cls ∈ clsL := by
  have h : ∀ x ∈ (["Number", "Name", "Sum", "Call", "Formula"] : List Str), x ∈ clsL := by decide +kernel
  cases f <;> exact h _ (by simp [Fo.cls])
/-- a record of it, as Formula.__init__ asks for -/
def Fo.kd (f : Fo) (a : Addr) (th : List V) : Kd := ⟨a, f.depth, f.parts, [], f.cls, f.kind, th⟩
theorem FoAt.kid {H : Hp} {f : Fo} {a : Addr} (h : FoAt K H f a) : ∃ th, KidAt K H (f.kd a th) := by
  obtain ⟨th, dx, t, e1, e2⟩ := h.nd
  exact ⟨th, dx, t, f.cls_mem, e1, e2⟩
theorem FoAt.ins {H : Hp} {f : Fo} {a : Addr} (h : FoAt K H f a) : ∃ dx fs, H a = some (.ins (ga K f.cls) dx fs) := by
  obtain ⟨th, dx, t, e1, e2⟩ := h.nd
  exact ⟨dx, _, e1⟩
theorem FoAts.kids {H : Hp} : ∀ {fs : List Fo} {xs : List Addr}, FoAts K H fs xs → ∃ ks : List Kd, refs ks = xs.map V.ref ∧ (∀ k ∈ ks, KidAt K H k) ∧ ks.length = fs.length ∧ sumP ks = Fo.partsL fs ∧ maxD ks = Fo.depthL fs
  | [], xs, h => by simp only [FoAts] at h; rw [h]; exact ⟨[], rfl, (fun k hk => by cases hk), rfl, (by rw [Fo.partsL]; rfl), (by rw [Fo.depthL]; rfl)⟩
  | f :: fs, xs, h => by
    simp only [FoAts] at h
    obtain ⟨y, ys, rfl, q, r⟩ := h
    obtain ⟨th, hk⟩ := q.kid
    obtain ⟨ks, e1, e2, e3, e4, e5⟩ := FoAts.kids r
    refine ⟨f.kd y th :: ks, ?_, fun k h => ?_, by simp [e3], ?_, ?_⟩
    · show V.ref y :: refs ks = _
      rw [e1]; rfl
    · rcases List.mem_cons.mp h with rfl | h
      · exact hk
      · exact e2 k h
    · show f.parts + sumP ks = _
      rw [e4, Fo.partsL]
    · show max f.depth (maxD ks) = _
      rw [e5, Fo.depthL]
/-- what a making leaves: a node at x -/
theorem made {H H1 H' : Hp} {f : Fo} {x dx t : Addr} {th : List V} {p d : Nat} (s : Same H H1) (hx : H1 x = none) (hdx : H1 dx = none) (sb : SameBut x (upd (upd H1 dx (.own x)) x (.ins (ga K f.cls) dx [])) H')
    (e : H' x = some (.ins (ga K f.cls) dx (flds (.str f.kind) (.ref t) p d))) (et : H' t = some (.tup th)) (ep : p = f.parts) (ed : d = f.depth) : Same H H' ∧ Nd K H' f x th := by
  have s1 : Same H1 (upd (upd H1 dx (.own x)) x (.ins (ga K f.cls) dx [])) := fun b o e => by rw [upd_ne (ne_of_none e hx), upd_ne (ne_of_none e hdx)]; exact e
  have s2 : Same H1 H' := fun b o q => sb b o (ne_of_none q hx) (s1 _ _ q)
  subst ep ed
  exact ⟨s.trans s2, dx, t, e, et⟩
/-- its things, by the addresses of the formulas within -/
inductive Sh (K : PySem.W.Frag) (H : Hp) : Fo → List V → List Addr → Prop
  | num (n : Int) : Sh K H (.num n) [.int n] []
  | nam (z : Str) : Sh K H (.nam z) [.str z] []
  | neg (f : Fo) (x : Addr) : Sh K H (.neg f) [.ref x] [x]
  | shl (f : Fo) (n : Int) (x : Addr) : Sh K H (.shl f n) [.ref x, .int n] [x]
  | bin (o : B3) (f g : Fo) (x y : Addr) : Sh K H (.bin o f g) [.ref x, .ref y] [x, y]
  | sum (i : Str) (b f : Fo) (y x : Addr) (hb : FoAt K H b y) : Sh K H (.sum i b f) [.str i, .ref y, .ref x] [x]
  | call (z : Str) (fs : List Fo) (u : Addr) (xs : List Addr) (e : H u = some (.tup (xs.map V.ref))) : Sh K H (.call z fs) [.str z, .ref u] xs
theorem FoAt.opened {H : Hp} {f : Fo} {a : Addr} (h : FoAt K H f a) : ∃ dx t th xs, H a = some (.ins (ga K f.cls) dx (flds (.str f.kind) (.ref t) f.parts f.depth)) ∧ H t = some (.tup th) ∧ Sh K H f th xs ∧ FoAts K H f.kids xs := by
  cases f <;> simp only [FoAt] at h
  · obtain ⟨dx, t, e1, e2⟩ := h
    exact ⟨dx, t, _, _, e1, e2, .num _, by simp only [Fo.kids, FoAts]⟩
  · obtain ⟨dx, t, e1, e2⟩ := h
    exact ⟨dx, t, _, _, e1, e2, .nam _, by simp only [Fo.kids, FoAts]⟩
  · obtain ⟨x, ⟨dx, t, e1, e2⟩, q⟩ := h
    exact ⟨dx, t, _, _, e1, e2, .neg _ x, by simp only [Fo.kids, FoAts]; exact ⟨x, [], rfl, q, rfl⟩⟩
  · obtain ⟨x, ⟨dx, t, e1, e2⟩, q⟩ := h
    exact ⟨dx, t, _, _, e1, e2, .shl _ _ x, by simp only [Fo.kids, FoAts]; exact ⟨x, [], rfl, q, rfl⟩⟩
  · obtain ⟨x, y, ⟨dx, t, e1, e2⟩, q, r⟩ := h
    exact ⟨dx, t, _, _, e1, e2, .bin _ _ _ x y, by simp only [Fo.kids, FoAts]; exact ⟨x, [y], rfl, q, y, [], rfl, r, rfl⟩⟩
  · obtain ⟨y, x, ⟨dx, t, e1, e2⟩, q, r⟩ := h
    exact ⟨dx, t, _, _, e1, e2, .sum _ _ _ y x q, by simp only [Fo.kids, FoAts]; exact ⟨x, [], rfl, r, rfl⟩⟩
  · obtain ⟨u, xs, ⟨dx, t, e1, e2⟩, e, q⟩ := h
    exact ⟨dx, t, _, _, e1, e2, .call _ _ u xs e, by simp only [Fo.kids]; exact q⟩
abbrev FnF (K : PySem.W.Frag) (m q : Str) (st : Stmt) (fd : FuncData) : Prop := FunD K m q (defArgs st) (defBody st) (defScope st) [] [] (ma K (ga K "Formula") m) fd
/-- Formula(kind, things, inner), as the methods write it -/
theorem form_read {H H2 : Hp} {f : Fo} {th : List V} {ks : List Kd} {t e : Addr} {Q : VK} (T : Txt K mg) (hc : f.cls = "Formula") (s02 : Same H H2) (r : ∀ k ∈ ks, KidAt K H k) (hl : ks.length ≤ 10) (ep : f.parts = 1 + sumP ks) (ed : f.depth = 1 + maxD ks) (fit : f.Fits)
    (et : H2 t = some (.tup th)) (ee : H2 e = some (.tup (refs ks))) (q : ∀ H' x, Same H H' → Nd K H' f x th → Q (.ref x) H') :
    ∀ x dx, H2 x = none → H2 dx = none → dx ≠ x → ∀ E, spForm K [.ref x, .str f.kind, .ref t, .ref e] (upd (upd H2 dx (.own x)) x (.ins (ga K "Formula") dx [])) (fun v H3 => v = .non ∧ Q (.ref x) H3) E := by
  intro x dx hx hdx hne E
  have s3 : Same H2 (upd (upd H2 dx (.own x)) x (.ins (ga K "Formula") dx [])) := fun b o q => by rw [upd_ne (ne_of_none q hx), upd_ne (ne_of_none q hdx)]; exact q
  refine ⟨x, _, dx, e, _, _, ks, rfl, upd_same, T.ins _ (by decide +kernel), s3 _ _ ee, (fun k hk => ((r k hk).same (s02.trans s3))), hl, ⟨by have := fit.1; omega, by have := fit.2; omega⟩, fun H' sb e' => ⟨rfl, ?_⟩⟩
  have et' := tup_but upd_same sb (s3 _ _ et)
  rw [← hc] at sb e'
  obtain ⟨a1, a2⟩ := made (K := K) (f := f) s02 hx hdx sb e' et' ep.symm ed.symm
  exact q H' x a1 a2

end
end KM
set_option Elab.async false
set_option linter.all false
set_option maxRecDepth 100000
set_option maxHeartbeats 4000000
/-! Sets whose members are of one kind of keys, by the list of their rows; sorted(set(xs)) of texts. -/
namespace SetE
open PySem PySem.Spec PyProof.Rows L2
/-- at a stands a set with the rows L, in some order, and a table that can be walked -/
def Has (w : World) (h : Heap) (a : Addr) (L : List (Int × Value)) : Prop :=
  ∃ (ob : Obj) (rows : Array (Int × Value)) (ver : Nat) (tb : SetTable), h.get? a = some ob ∧ ob.ExactSet ∧ ob.data = .set rows ver tb ∧ rows.toList.Perm L ∧ L.length < scanBound ∧
    tb.fits rows.size = true ∧ Ris tb.place.toList ∧ (w.params.followText "set-order" = true ∨ tb.led = true)
theorem Has.move {w : World} {h h' : Heap} {a : Addr} {L : List (Int × Value)} (x : Has w h a L) (k : ∀ o, h.get? a = some o → h'.get? a = some o) : Has w h' a L := by
  obtain ⟨ob, rows, ver, tb, e, r⟩ := x
  exact ⟨ob, rows, ver, tb, k _ e, r⟩
section
variable {P : Program} {w : World} {A : Around} {E : Value → Shared → Prop} {s : Shared} {a : Addr} {L : List (Int × Value)}
/-- storing other rows and another table -/
theorem store_has {h : Heap} {ob : Obj} {rows rows' : Array (Int × Value)} {ver : Nat} {tb tb' : SetTable} {L' : List (Int × Value)} (e : h.get? a = some ob) (ex : ob.ExactSet) (d : ob.data = .set rows ver tb)
    (pm : rows'.toList.Perm L') (few : L'.length < scanBound) (ft : tb'.fits rows'.size = true) (ri : Ris tb'.place.toList) (ld : w.params.followText "set-order" = true ∨ tb'.led = true) :
    (h.update a (Obj.putSet rows' tb')).get? a = some { ob with data := .set rows' (ver + 1) tb' } ∧ Has w (h.update a (Obj.putSet rows' tb')) a L' := by
  have g : (h.update a (Obj.putSet rows' tb')).get? a = some { ob with data := .set rows' (ver + 1) tb' } := by
    rw [← putSet_of rows' tb' d]
    exact Heap.get?_update_self _ e (by rw [putSet_of rows' tb' d]; rfl)
  exact ⟨g, _, rows', ver + 1, tb', g, ex, rfl, pm, few, ft, ri, ld⟩
theorem rows_few {rows : Array (Int × Value)} {L' : List (Int × Value)} (pm : rows.toList.Perm L') (few : L'.length < scanBound) : rows.size ≤ sizeLine := by
  have e := pm.length_eq
  rw [Array.length_toList] at e
  exact fits_of_scanBound (by omega)
/-- a key is added -/
theorem add_key {K : Type} [DecidableEq K] {knd : PySem.KeyKind P w K} {k : K} {x : Value} (is : knd.is k x = true) (sc : x.scannable = true) (R : Has w s.heap a L) (good : ElemsOf knd L) (room : L.length + 1 < scanBound) {Q : Bool → Shared → Prop}
    (old : (∃ e ∈ L, knd.is k e.2 = true) → Q false s)
    (new : (∀ e ∈ L, knd.is k e.2 = false) → ∀ h', Heap.SameBut a s.heap h' → Has w h' a ((knd.hash k, x) :: L) → Q true { s with heap := h' }) :
    wpAny (model P w) A (setAddHashed a x (knd.hash k)) Q E s := by
  obtain ⟨ob, rows, ver, tb, e, ex, d, pm, few, ft, ri, ld⟩ := R
  have goodR : ElemsOf knd rows.toList := fun y hy => good y (pm.mem_iff.mp hy)
  have fewR : rows.size < scanBound := by
    have q := pm.length_eq
    rw [Array.length_toList] at q
    omega
  unfold setAddHashed setAddHashedIn
  refine wpAny_holding (wpAny_bind (wpAny_setState_of e d ft ?_))
  dsimp only
  rw [if_pos (byScan_of sc fewR goodR)]
  unfold setAddByScan
  refine wpAny_bind (wpAny_bind (wpAny_rule (wpAny_bind (wpAny_setScan_of is e d ft goodR ?_))))
  cases found : rows.toList.findIdx? (fun y => knd.is k y.2) with
  | some j =>
    obtain ⟨hj, yes, _⟩ := List.findIdx?_eq_some_iff_getElem.mp found
    exact wpAny_pure (wpAny_pure (old ⟨_, pm.mem_iff.mp (List.getElem_mem hj), yes⟩))
  | none =>
    have no : ∀ y ∈ L, knd.is k y.2 = false := fun y hy => by
      have q := List.findIdx?_eq_none_iff.mp found y (pm.mem_iff.mpr hy)
      simpa using q
    have fin := new no
    dsimp only
    have q1 := layNew_perm tb rows (knd.hash k) x
    have q2 := layNew_fits tb rows (knd.hash k) x
    have q3 := layNew_ris tb rows (knd.hash k) x ri
    have q4 := layNew_led tb rows (knd.hash k) x
    generalize layNew tb rows (knd.hash k) x = Z at q1 q2 q3 q4 ⊢
    obtain ⟨rows1, tb1, dummy, g1⟩ := Z
    dsimp only at q1 q2 q3 q4 ⊢
    rw [Array.toList_push] at q1
    have pm1 : rows1.toList.Perm ((knd.hash k, x) :: L) := (q1.trans (List.perm_append_singleton _ _)).trans (pm.cons _)
    have few1 : ((knd.hash k, x) :: L).length < scanBound := by rw [List.length_cons]; exact room
    have ld1 : w.params.followText "set-order" = true ∨ tb1.led = true := by rw [q4]; exact ld
    -- whatever the table's flag, it is stored, perhaps laid anew
    have tail : ∀ g : Bool → Sem Unit, (∀ (b : Bool) (s1 : Shared) (Q1 : Unit → Shared → Prop), Q1 () s1 → wpAny (model P w) A (g b) Q1 E s1) → ∀ tb2 : SetTable, tb2.fits rows1.size = true → Ris tb2.place.toList → (w.params.followText "set-order" = true ∨ tb2.led = true) →
        wpAny (model P w) A (do
          storeSet a rows1 tb2
          if (!dummy && tb2.tooFull) = true then
            g (relayAll tb2 rows1 (SetTable.grown rows1.size)).2.2
            storeSet a (relayAll tb2 rows1 (SetTable.grown rows1.size)).1 (relayAll tb2 rows1 (SetTable.grown rows1.size)).2.1
            pure (some true)
          else pure (some true)) (fun r s' => r = some true ∧ ∃ h', s' = { s with heap := h' } ∧ Heap.SameBut a s.heap h' ∧ Has w h' a ((knd.hash k, x) :: L)) E s := by
      intro g hg tb2 f2 r2 l2
      obtain ⟨e1, h1⟩ := store_has (w := w) e ex d pm1 few1 f2 r2 l2
      refine wpAny_bind (wpAny_storeSet_of e d ?_ (rows_few pm1 few1))
      have sb1 := Heap.SameBut.update s.heap a (Obj.putSet rows1 tb2)
      split
      · have p1 := relayAll_perm tb2 rows1 (SetTable.grown rows1.size)
        have p2 := relayAll_fits tb2 rows1 (SetTable.grown rows1.size)
        have p3 := relayAll_ris tb2 rows1 (SetTable.grown rows1.size)
        have p4 := relayAll_led tb2 rows1 (SetTable.grown rows1.size)
        generalize relayAll tb2 rows1 (SetTable.grown rows1.size) = Z at p1 p2 p3 p4 ⊢
        obtain ⟨rows3, tb3, g3⟩ := Z
        dsimp only at p1 p2 p3 p4 ⊢
        refine wpAny_bind (hg _ _ _ (wpAny_bind (wpAny_storeSet_of e1 rfl ?_ (rows_few (p1.trans pm1) few1))))
        obtain ⟨_, h2⟩ := store_has (w := w) e1 ex rfl (p1.trans pm1) few1 p2 p3 (by rw [p4]; exact l2)
        exact wpAny_pure ⟨rfl, _, rfl, sb1.trans (Heap.SameBut.update _ a _), h2⟩
      · exact wpAny_pure ⟨rfl, _, rfl, sb1, h1⟩
    have gw : ∀ (b : Bool) (s1 : Shared) (Q1 : Unit → Shared → Prop), Q1 () s1 → wpAny (model P w) A (match b with | true => rule "set.scan.the-table-gave-way" | false => pure ()) Q1 E s1 := fun b s1 Q1 q => by
      cases b
      · exact wpAny_pure q
      · exact wpAny_rule q
    have out : ∀ (r : Option Bool) (s' : Shared), (r = some true ∧ ∃ h', s' = { s with heap := h' } ∧ Heap.SameBut a s.heap h' ∧ Has w h' a ((knd.hash k, x) :: L)) → r = some true ∧ Q true s' := fun r s' ⟨e1, h', e2, sb, h⟩ => ⟨e1, by rw [e2]; exact fin h' sb h⟩
    refine wpAny_bind (gw _ _ _ ?_)
    have done : ∀ tb2 : SetTable, tb2.fits rows1.size = true → Ris tb2.place.toList → (w.params.followText "set-order" = true ∨ tb2.led = true) → _ := fun tb2 f2 r2 l2 => thn (tail (fun b => match b with | true => rule "set.scan.the-table-gave-way" | false => pure ()) gw tb2 f2 r2 l2) out
    by_cases pl : tb1.plain = true
    · rw [if_pos pl]
      refine wpAny_bind ?_
      rw [hashByValue_scannable 8 sc]
      refine wpAny_pure ?_
      cases plainKind x
      · refine thn (done _ ?_ q3 ld1) fun r s' ⟨e1, q⟩ => ?_
        · exact SetTable.fits_plain_off q2
        · rw [e1]; exact wpAny_pure q
      · refine thn (done tb1 q2 q3 ld1) fun r s' ⟨e1, q⟩ => ?_
        rw [e1]; exact wpAny_pure q
    · rw [if_neg pl]
      refine wpAny_bind (wpAny_pure ?_)
      refine thn (done tb1 q2 q3 ld1) fun r s' ⟨e1, q⟩ => ?_
      rw [e1]; exact wpAny_pure q
end
/-! ### texts -/
/-- the rows L hold the texts ks -/
inductive Texts (w : World) : List (Int × Value) → List Str → Prop
  | nil : Texts w [] []
  | cons {L : List (Int × Value)} {ks : List Str} (z : Str) (t : Tok) : Texts w L ks → Texts w ((hashStr w z, .str z t) :: L) (z :: ks)
theorem Texts.len {w : World} {L : List (Int × Value)} {ks : List Str} (x : Texts w L ks) : L.length = ks.length := by
  induction x with
  | nil => rfl
  | cons z t _ ih => rw [List.length_cons, List.length_cons, ih]
theorem Texts.row {w : World} {L : List (Int × Value)} {ks : List Str} (x : Texts w L ks) : ∀ e ∈ L, ∃ z t, z ∈ ks ∧ e = (hashStr w z, .str z t) := by
  induction x with
  | nil => intro e he; cases he
  | cons z t _ ih =>
    intro e he
    rcases List.mem_cons.mp he with rfl | he
    · exact ⟨z, t, List.mem_cons_self, rfl⟩
    · obtain ⟨y, u, h1, h2⟩ := ih e he
      exact ⟨y, u, List.mem_cons_of_mem _ h1, h2⟩
theorem Texts.vals {w : World} {L : List (Int × Value)} {ks : List Str} (x : Texts w L ks) : StrsAre (L.map (·.2)) ks := by
  induction x with
  | nil => exact .nil
  | cons z t _ ih => exact .cons z t ih
theorem Texts.all {P : Program} {w : World} {L : List (Int × Value)} {ks : List Str} (x : Texts w L ks) : ElemsOf (PySem.strKind P w) L := fun e he => by
  obtain ⟨z, t, _, rfl⟩ := x.row e he
  exact ⟨⟨z, strKind_is P w z t, rfl⟩, rfl⟩
theorem Texts.has {P : Program} {w : World} {L : List (Int × Value)} {ks : List Str} (x : Texts w L ks) {z : Str} : (∃ e ∈ L, (PySem.strKind P w).is z e.2 = true) ↔ z ∈ ks := by
  induction x with
  | nil => simp
  | @cons L ks y t _ ih =>
    constructor
    · rintro ⟨e, he, q⟩
      rcases List.mem_cons.mp he with rfl | he
      · have q : (y == z) = true := q
        rw [beq_iff_eq.mp q]
        exact List.mem_cons_self
      · exact List.mem_cons_of_mem _ (ih.mp ⟨e, he, q⟩)
    · intro h
      rcases List.mem_cons.mp h with rfl | h
      · exact ⟨_, List.mem_cons_self, strKind_is P w z t⟩
      · obtain ⟨e, he, q⟩ := ih.mpr h
        exact ⟨e, List.mem_cons_of_mem _ he, q⟩
/-- a set of the texts ks, none twice -/
def Of (w : World) (h : Heap) (a : Addr) (ks : List Str) : Prop := ks.Nodup ∧ ∃ L, Has w h a L ∧ Texts w L ks
theorem Of.move {w : World} {h h' : Heap} {a : Addr} {ks : List Str} (x : Of w h a ks) (k : ∀ o, h.get? a = some o → h'.get? a = some o) : Of w h' a ks := by
  obtain ⟨nd, L, hh, t⟩ := x
  exact ⟨nd, L, hh.move k, t⟩
/-- what the first i of the texts have brought -/
structure Seen (xs : List Str) (i : Nat) (ks : List Str) : Prop where
  few : ks.length ≤ i
  mem : ∀ z, z ∈ ks ↔ z ∈ xs.take i
section
variable {P : Program} {w : World} {A : Around} {E : Value → Shared → Prop} {s : Shared} {S : Addr}
theorem add_text {z : Str} {t : Tok} {ks : List Str} (R : Of w s.heap S ks) (room : ks.length + 1 < scanBound) {Q : Bool → Shared → Prop}
    (old : z ∈ ks → Q false s) (new : z ∉ ks → ∀ h', Heap.SameBut S s.heap h' → Of w h' S (z :: ks) → Q true { s with heap := h' }) :
    wpAny (model P w) A (setAddHashed S (.str z t) ((PySem.strKind P w).hash z)) Q E s := by
  obtain ⟨nd, L, hh, tx⟩ := R
  refine add_key (strKind_is P w z t) rfl hh tx.all (by rw [tx.len]; exact room) (fun h => old (tx.has.mp h)) fun h h' sb hh' => ?_
  have nz : z ∉ ks := fun q => by
    obtain ⟨e, he, y⟩ := (tx.has (P := P)).mpr q
    rw [h e he] at y
    cases y
  exact new nz h' sb ⟨List.nodup_cons.mpr ⟨nz, nd⟩, _, hh', .cons z t tx⟩
end
section
variable {P : Program} {w : World} {A : Around} {R : Result → Shared → Prop} {I : Addr} {fp wr : List Addr} {G : Array GenState → Array GenState → Prop} {n : Nat} {Pv : Nat → Value → Prop} {St : Nat → Shared → Prop}
/-- set(..)'s loop over texts -/
theorem text_loop (W : WalksS P w A.in1 I fp wr G n Pv St) (S : Addr) (out : S ∉ fp) (xs : List Str) (len : xs.length = n) (room : n + 1 < scanBound) (val : ∀ i v, Pv i v → ∃ t, v = .str (xs.getD i Str.empty) t) (m : Nat) :
    ∀ (i : Nat) (s : Shared) (ks : List Str), n - i = m → i ≤ n → St i s → Of w s.heap S ks → Seen xs i ks → (∀ s' ks', Moved (S :: wr) G s s' → Of w s'.heap S ks' → Seen xs n ks' → R (.ok (.ret .none)) s') →
      codeAny (model P w) A (.builtin "set.update.loop" ⟨[.ref S, .ref I], []⟩) R s := by
  have out2 : S ∉ wr := fun z => out (W.sub _ z)
  have sub : ∀ b ∈ wr, b ∈ S :: wr := fun b z => List.mem_cons_of_mem _ z
  induction m with
  | zero =>
    intro i s ks e le st o sn fin
    obtain rfl : i = n := by omega
    refine codeAny_builtin F.entry_set_update_loop ?_
    rw [Around.under_plainId F.plain_set_update_loop _]
    refine wpAny_bind (W.done s _ _ st fun s1 mv => wpAny_pure (fin s1 ks (mv.mono sub) (o.move fun q hq => mv.heap S q out2 hq) sn))
  | succ m ih =>
    intro i s ks e le st o sn fin
    have lt : i < n := by omega
    refine codeAny_builtin F.entry_set_update_loop ?_
    rw [Around.under_plainId F.plain_set_update_loop _]
    refine wpAny_bind (W.item i s _ _ lt st fun v s1 pv st1 mv => ?_)
    obtain ⟨t, rfl⟩ := val i v pv
    have o1 := o.move (h' := s1.heap) fun q hq => mv.heap S q out2 hq
    have tk : xs.take (i + 1) = xs.take i ++ [xs.getD i Str.empty] := by
      have il : i < xs.length := by omega
      rw [List.take_add_one, List.getD_eq_getElem?_getD, List.getElem?_eq_getElem il]
      rfl
    generalize xs.getD i Str.empty = z at tk
    refine wpAny_bind (wpAny_holding ?_)
    unfold setAdd
    refine wpAny_holding (wpAny_bind ((PySem.strKind P w).pyHash (strKind_is P w z t) ?_))
    refine add_text (s := { s1 with toks := s1.toks + 1 }) o1 (by have := sn.few; omega) (fun hz => ?_) fun hz h' sb o2 => ?_
    · refine wpAny_pure ⟨plainId_quiet F.plain_set_update_loop _, ih (i + 1) _ ks (by omega) lt (W.frame _ s1 _ _ st1 (Nat.le_succ _) fun b hb q hq => hq) o1 ⟨Nat.le_succ_of_le sn.few, fun y => ?_⟩ fun s2 ks2 mv2 o2 sn2 => ?_⟩
      · rw [tk, List.mem_append, List.mem_singleton, ← sn.mem y]
        exact ⟨.inl, fun q => q.elim id fun q => q ▸ hz⟩
      · exact fin s2 ks2 (Moved.trans W.gtrans ((mv.mono sub).then_heap (Nat.le_succ _) fun b q hb hq => hq) mv2) o2 sn2
    · refine wpAny_pure ⟨plainId_quiet F.plain_set_update_loop _, ih (i + 1) _ (z :: ks) (by omega) lt (W.frame _ s1 _ _ st1 (Nat.le_succ _) fun b hb q hq => ?_) o2 ⟨by rw [List.length_cons]; exact Nat.succ_le_succ sn.few, fun y => ?_⟩ fun s2 ks2 mv2 o3 sn2 => ?_⟩
      · exact (sb.2 b fun q2 => out (q2 ▸ hb)).trans hq
      · rw [tk, List.mem_append, List.mem_singleton, ← sn.mem y, List.mem_cons]
        exact Or.comm
      · exact fin s2 ks2 (Moved.trans W.gtrans ((mv.mono sub).then_heap (Nat.le_succ _) fun b q hb hq => (sb.2 b fun q2 => hb (q2 ▸ List.mem_cons_self)).trans hq) mv2) o3 sn2
end
/-- a new set, as set(..) makes it -/
abbrev bare (w : World) : Obj := { cls := .type "set", dict := none, data := .set #[] 0 (.fresh 0 0 (!w.params.followText "set-order")) }
theorem bare_of {w : World} {h : Heap} {a : Addr} (e : h.get? a = some (bare w)) : Of w h a [] := by
  refine ⟨List.nodup_nil, [], ⟨_, #[], 0, _, e, ⟨rfl, rfl, rfl⟩, rfl, .refl _, by decide, by rfl, List.Pairwise.nil, ?_⟩, .nil⟩
  show _ ∨ (!w.params.followText "set-order") = true
  cases w.params.followText "set-order" <;> simp
section
variable {P : Program} {w : World} {A : Around} {E : Value → Shared → Prop} {s : Shared}
theorem new_code (a : Value) {Q : Value → Shared → Prop} (h : Q (.ref s.heap.objs.size) { s with heap := s.heap.push (bare w) }) :
    codeAny (model P w) A (.call (.builtin "set.__new__") ⟨[.type "set", a], []⟩) (wants Q E) s := by
  have sup := sub_set_self
  refine codeAny_of_tree ?_
  show wpAny _ A.in1 (checkBuiltinCall "set.__new__" ⟨[.type "set", a], []⟩ >>= fun _ => again (.builtin "set.__new__" ⟨[.type "set", a], []⟩)) _ _ s
  refine wpAny_bind (wpAny_of_eq (F.newCall_set_1 a) (wpAny_pure ⟨plainId_quiet F.plain_set_new _, codeAny_builtin F.entry_set_new ?_⟩))
  rw [Around.under_plainId F.plain_set_new _]
  rcases s with ⟨hp, g, d, tk, os⟩
  unfold Builtin.«set.__new__» Builtin.Frozenset.newClass
  dsimp only
  wp_walk
  refine wpAny_askSetting (wpAny_pure ?_)
  dsimp only
  simp only [newObj]
  exact wpAny_bind (wpAny_alloc (wpAny_pure (wpAny_pure h)))
/-- set(xs), xs a list of texts -/
theorem call_texts {l : Addr} {items : Array Value} {xs : List Str} {Q : Value → Shared → Prop} (hh : A.handled = none) (hl : s.heap.IsList l items) (hi : StrsAre items.toList xs) (few : xs.length + 1 < scanBound)
    (h : ∀ h' tk ks, (∀ b o, b < s.heap.objs.size → s.heap.get? b = some o → h'.get? b = some o) → Of w h' s.heap.objs.size ks → Seen xs xs.length ks → Q (.ref s.heap.objs.size) { s with heap := h', toks := tk }) :
    wpAny (model P w) A (call (.type "set") [.ref l]) Q E s := by
  have size : items.size = xs.length := by rw [← StrsAre.len_eq hi, Array.length_toList]
  have old : l < s.heap.objs.size := by obtain ⟨o, e, _⟩ := hl; exact Heap.lt_size e
  have at0 : (s.heap.push (bare w)).get? s.heap.objs.size = some (bare w) := Heap.get?_push_size _ rfl
  have kind : Shared.TypeIs { s with heap := s.heap.push (bare w) } (.ref s.heap.objs.size) "set" := ⟨_, at0, rfl⟩
  -- the class is called
  obtain ⟨cls, anc, mro⟩ := F.called_set.mro
  have f1 := F.called_set.made
  have f2 := F.called_set.sub
  have f3 := F.called_set.notType
  have f4 := F.called_set.canCreate
  have f5 := F.typeCall_set_1 (.ref l)
  refine wpAny_call (codeAny_of_tree ?_)
  show wpAny _ _ (callAny (.type "set") _) _ _ _
  refine wpAny_pure ⟨Code.quiet_builtin _ (by decide +kernel), codeAny_builtin F.entry_type_call ?_⟩
  rw [Around.under_plain (weight_type_call_type "set" [.ref l] []) rfl]
  repeat (any_goals (first | assumption | wp_step))
  refine codeAny_mono (new_code (.ref l) (E := E) (Q := fun v s1 => v = .ref s.heap.objs.size ∧ s1 = { s with heap := s.heap.push (bare w) }) ⟨rfl, rfl⟩) fun r s1 hr => ?_
  match r, hr with
  | .error e, hr => exact hr
  | .ok (.ret v), ⟨e1, e2⟩ =>
    subst e1 e2
    have f6 := F.called_set.init.lookup
    have f7 := F.called_set.init.bind (.ref s.heap.objs.size)
    repeat (any_goals (first | assumption | wp_step))
    refine codeAny_mono (codeAny_call_builtin (R := wants (fun v s2 => v = .none ∧ ∃ h' tk ks, s2 = { s with heap := h', toks := tk } ∧ (∀ b o, b < s.heap.objs.size → s.heap.get? b = some o → h'.get? b = some o) ∧ Of w h' s.heap.objs.size ks ∧ Seen xs xs.length ks) E)
      F.called_set.init.plain F.entry_set_init (check_set_init_1 kind ?_)) fun r2 s2 hr2 => ?_
    · -- __init__ walks the list
      rcases hl with ⟨⟨oc, od, ot, os⟩, e, ec, en, ed⟩
      simp only at ec ed
      subst ec ed
      have e' := Heap.get?_push_of_some (bare w) e
      have g1 := F.sub_list_set
      have g2 := F.sub_list_frozenset
      have g3 : (Value.type "list" == Value.type "dict") = false := by decide
      unfold Builtin.«set.__init__» noKeywords Builtin.Frozenset.updateFrom
      generalize hPI : pyIter = PI
      wp_walk
      subst hPI
      have isl : (s.heap.push (bare w)).IsList l items := ⟨_, e', rfl, en, rfl⟩
      refine wpAny_pyIter_list isl (wpAny_bind (wpAny_runValue ?_))
      have big : (s.heap.push (bare w)).objs.size = s.heap.objs.size + 1 := Heap.size_push ..
      have ne1 : l ≠ (s.heap.push (bare w)).objs.size := Nat.ne_of_lt (by rw [big]; exact Nat.lt_succ_of_lt old)
      have ne2 : s.heap.objs.size ∉ [(s.heap.push (bare w)).objs.size, l] := by
        simp only [List.mem_cons, List.not_mem_nil, or_false, not_or]
        exact ⟨Nat.ne_of_lt (by rw [big]; exact Nat.lt_succ_self _), (Nat.ne_of_lt old).symm⟩
      have hn3 : A.in1.in1.in1.handled = none := by simp [hh]
      refine text_loop ((Walks.list hn3 _ l ne1 items).toS) s.heap.objs.size ne2 xs size.symm (by rw [size]; exact few) (fun i v hv => SS.strs_at hi i v (by rw [Array.getElem?_toList]; exact hv)) (items.size - 0) 0 _ [] rfl (Nat.zero_le _)
        ⟨⟨_, Heap.get?_push_size _ rfl, rfl, rfl⟩, isl.push _⟩ (bare_of (Heap.get?_push_of_some _ at0)) ⟨Nat.le_refl _, fun z => by simp⟩ fun s3 ks mv o sn => ?_
      rcases s3 with ⟨h3, g3', d3, t3, o3⟩
      obtain rfl : g3' = s.gens := mv.gens
      obtain rfl : d3 = s.drawn := mv.drawn
      obtain rfl : o3 = s.os := mv.os
      refine wpAny_pure (wpAny_pure ⟨rfl, h3, t3, ks, rfl, fun b q hb hq => ?_, o, by rw [← size]; exact sn⟩)
      refine mv.heap b q ?_ (Heap.get?_push_of_some _ (Heap.get?_push_of_some _ hq))
      simp only [List.mem_cons, List.not_mem_nil, or_false, not_or]
      exact ⟨Nat.ne_of_lt hb, Nat.ne_of_lt (by rw [big]; exact Nat.lt_succ_of_lt hb)⟩
    · match r2, hr2 with
      | .error e, hr2 => exact hr2
      | .ok (.ret v), ⟨e1, h', tk, ks, e2, keep, o, sn⟩ =>
        subst e1 e2
        repeat (any_goals (first | assumption | wp_step))
        exact h h' tk ks keep o sn
      | .ok (.next), hr2 => exact hr2.elim
      | .ok (.brk), hr2 => exact hr2.elim
      | .ok (.cont), hr2 => exact hr2.elim
  | .ok (.next), hr => exact hr.elim
  | .ok (.brk), hr => exact hr.elim
  | .ok (.cont), hr => exact hr.elim
end
end SetE
set_option Elab.async false
set_option linter.all false
set_option maxRecDepth 100000
set_option maxHeartbeats 4000000
namespace SetE
open PySem PySem.Spec PyProof.Rows L2
theorem strs_perm {vs us : List Value} (p : vs.Perm us) : ∀ ks, StrsAre us ks → ∃ xs, StrsAre vs xs ∧ xs.Perm ks := by
  induction p with
  | nil => intro ks h; cases h; exact ⟨[], .nil, .refl _⟩
  | cons v _ ih =>
    intro ks h
    cases h with
    | cons z t h =>
      obtain ⟨xs, a1, a2⟩ := ih _ h
      exact ⟨z :: xs, .cons z t a1, a2.cons z⟩
  | swap u v l =>
    intro ks h
    cases h with
    | cons z t h =>
      cases h with
      | cons y r h => exact ⟨_, .cons y r (.cons z t h), .swap z y _⟩
  | trans _ _ ih1 ih2 =>
    intro ks h
    obtain ⟨xs, a1, a2⟩ := ih2 ks h
    obtain ⟨ys, b1, b2⟩ := ih1 xs a1
    exact ⟨ys, b1, b2.trans a2⟩
section
variable {P : Program} {w : World} {A : Around} {E : Value → Shared → Prop} {s : Shared} {a : Addr} {ks : List Str}
/-- sorted(a set of texts) -/
theorem call_sorted {Q : Value → Shared → Prop} (R : Of w s.heap a ks) (hh : A.handled = none) (few : ks.length < 64)
    (h : ∀ s' p (out : Array Value) (c : Nat) (zs : List Str), (∀ b o, s.heap.get? b = some o → s'.heap.get? b = some o) → s'.gens = s.gens → s'.os = s.os → s.heap.objs.size ≤ p → s'.heap.get? p = some (seqObj "list" out c) →
      StrsAre out.toList zs → zs.Perm ks → sortedS zs = true → Q (.ref p) s') : wpAny (model P w) A (call (.builtin "sorted") [.ref a]) Q E s := by
  obtain ⟨nd, L, ⟨ob, rows, ver, tb, e, ex, d, pm, lf, ft, ri, ld⟩, tx⟩ := R
  have rf : rows.size < scanBound := by
    have q := pm.length_eq
    rw [Array.length_toList] at q
    omega
  refine Calls.call_function_entry kind_sorted plain_sorted entry_sorted (args_sorted1 _) ?_
  unfold Builtin.«sorted»
  refine wpAny_bind (m := checkCount "sorted" 1 1 _) (wpAny_pure (wpAny_bind (collect_set (A := A.in1) hh ⟨ob, e, ex.1, d⟩ ft rf ri ld fun s1 vs keep big gs os pv => ?_)))
  -- what was collected are the texts, in some order
  obtain ⟨xs, xv, xp⟩ := strs_perm (pv.trans (pm.map (·.2))) ks tx.vals
  have lv : vs.length < 64 := by
    have q := pv.length_eq
    have q2 := pm.length_eq
    have q3 := tx.len
    rw [List.length_map] at q
    omega
  refine wpAny_bind (wpAny_newList ?_ (by rw [sizeLine_eq]; omega))
  have atL : (s1.heap.push (seqObj "list" vs.toArray 0)).get? s1.heap.objs.size = some (seqObj "list" vs.toArray 0) := Heap.get?_push_size _ rfl
  refine wpAny_bind (wpAny_holding (wpAny_call_entry slot_list_sort ⟨_, atL, rfl⟩ entry_list_sort (list_sort_treeK strKind_oneLt atL xv.keysOf (fun v1 v2 r q => keyKind_strs (by rw [← q]; exact xv)) lv fun o hp hs => ⟨_, rfl, ?_⟩) (args_list_sort _)))
  obtain ⟨zs, z1, z2, z3⟩ := sorted_out_str xv hp hs
  obtain ⟨c, hc⟩ := sortedHeap_at (vs := vs) (out := (arrOf o).map (·.2)) atL
  refine wpAny_pure ⟨_, rfl, h _ s1.heap.objs.size _ c zs (fun b q hq => ?_) gs os big hc z1 (z2.trans xp) z3⟩
  have hq1 := keep b q hq
  have lt := Heap.lt_size hq1
  show (sortedHeap _ s1.heap.objs.size vs _).get? b = some q
  rw [sortedHeap_old (Nat.ne_of_lt lt) (by rw [size_push']; exact Nat.lt_succ_of_lt lt)]
  exact Heap.get?_push_of_some _ hq1
end
/-! ### the rules -/
/-- a set of the texts ks stands at a -/
def TextSet (w : World) (a : Addr) (ks : List Str) : HO := .ext fun h => Of w h a ks
section
variable {X : Cx}
/-- set(xs), xs a list of texts -/
def rSetS (K : PySem.W.Frag) (w : World) : List V → Hp → VK → Prop := fun vs H Q => ∃ (l : Addr) (zs : List Str), vs = [V.ref l] ∧ SqL K H l (zs.map V.str) ∧ zs.length ≤ 4000 ∧
  ∀ a ks, H a = none → ks.Nodup → ks.length ≤ zs.length → (∀ z, z ∈ ks ↔ z ∈ zs) → Q (.ref a) (upd H a (TextSet w a ks))
theorem cr_setS (hc : X.calm = true) : CallR X (.type "set") (rSetS X.K X.w) := by
  intro pins s σ H vs us Q I r h
  obtain ⟨l, zs, rfl, hs, few, q⟩ := h
  obtain ⟨its, rv, hl, _⟩ := I.list hs
  rw [Vals.ref1 r]
  have xv := rv.strs
  refine call_texts (I.ok.hd hc) hl.isList xv (by unfold scanBound; omega) fun h' tk ks keep o sn => ?_
  have new : H s.heap.objs.size = none := I.hok.fresh (Nat.le_refl _)
  have ok : ObjOk X.prog X.w (upd H s.heap.objs.size (TextSet X.w s.heap.objs.size ks)) h' s.heap.objs.size (TextSet X.w s.heap.objs.size ks) := by
    obtain ⟨_, _, ⟨ob, _, _, _, e, _⟩, _⟩ := id o
    exact ⟨o, ⟨ob, e⟩, fun h1 h2 p k => p.move k⟩
  refine ⟨.ref s.heap.objs.size, _, I.laid (t' := tk) (fun b o e => keep b o (Heap.lt_size e) e) (Nat.le_refl _) ok, rfl, q _ ks new o.1 sn.few fun z => ?_⟩
  rw [sn.mem z, List.take_length]
/-- sorted(set), fewer than 64 texts -/
def rSortS (w : World) : List V → Hp → VK → Prop := fun vs H Q => ∃ (a : Addr) (ks : List Str), vs = [V.ref a] ∧ H a = some (TextSet w a ks) ∧ ks.length < 64 ∧ ∀ (zs : List Str) (p : Addr), zs.Perm ks → sortedS zs = true → H p = none → Q (.ref p) (upd H p (.lst (zs.map V.str)))
theorem cr_sortS (hc : X.calm = true) : CallR X (.builtin "sorted") (rSortS X.w) := by
  intro pins s σ H vs us Q I r h
  obtain ⟨a, ks, rfl, ha, few, q⟩ := h
  have o : Of X.w s.heap a ks := (I.hok a _ ha).1
  rw [Vals.ref1 r]
  refine call_sorted o (I.ok.hd hc) few fun s1 p out c zs keep gs os big at_ zv zp zs' => ?_
  have new : H p = none := I.hok.fresh big
  have len : (zs.map V.str).length ≤ sizeLine := by rw [List.length_map, zp.length_eq, sizeLine_eq]; omega
  have J : Inv X pins σ (upd H p (.lst (zs.map V.str))) { s with heap := s1.heap, gens := s1.gens, drawn := s1.drawn, toks := s1.toks } :=
    I.call (ch := []) (Un.laid keep big new) (I.hok.laid keep big ⟨len, out.toList, c, vals_of_strs zv, at_⟩) (by rw [gs]; exact I.bare) (fun _ z => nomatch z)
  have e : s1 = { s with heap := s1.heap, gens := s1.gens, drawn := s1.drawn, toks := s1.toks } := by
    rw [← os]
  rw [e]
  exact ⟨.ref p, _, J, rfl, q zs p zp zs' new⟩
end
end SetE
set_option Elab.async false
set_option linter.all false
set_option maxRecDepth 100000
set_option maxHeartbeats 8000000
namespace KM
open PySem PySem.Spec PyProof.Rows L2 He Sw L2H
section
variable {P : Program} {w : World} {K : PySem.W.Frag} {mg : Str → Option Value} {base : Heap}
theorem pe_gi {X : Cx} {x : Str} {p : Pos} {n : Int} (hg : Gl X x) (h : ∃ t, X.mg x = some (.int n t)) (hd : (x == ("__debug__" : Str)) = false := by decide) : PE X (.Name x p) (tC (.int n)) := by
  obtain ⟨t, h⟩ := h
  exact pe_glob (v := .int n) hg h ⟨_, rfl⟩ hd
theorem c_is_integer (T : Txt K mg) : Cal P w K mg base CX0 1 (ga K "is_integer") ["thing"] spIsInt := by
  obtain ⟨fd, F⟩ := T.f_is_integer
  exact ⟨fd, ok_isInt T F, F.kp, F.bindsN fun _ _ _ _ _ _ us hl => match us, hl with | [_], _ => rfl⟩
theorem c_check_name (T : Txt K mg) : Cal P w K mg base CX0 2 (ga K "check_name") ["thing"] spCkName := by
  obtain ⟨fd, F⟩ := T.f_check_name
  obtain ⟨fdN, FN⟩ := T.f_is_name
  exact ⟨fd, ok_ckName T F FN, F.kp, F.bindsN fun _ _ _ _ _ _ us hl => match us, hl with | [_], _ => rfl⟩
theorem c_form (T : Txt K mg) : Cal P w K mg base CX0 1 (ma K (ga K "Formula") "__init__") ["self", "kind", "things", "inner"] (spForm K) := by
  obtain ⟨fd, F⟩ := T.f_Formula___init__
  exact ⟨fd, ok_form T F, F.kp, F.bindsN fun _ _ _ _ _ _ us hl => match us, hl with | [_, _, _, _], _ => rfl⟩
theorem kitF (T : Txt K mg) {C : Str} (h : C ∈ clsL) : PySem.W.kitOne K (.ref (ga K C)) (.ref (ga K "Formula")) = some true := by
  have e := T.kit C h "Formula" (by decide +kernel)
  rw [e, show decide (("Formula" : Str) = "Formula") = true by decide +kernel, Bool.or_true]
/-! ### check_formula -/
def spCkForm (K : PySem.W.Frag) : Sp := fun vs H Q _ => ∃ (f : Fo) (a : Addr), vs = [.ref a] ∧ FoAt K H f a ∧ Q .non H
theorem sc_check_formula : FnScope ["thing"] ["thing"] (defScope sCkForm) := ⟨rfl, rfl, rfl, by decide +kernel, rfl, by decide +kernel, by decide +kernel⟩
theorem ok_check_formula (T : Txt K mg) : Cal P w K mg base CX0 (1) (ga K "check_formula") ["thing"] (spCkForm K) := by
  obtain ⟨fd, F⟩ := T.f_check_formula
  refine ⟨fd, ?_, F.kp, F.bindsN fun _ _ _ _ _ _ us hl => match us, hl with | [_], _ => rfl⟩
  refine F.ok sc_check_formula (fun vs H Q E h => ?_) (fun cdv A outer s H vs Q E hr h => ?_)
  · obtain ⟨_, _, rfl, _⟩ := h
    rfl
  have nod := sc_check_formula.nd
  have hu := hu_of hr
  refine ⟨_, PSs.nox (pss_one (ps_if (pt_not (pt_val (pe_callB call_isi rfl (T.f "isinstance") (by decide +kernel) (pa_cons (pv 0) (pa_cons (pe_glob (v := .ref (ga K "Formula")) rfl (T.g "Formula") rfl) pa_nil)))))
    (pss_one ps_never)
    pss_nil)), ?_⟩
  obtain ⟨f, a, rfl, hf, q⟩ := h
  obtain ⟨dx, fs, e⟩ := hf.ins
  have I := T.ins _ f.cls_mem
  refine ⟨_, rfl, .ref a, _, _, _, true, rfl, .own _, .base (.ins e I.cl I.ha I.hn I.ht I.hm), kitF T f.cls_mem, _, rfl, ?_⟩
  exact ite2 (fun h => absurd h (by decide)) (fun _ => q)
/-! ### the operators -/
def spBin (K : PySem.W.Frag) (o : B3) : Sp := fun vs H Q _ => ∃ (f g : Fo) (a b : Addr), vs = [.ref a, .ref b] ∧ FoAt K H f a ∧ FoAt K H g b ∧ (Fo.bin o f g).Fits ∧ ∀ H' x, Same H H' → FoAt K H' (.bin o f g) x → Q (.ref x) H'
theorem bin_read (T : Txt K mg) {o : B3} {f g : Fo} {a b : Addr} {H : Hp} {Q : VK} (hf : FoAt K H f a) (hg : FoAt K H g b) (fit : (Fo.bin o f g).Fits) (q : ∀ H' x, Same H H' → FoAt K H' (.bin o f g) x → Q (.ref x) H') :
    ∀ t, H t = none → ∀ e, (upd H t (.tup [.ref a, .ref b])) e = none → ∀ x dx, (upd (upd H t (.tup [.ref a, .ref b])) e (.tup [.ref a, .ref b])) x = none → (upd (upd H t (.tup [.ref a, .ref b])) e (.tup [.ref a, .ref b])) dx = none → dx ≠ x → ∀ E,
      spForm K [.ref x, .str o.str, .ref t, .ref e] (upd (upd (upd (upd H t (.tup [.ref a, .ref b])) e (.tup [.ref a, .ref b])) dx (.own x)) x (.ins (ga K "Formula") dx [])) (fun v H3 => v = .non ∧ Q (.ref x) H3) E := by
  intro t ht e he x dx hx hdx ne E
  have s1 := upd_new (o := .tup [V.ref a, .ref b]) ht
  have s2 := upd_new (o := .tup [V.ref a, .ref b]) he
  obtain ⟨th1, k1⟩ := hf.kid
  obtain ⟨th2, k2⟩ := hg.kid
  refine form_read (f := .bin o f g) (th := [.ref a, .ref b]) (ks := [f.kd a th1, g.kd b th2]) T rfl (s1.trans s2) (fun k hk => ?_) (by show 2 ≤ 10; decide) ?_ ?_ fit (s2 _ _ upd_same) upd_same (fun H' x s n => q H' x s ?_) x dx hx hdx ne E
  · rcases List.mem_cons.mp hk with rfl | hk
    · exact k1
    · rw [List.mem_singleton.mp hk]; exact k2
  · rw [Fo.parts]
    show 1 + (f.parts + g.parts) = 1 + (f.parts + (g.parts + 0))
    omega
  · rw [Fo.depth]
    show 1 + max f.depth g.depth = 1 + max f.depth (max g.depth 0)
    omega
  · simp only [FoAt]
    exact ⟨a, b, n, hf.same s, hg.same s⟩
theorem sc_Formula___add__ : FnScope ["self", "other"] ["self", "other"] (defScope sAdd) := ⟨rfl, rfl, rfl, by decide +kernel, rfl, by decide +kernel, by decide +kernel⟩
theorem ok_Formula___add__ (T : Txt K mg) : Cal P w K mg base CX0 (3) (ma K (ga K "Formula") "__add__") ["self", "other"] (spBin K .plus) := by
  obtain ⟨fd, F⟩ := T.f_Formula___add__
  refine ⟨fd, ?_, F.kp, F.bindsN fun _ _ _ _ _ _ us hl => match us, hl with | [_, _], _ => rfl⟩
  refine F.ok sc_Formula___add__ (fun vs H Q E h => ?_) (fun cdv A outer s H vs Q E hr h => ?_)
  · obtain ⟨_, _, _, _, rfl, _⟩ := h
    rfl
  have nod := sc_Formula___add__.nd
  have hu := hu_of hr
  refine ⟨_, PSs.nox (pss_cons (ps_expr (pe_callC (ok_check_formula T) (hr.mono (by omega)) rfl (T.g "check_formula") pass0 (pa_cons (pv 1) pa_nil)))
  (pss_one (ps_ret (pe_makeC (T.ins "Formula" (by decide +kernel)).mkr (c_form T) (hr.mono (by omega)) rfl (T.g "Formula") pass0 (pa_cons pe_str (pa_cons (pe_tup (pa_cons (pv 0) (pa_cons (pv 1) pa_nil))) (pa_cons (pe_tup (pa_cons (pv 0) (pa_cons (pv 1) pa_nil))) pa_nil))))))), ?_⟩
  obtain ⟨f, g, a, b, rfl, hf, hg, fit, q⟩ := h
  exact ⟨_, rfl, g, b, rfl, hg, _, rfl, _, rfl, tsz (by show 2 ≤ 1000000; decide), fun t ht => ⟨_, rfl, _, rfl, tsz (by show 2 ≤ 1000000; decide), fun e he x dx hx hdx ne => bin_read T hf hg fit q t ht e he x dx hx hdx ne _⟩⟩
theorem sc_Formula___sub__ : FnScope ["self", "other"] ["self", "other"] (defScope sSub) := ⟨rfl, rfl, rfl, by decide +kernel, rfl, by decide +kernel, by decide +kernel⟩
theorem ok_Formula___sub__ (T : Txt K mg) : Cal P w K mg base CX0 (3) (ma K (ga K "Formula") "__sub__") ["self", "other"] (spBin K .minus) := by
  obtain ⟨fd, F⟩ := T.f_Formula___sub__
  refine ⟨fd, ?_, F.kp, F.bindsN fun _ _ _ _ _ _ us hl => match us, hl with | [_, _], _ => rfl⟩
  refine F.ok sc_Formula___sub__ (fun vs H Q E h => ?_) (fun cdv A outer s H vs Q E hr h => ?_)
  · obtain ⟨_, _, _, _, rfl, _⟩ := h
    rfl
  have nod := sc_Formula___sub__.nd
  have hu := hu_of hr
  refine ⟨_, PSs.nox (pss_cons (ps_expr (pe_callC (ok_check_formula T) (hr.mono (by omega)) rfl (T.g "check_formula") pass0 (pa_cons (pv 1) pa_nil)))
  (pss_one (ps_ret (pe_makeC (T.ins "Formula" (by decide +kernel)).mkr (c_form T) (hr.mono (by omega)) rfl (T.g "Formula") pass0 (pa_cons pe_str (pa_cons (pe_tup (pa_cons (pv 0) (pa_cons (pv 1) pa_nil))) (pa_cons (pe_tup (pa_cons (pv 0) (pa_cons (pv 1) pa_nil))) pa_nil))))))), ?_⟩
  obtain ⟨f, g, a, b, rfl, hf, hg, fit, q⟩ := h
  exact ⟨_, rfl, g, b, rfl, hg, _, rfl, _, rfl, tsz (by show 2 ≤ 1000000; decide), fun t ht => ⟨_, rfl, _, rfl, tsz (by show 2 ≤ 1000000; decide), fun e he x dx hx hdx ne => bin_read T hf hg fit q t ht e he x dx hx hdx ne _⟩⟩
theorem sc_Formula___mul__ : FnScope ["self", "other"] ["self", "other"] (defScope sMul) := ⟨rfl, rfl, rfl, by decide +kernel, rfl, by decide +kernel, by decide +kernel⟩
theorem ok_Formula___mul__ (T : Txt K mg) : Cal P w K mg base CX0 (3) (ma K (ga K "Formula") "__mul__") ["self", "other"] (spBin K .times) := by
  obtain ⟨fd, F⟩ := T.f_Formula___mul__
  refine ⟨fd, ?_, F.kp, F.bindsN fun _ _ _ _ _ _ us hl => match us, hl with | [_, _], _ => rfl⟩
  refine F.ok sc_Formula___mul__ (fun vs H Q E h => ?_) (fun cdv A outer s H vs Q E hr h => ?_)
  · obtain ⟨_, _, _, _, rfl, _⟩ := h
    rfl
  have nod := sc_Formula___mul__.nd
  have hu := hu_of hr
  refine ⟨_, PSs.nox (pss_cons (ps_expr (pe_callC (ok_check_formula T) (hr.mono (by omega)) rfl (T.g "check_formula") pass0 (pa_cons (pv 1) pa_nil)))
  (pss_one (ps_ret (pe_makeC (T.ins "Formula" (by decide +kernel)).mkr (c_form T) (hr.mono (by omega)) rfl (T.g "Formula") pass0 (pa_cons pe_str (pa_cons (pe_tup (pa_cons (pv 0) (pa_cons (pv 1) pa_nil))) (pa_cons (pe_tup (pa_cons (pv 0) (pa_cons (pv 1) pa_nil))) pa_nil))))))), ?_⟩
  obtain ⟨f, g, a, b, rfl, hf, hg, fit, q⟩ := h
  exact ⟨_, rfl, g, b, rfl, hg, _, rfl, _, rfl, tsz (by show 2 ≤ 1000000; decide), fun t ht => ⟨_, rfl, _, rfl, tsz (by show 2 ≤ 1000000; decide), fun e he x dx hx hdx ne => bin_read T hf hg fit q t ht e he x dx hx hdx ne _⟩⟩
def spNeg (K : PySem.W.Frag) : Sp := fun vs H Q _ => ∃ (f : Fo) (a : Addr), vs = [.ref a] ∧ FoAt K H f a ∧ (Fo.neg f).Fits ∧ ∀ H' x, Same H H' → FoAt K H' (.neg f) x → Q (.ref x) H'
theorem sc_Formula___neg__ : FnScope ["self"] ["self"] (defScope sNeg) := ⟨rfl, rfl, rfl, by decide +kernel, rfl, by decide +kernel, by decide +kernel⟩
theorem ok_Formula___neg__ (T : Txt K mg) : Cal P w K mg base CX0 (3) (ma K (ga K "Formula") "__neg__") ["self"] (spNeg K) := by
  obtain ⟨fd, F⟩ := T.f_Formula___neg__
  refine ⟨fd, ?_, F.kp, F.bindsN fun _ _ _ _ _ _ us hl => match us, hl with | [_], _ => rfl⟩
  refine F.ok sc_Formula___neg__ (fun vs H Q E h => ?_) (fun cdv A outer s H vs Q E hr h => ?_)
  · obtain ⟨_, _, rfl, _⟩ := h
    rfl
  have nod := sc_Formula___neg__.nd
  have hu := hu_of hr
  refine ⟨_, PSs.nox (pss_one (ps_ret (pe_makeC (T.ins "Formula" (by decide +kernel)).mkr (c_form T) (hr.mono (by omega)) rfl (T.g "Formula") pass0 (pa_cons pe_str (pa_cons (pe_tup (pa_cons (pv 0) pa_nil)) (pa_cons (pe_tup (pa_cons (pv 0) pa_nil)) pa_nil)))))), ?_⟩
  obtain ⟨f, a, rfl, hf, fit, q⟩ := h
  refine ⟨_, rfl, tsz (by show 1 ≤ 1000000; decide), fun t ht => ⟨_, rfl, tsz (by show 1 ≤ 1000000; decide), fun e he x dx hx hdx ne => ?_⟩⟩
  have s1 := upd_new (o := .tup [V.ref a]) ht
  have s2 := upd_new (o := .tup [V.ref a]) he
  obtain ⟨th1, k1⟩ := hf.kid
  refine form_read (f := .neg f) (th := [.ref a]) (ks := [f.kd a th1]) T rfl (s1.trans s2) (fun k hk => by rw [List.mem_singleton.mp hk]; exact k1) (by show 1 ≤ 10; decide) ?_ ?_ fit (s2 _ _ upd_same) upd_same (fun H' x s n => q H' x s ?_) x dx hx hdx ne _
  · rw [Fo.parts]
    show 1 + f.parts = 1 + (f.parts + 0)
    omega
  · rw [Fo.depth]
    show 1 + f.depth = 1 + max f.depth 0
    omega
  · simp only [FoAt]
    exact ⟨a, n, hf.same s⟩
def spIsShift : Sp := fun vs H Q _ => ∃ i : Int, vs = [.int i] ∧ 0 ≤ i ∧ i ≤ 64 ∧ Q (.bl true) H
theorem sc_is_shift : FnScope ["thing"] ["thing"] (defScope sIsShift) := ⟨rfl, rfl, rfl, by decide +kernel, rfl, by decide +kernel, by decide +kernel⟩
theorem ok_is_shift (T : Txt K mg) : Cal P w K mg base CX0 (2) (ga K "is_shift") ["thing"] spIsShift := by
  obtain ⟨fd, F⟩ := T.f_is_shift
  refine ⟨fd, ?_, F.kp, F.bindsN fun _ _ _ _ _ _ us hl => match us, hl with | [_], _ => rfl⟩
  refine F.ok sc_is_shift (fun vs H Q E h => ?_) (fun cdv A outer s H vs Q E hr h => ?_)
  · obtain ⟨_, rfl, _⟩ := h
    rfl
  have nod := sc_is_shift.nd
  have hu := hu_of hr
  refine ⟨_, PSs.nox (pss_one (ps_ret (pe_and (pe_callC (c_is_integer T) (hr.mono (by omega)) rfl (T.g "is_integer") pass0 (pa_cons (pv 0) pa_nil)) (pe_one (pe_chain op_le op_le pe_int (pv 0) (pe_gi (n := 64) rfl T.mShf)))))), ?_⟩
  obtain ⟨i, rfl, i0, i1, q⟩ := h
  refine ⟨_, rfl, _, _, rfl, .int i, _, rfl, ?_⟩
  refine ite2 (fun _ => ?_) (fun h => absurd rfl h)
  refine ⟨_, rfl, _, _, rfl, rfl, _, rfl, ?_⟩
  refine ite2 (fun h => ?_) (fun h => absurd (decide_eq_true i0) h)
  refine ⟨_, _, rfl, rfl, ?_⟩
  show Q (V.bl (decide (i ≤ 64))) H
  rw [decide_eq_true i1]
  exact q
def spCkShift : Sp := fun vs H Q _ => ∃ i : Int, vs = [.int i] ∧ 0 ≤ i ∧ i ≤ 64 ∧ Q .non H
theorem sc_check_shift : FnScope ["thing"] ["thing"] (defScope sCkShift) := ⟨rfl, rfl, rfl, by decide +kernel, rfl, by decide +kernel, by decide +kernel⟩
theorem ok_check_shift (T : Txt K mg) : Cal P w K mg base CX0 (3) (ga K "check_shift") ["thing"] spCkShift := by
  obtain ⟨fd, F⟩ := T.f_check_shift
  refine ⟨fd, ?_, F.kp, F.bindsN fun _ _ _ _ _ _ us hl => match us, hl with | [_], _ => rfl⟩
  refine F.ok sc_check_shift (fun vs H Q E h => ?_) (fun cdv A outer s H vs Q E hr h => ?_)
  · obtain ⟨_, rfl, _⟩ := h
    rfl
  have nod := sc_check_shift.nd
  have hu := hu_of hr
  refine ⟨_, PSs.nox (pss_one (ps_if (pt_not (pt_val (pe_callC (ok_is_shift T) (hr.mono (by omega)) rfl (T.g "is_shift") pass0 (pa_cons (pv 0) pa_nil))))
    (pss_one ps_never)
    pss_nil)), ?_⟩
  obtain ⟨i, rfl, i0, i1, q⟩ := h
  refine ⟨_, rfl, i, rfl, i0, i1, _, rfl, ?_⟩
  exact ite2 (fun h => Bool.noConfusion (show false = true from h)) (fun _ => q)
def spShl (K : PySem.W.Frag) : Sp := fun vs H Q _ => ∃ (f : Fo) (a : Addr) (i : Int), vs = [.ref a, .int i] ∧ 0 ≤ i ∧ i ≤ 64 ∧ FoAt K H f a ∧ (Fo.shl f i).Fits ∧ ∀ H' x, Same H H' → FoAt K H' (.shl f i) x → Q (.ref x) H'
theorem sc_Formula___lshift__ : FnScope ["self", "other"] ["self", "other"] (defScope sShl) := ⟨rfl, rfl, rfl, by decide +kernel, rfl, by decide +kernel, by decide +kernel⟩
theorem ok_Formula___lshift__ (T : Txt K mg) : Cal P w K mg base CX0 (4) (ma K (ga K "Formula") "__lshift__") ["self", "other"] (spShl K) := by
  obtain ⟨fd, F⟩ := T.f_Formula___lshift__
  refine ⟨fd, ?_, F.kp, F.bindsN fun _ _ _ _ _ _ us hl => match us, hl with | [_, _], _ => rfl⟩
  refine F.ok sc_Formula___lshift__ (fun vs H Q E h => ?_) (fun cdv A outer s H vs Q E hr h => ?_)
  · obtain ⟨_, _, _, rfl, _⟩ := h
    rfl
  have nod := sc_Formula___lshift__.nd
  have hu := hu_of hr
  refine ⟨_, PSs.nox (pss_cons (ps_expr (pe_callC (ok_check_shift T) (hr.mono (by omega)) rfl (T.g "check_shift") pass0 (pa_cons (pv 1) pa_nil)))
  (pss_one (ps_ret (pe_makeC (T.ins "Formula" (by decide +kernel)).mkr (c_form T) (hr.mono (by omega)) rfl (T.g "Formula") pass0 (pa_cons pe_str (pa_cons (pe_tup (pa_cons (pv 0) (pa_cons (pv 1) pa_nil))) (pa_cons (pe_tup (pa_cons (pv 0) pa_nil)) pa_nil))))))), ?_⟩
  obtain ⟨f, a, i, rfl, i0, i1, hf, fit, q⟩ := h
  refine ⟨_, rfl, i, rfl, i0, i1, _, rfl, _, rfl, tsz (by show 2 ≤ 1000000; decide), fun t ht => ⟨_, rfl, tsz (by show 1 ≤ 1000000; decide), fun e he x dx hx hdx ne => ?_⟩⟩
  have s1 := upd_new (o := .tup [V.ref a, .int i]) ht
  have s2 := upd_new (o := .tup [V.ref a]) he
  obtain ⟨th1, k1⟩ := hf.kid
  refine form_read (f := .shl f i) (th := [.ref a, .int i]) (ks := [f.kd a th1]) T rfl (s1.trans s2) (fun k hk => by rw [List.mem_singleton.mp hk]; exact k1) (by show 1 ≤ 10; decide) ?_ ?_ fit (s2 _ _ upd_same) upd_same (fun H' x s n => q H' x s ?_) x dx hx hdx ne _
  · rw [Fo.parts]
    show 1 + f.parts = 1 + (f.parts + 0)
    omega
  · rw [Fo.depth]
    show 1 + f.depth = 1 + max f.depth 0
    omega
  · simp only [FoAt]
    exact ⟨a, n, hf.same s⟩
/-! ### Number, Name -/
theorem fits0 : Fits [] := ⟨by decide, by decide⟩
/-- what an __init__ leaves at the new instance -/
def Left (H : Hp) (a C dx : Addr) (kd : Str) (p d : Nat) (th : List V) (Q : VK) : Prop := ∀ H' t, SameBut a H H' → H' a = some (.ins C dx (flds (.str kd) (.ref t) p d)) → H' t = some (.tup th) → Q .non H'
theorem init_read {H H2 : Hp} {a C dx t e : Addr} {kd : Str} {th : List V} {ks : List Kd} {Q : VK} {E : XK} (ha : H a = some (.ins C dx [])) (I : InsT K C) (s2 : Same H H2) (et : H2 t = some (.tup th)) (ee : H2 e = some (.tup (refs ks))) (r : ∀ q ∈ ks, KidAt K H q) (hl : ks.length ≤ 10) (fit : Fits ks)
    (k : Left H a C dx kd (1 + sumP ks) (1 + maxD ks) th Q) : spForm K [.ref a, .str kd, .ref t, .ref e] H2 Q E := by
  have ha2 := s2 _ _ ha
  exact ⟨a, C, dx, e, _, _, ks, rfl, ha2, I, ee, fun k hk => (r k hk).same s2, hl, fit, fun H' sb e' => k H' t ((SameBut.of s2).trans sb) e' (tup_but ha2 sb et)⟩
def spNumI (K : PySem.W.Frag) : Sp := fun vs H Q _ => ∃ (a C dx : Addr) (i : Int), vs = [.ref a, .int i] ∧ 0 ≤ i ∧ i < 10 ^ 30 ∧ H a = some (.ins C dx []) ∧ InsT K C ∧ Left H a C dx "number" 1 1 [.int i] Q
theorem sc_Number___init__ : FnScope ["self", "n"] ["self", "n"] (defScope sNum) := ⟨rfl, rfl, rfl, by decide +kernel, rfl, by decide +kernel, by decide +kernel⟩
theorem ok_Number___init__ (T : Txt K mg) : Cal P w K mg base CX0 (2) (ma K (ga K "Number") "__init__") ["self", "n"] (spNumI K) := by
  obtain ⟨fd, F⟩ := T.f_Number___init__
  refine ⟨fd, ?_, F.kp, F.bindsN fun _ _ _ _ _ _ us hl => match us, hl with | [_, _], _ => rfl⟩
  refine F.ok sc_Number___init__ (fun vs H Q E h => ?_) (fun cdv A outer s H vs Q E hr h => ?_)
  · obtain ⟨_, _, _, _, rfl, _⟩ := h
    rfl
  have nod := sc_Number___init__.nd
  have hu := hu_of hr
  refine ⟨_, PSs.nox (pss_cons (ps_if (PW.pt (pw_or (pt_not (pt_val (pe_callC (c_is_integer T) (hr.mono (by omega)) rfl (T.g "is_integer") pass0 (pa_cons (pv 1) pa_nil)))) (pw_or1 (pt_not (pt_chain op_le op_lt pe_int (pv 1) (pe_gi (n := 10 ^ 30) rfl T.nEnd))))))
    (pss_one ps_never)
    pss_nil)
  (pss_one (ps_expr (pe_clfnC (c_form T) T.foI (hr.mono (by omega)) rfl (T.g "Formula") pass0 (pa_cons (pv 0) (pa_cons pe_str (pa_cons (pe_tup (pa_cons (pv 1) pa_nil)) (pa_cons (pe_tup pa_nil) pa_nil)))))))), ?_⟩
  obtain ⟨a, C, dx, i, rfl, i0, i1, ha, I, k⟩ := h
  refine ⟨_, rfl, _, _, rfl, .int i, _, rfl, ?_⟩
  refine ite2 (fun h => Bool.noConfusion (show false = true from h)) (fun _ => ?_)
  refine ⟨_, rfl, _, _, rfl, rfl, _, rfl, ?_⟩
  refine ite2 (fun h => ?_) (fun h => absurd (decide_eq_true i0) h)
  refine ⟨_, _, rfl, rfl, _, rfl, ?_⟩
  refine ite2 (fun h => ?_) (fun _ => ?_)
  · have h : (!decide (i < 10 ^ 30)) = true := h
    rw [decide_eq_true i1] at h
    cases h
  refine ⟨_, rfl, _, rfl, tsz (by show 1 ≤ 1000000; decide), fun t ht => ⟨tsz (by show 0 ≤ 1000000; decide), fun e he => ?_⟩⟩
  exact init_read (E := E0) (ks := []) ha I ((upd_new ht).trans (upd_new he)) (upd_new he _ _ upd_same) upd_same (fun k hk => by cases hk) (by decide) fits0 k
def spNameI (K : PySem.W.Frag) : Sp := fun vs H Q _ => ∃ (a C dx : Addr) (z : Str), vs = [.ref a, .str z] ∧ GoodN z ∧ H a = some (.ins C dx []) ∧ InsT K C ∧ Left H a C dx "name" 1 1 [.str z] Q
theorem sc_Name___init__ : FnScope ["self", "name"] ["self", "name"] (defScope sName) := ⟨rfl, rfl, rfl, by decide +kernel, rfl, by decide +kernel, by decide +kernel⟩
theorem ok_Name___init__ (T : Txt K mg) : Cal P w K mg base CX0 (3) (ma K (ga K "Name") "__init__") ["self", "name"] (spNameI K) := by
  obtain ⟨fd, F⟩ := T.f_Name___init__
  refine ⟨fd, ?_, F.kp, F.bindsN fun _ _ _ _ _ _ us hl => match us, hl with | [_, _], _ => rfl⟩
  refine F.ok sc_Name___init__ (fun vs H Q E h => ?_) (fun cdv A outer s H vs Q E hr h => ?_)
  · obtain ⟨_, _, _, _, rfl, _⟩ := h
    rfl
  have nod := sc_Name___init__.nd
  have hu := hu_of hr
  refine ⟨_, PSs.nox (pss_cons (ps_expr (pe_callC (c_check_name T) (hr.mono (by omega)) rfl (T.g "check_name") pass0 (pa_cons (pv 1) pa_nil)))
  (pss_one (ps_expr (pe_clfnC (c_form T) T.foI (hr.mono (by omega)) rfl (T.g "Formula") pass0 (pa_cons (pv 0) (pa_cons pe_str (pa_cons (pe_tup (pa_cons (pv 1) pa_nil)) (pa_cons (pe_tup pa_nil) pa_nil)))))))), ?_⟩
  obtain ⟨a, C, dx, z, rfl, z0, ha, I, k⟩ := h
  refine ⟨_, rfl, z, rfl, z0, fun H0 s0 => ?_⟩
  refine ⟨_, rfl, _, rfl, tsz (by show 1 ≤ 1000000; decide), fun t ht => ⟨tsz (by show 0 ≤ 1000000; decide), fun e he => ?_⟩⟩
  exact init_read (E := E0) (ks := []) ha I ((s0.trans (upd_new ht)).trans (upd_new he)) (upd_new he _ _ upd_same) upd_same (fun k hk => by cases hk) (by decide) fits0 k

end
end KM
set_option Elab.async false
set_option linter.all false
set_option maxRecDepth 100000
set_option maxHeartbeats 8000000
namespace KM
open PySem PySem.Spec PyProof.Rows L2 He Sw L2H
section
variable {P : Program} {w : World} {K : PySem.W.Frag} {mg : Str → Option Value} {base : Heap}
/-! ### inner_formulas -/
def spInner (K : PySem.W.Frag) : Sp := fun vs H Q _ => ∃ (f : Fo) (a : Addr), vs = [.ref a] ∧ FoAt K H f a ∧ ∀ u H' xs, Same H H' → H' u = some (.tup (xs.map V.ref)) → FoAts K H' f.kids xs → Q (.ref u) H'
theorem B3.strs (o : B3) : o.str = "plus" ∨ o.str = "minus" ∨ o.str = "times" := by cases o <;> simp [B3.str]
theorem sc_inner_formulas : FnScope ["formula"] ["formula"] (defScope sInner) := ⟨rfl, rfl, rfl, by decide +kernel, rfl, by decide +kernel, by decide +kernel⟩
theorem ok_inner_formulas (T : Txt K mg) : Cal P w K mg base CX0 (1) (ga K "inner_formulas") ["formula"] (spInner K) := by
  obtain ⟨fd, F⟩ := T.f_inner_formulas
  refine ⟨fd, ?_, F.kp, F.bindsN fun _ _ _ _ _ _ us hl => match us, hl with | [_], _ => rfl⟩
  refine F.ok sc_inner_formulas (fun vs H Q E h => ?_) (fun cdv A outer s H vs Q E hr h => ?_)
  · obtain ⟨_, _, rfl, _⟩ := h
    rfl
  have nod := sc_inner_formulas.nd
  have hu := hu_of hr
  refine ⟨_, PSs.nox (pss_cons (ps_if (pt_cmpR op_in_seq (pe_fld (pv 0) rfl) (pe_tup (pa_cons pe_str (pa_cons pe_str pa_nil))) rfl)
    (pss_one (ps_ret (pe_tup pa_nil)))
    pss_nil)
  (pss_cons (ps_if (pt_cmpR op_eq (pe_fld (pv 0) rfl) pe_str (nomark _))
    (pss_one (ps_ret (pe_slice sl_tup (pe_fld (pv 0) rfl) po_none (po_some pe_int))))
    pss_nil)
  (pss_cons (ps_if (pt_cmpR op_eq (pe_fld (pv 0) rfl) pe_str (nomark _))
    (pss_one (ps_ret (pe_slice sl_tup (pe_fld (pv 0) rfl) (po_some pe_int) po_none)))
    pss_nil)
  (pss_cons (ps_if (pt_cmpR op_eq (pe_fld (pv 0) rfl) pe_str (nomark _))
    (pss_one (ps_ret (pe_ix ix_tup (pe_fld (pv 0) rfl) pe_int (fun _ _ => rfl))))
    pss_nil)
  (pss_one (ps_ret (pe_fld (pv 0) rfl))))))), ?_⟩
  obtain ⟨f, a, rfl, hf, q⟩ := h
  obtain ⟨dx, t, th, xs, ha, et, sh, fk⟩ := hf.opened
  have I := T.ins _ f.cls_mem
  have nk := I.no "kind" (by decide +kernel)
  have nt := I.no "things" (by decide +kernel)
  generalize hk : f.kind = kd at ha
  refine ⟨_, rfl, a, _, dx, _, .str kd, rfl, ha, I.cl, nk, rfl, tsz (by show 2 ≤ 1000000; decide), fun p hp => ?_⟩
  have s1 := upd_new (o := .tup [V.str "number", V.str "name"]) hp
  have ep : (upd H p (.tup [V.str "number", V.str "name"])) p = some (.tup [V.str "number", V.str "name"]) := upd_same
  generalize upd H p (.tup [V.str "number", V.str "name"]) = H1 at s1 ep ⊢
  have ha1 := s1 _ _ ha
  have et1 := s1 _ _ et
  refine ⟨p, _, rfl, .inr (SqT.of ep), rfl, rfl, _, rfl, ?_⟩
  have none_ : FoAts K H f.kids [] → ∀ u, H1 u = none → Q (.ref u) (upd H1 u (.tup [])) := fun e u hu => q u _ [] (s1.trans (upd_new hu)) upd_same (e.same (s1.trans (upd_new hu)))
  have rest : (kd = "plus" ∨ kd = "minus" ∨ kd = "times" ∨ kd = "negative") → inV (.str kd) [.str "number", .str "name"] = false ∧ decide (V.str kd = V.str "shift") = false ∧ decide (V.str kd = V.str "sum") = false ∧ decide (V.str kd = V.str "call") = false := fun e => by
    refine ⟨?_, ?_, ?_, ?_⟩ <;> (rcases e with rfl | rfl | rfl | rfl <;> decide +kernel)
  have seq : ∀ {ys : List Addr}, (kd = "plus" ∨ kd = "minus" ∨ kd = "times" ∨ kd = "negative") → th = ys.map V.ref → FoAts K H f.kids ys → Q (.ref t) H1 := fun e e2 e3 => q t H1 _ s1 (by rw [et1, e2]) (e3.same s1)
  cases sh with
  | num n =>
    obtain rfl : "number" = kd := hk
    refine ite2 (fun _ => ?_) (fun n => absurd (by decide +kernel) n)
    exact ⟨tsz (by show 0 ≤ 1000000; decide), none_ fk⟩
  | nam z =>
    obtain rfl : "name" = kd := hk
    refine ite2 (fun _ => ?_) (fun n => absurd (by decide +kernel) n)
    exact ⟨tsz (by show 0 ≤ 1000000; decide), none_ fk⟩
  | neg g x =>
    obtain rfl : "negative" = kd := hk
    obtain ⟨d1, d2, d3, d4⟩ := rest (.inr (.inr (.inr rfl)))
    refine ite2 (fun n => Bool.noConfusion (d1.symm.trans n)) (fun _ => ?_)
    refine ⟨_, rfl, a, _, dx, _, _, rfl, ha1, I.cl, nk, rfl, rfl, _, rfl, ite2 (fun n => Bool.noConfusion (d2.symm.trans n)) (fun _ => ?_)⟩
    refine ⟨_, rfl, a, _, dx, _, _, rfl, ha1, I.cl, nk, rfl, rfl, _, rfl, ite2 (fun n => Bool.noConfusion (d3.symm.trans n)) (fun _ => ?_)⟩
    refine ⟨_, rfl, a, _, dx, _, _, rfl, ha1, I.cl, nk, rfl, rfl, _, rfl, ite2 (fun n => Bool.noConfusion (d4.symm.trans n)) (fun _ => ?_)⟩
    exact ⟨_, rfl, a, _, dx, _, _, rfl, ha1, I.cl, nt, rfl, seq (.inr (.inr (.inr rfl))) rfl fk⟩
  | bin o f' g' x y =>
    have ko : kd = "plus" ∨ kd = "minus" ∨ kd = "times" ∨ kd = "negative" := by
      rcases o.strs with e | e | e
      · exact .inl (hk.symm.trans e)
      · exact .inr (.inl (hk.symm.trans e))
      · exact .inr (.inr (.inl (hk.symm.trans e)))
    obtain ⟨d1, d2, d3, d4⟩ := rest ko
    refine ite2 (fun n => Bool.noConfusion (d1.symm.trans n)) (fun _ => ?_)
    refine ⟨_, rfl, a, _, dx, _, _, rfl, ha1, I.cl, nk, rfl, rfl, _, rfl, ite2 (fun n => Bool.noConfusion (d2.symm.trans n)) (fun _ => ?_)⟩
    refine ⟨_, rfl, a, _, dx, _, _, rfl, ha1, I.cl, nk, rfl, rfl, _, rfl, ite2 (fun n => Bool.noConfusion (d3.symm.trans n)) (fun _ => ?_)⟩
    refine ⟨_, rfl, a, _, dx, _, _, rfl, ha1, I.cl, nk, rfl, rfl, _, rfl, ite2 (fun n => Bool.noConfusion (d4.symm.trans n)) (fun _ => ?_)⟩
    exact ⟨_, rfl, a, _, dx, _, _, rfl, ha1, I.cl, nt, rfl, seq ko rfl fk⟩
  | shl g n x =>
    obtain rfl : "shift" = kd := hk
    refine ite2 (fun n => absurd n (by decide +kernel)) (fun _ => ?_)
    refine ⟨_, rfl, a, _, dx, _, _, rfl, ha1, I.cl, nk, rfl, rfl, _, rfl, ite2 (fun _ => ?_) (fun n => absurd (by decide +kernel) n)⟩
    refine ⟨_, rfl, a, _, dx, _, _, rfl, ha1, I.cl, nt, rfl, _, rfl, t, _, rfl, SqT.of et1, (by show ¬ (HT.sIx 2 0 none = 0 ∧ HT.sIx 2 2 (some 1) = 2); decide +kernel), fun u hu => ?_⟩
    exact q u _ [x] (s1.trans (upd_new hu)) upd_same (fk.same (s1.trans (upd_new hu)))
  | sum i b g y x hb =>
    obtain rfl : "sum" = kd := hk
    refine ite2 (fun n => absurd n (by decide +kernel)) (fun _ => ?_)
    refine ⟨_, rfl, a, _, dx, _, _, rfl, ha1, I.cl, nk, rfl, rfl, _, rfl, ite2 (fun n => absurd n (by decide +kernel)) (fun _ => ?_)⟩
    refine ⟨_, rfl, a, _, dx, _, _, rfl, ha1, I.cl, nk, rfl, rfl, _, rfl, ite2 (fun _ => ?_) (fun n => absurd (by decide +kernel) n)⟩
    refine ⟨_, rfl, a, _, dx, _, _, rfl, ha1, I.cl, nt, rfl, _, rfl, t, _, rfl, SqT.of et1, (by show ¬ (HT.sIx 3 0 (some 2) = 0 ∧ HT.sIx 3 3 none = 3); decide +kernel), fun u hu => ?_⟩
    exact q u _ [x] (s1.trans (upd_new hu)) upd_same (fk.same (s1.trans (upd_new hu)))
  | call z fs u _ e =>
    obtain rfl : "call" = kd := hk
    refine ite2 (fun n => absurd n (by decide +kernel)) (fun _ => ?_)
    refine ⟨_, rfl, a, _, dx, _, _, rfl, ha1, I.cl, nk, rfl, rfl, _, rfl, ite2 (fun n => absurd n (by decide +kernel)) (fun _ => ?_)⟩
    refine ⟨_, rfl, a, _, dx, _, _, rfl, ha1, I.cl, nk, rfl, rfl, _, rfl, ite2 (fun n => absurd n (by decide +kernel)) (fun _ => ?_)⟩
    refine ⟨_, rfl, a, _, dx, _, _, rfl, ha1, I.cl, nk, rfl, rfl, _, rfl, ite2 (fun _ => ?_) (fun n => absurd (by decide +kernel) n)⟩
    exact ⟨_, rfl, a, _, dx, _, _, rfl, ha1, I.cl, nt, rfl, t, _, _, .ref u, rfl, rfl, SqT.of et1, rfl, q u H1 xs s1 (s1 _ _ e) (fk.same s1)⟩
/-! ### [name for one in inner_formulas(formula) for name in def_(one)] -/
def flat (gl : Fo → List Str) : List Fo → List Str
  | [] => []
  | f :: fs => gl f ++ flat gl fs
theorem flat_take {gl : Fo → List Str} : ∀ {fs : List Fo} {i : Nat} {f : Fo}, fs[i]? = some f → flat gl (fs.take (i + 1)) = flat gl (fs.take i) ++ gl f
  | g :: fs, 0, f, h => by
    injection h with h
    subst h
    simp [flat]
  | g :: fs, i + 1, f, h => by
    have r := flat_take (gl := gl) (fs := fs) (i := i) h
    show gl g ++ flat gl (fs.take (i + 1)) = (gl g ++ flat gl (fs.take i)) ++ gl f
    rw [r, List.append_assoc]
theorem flat_take_len {gl : Fo → List Str} : ∀ {fs : List Fo} {i : Nat}, (flat gl (fs.take i)).length ≤ (flat gl fs).length
  | [], i => by simp [flat]
  | g :: fs, 0 => Nat.zero_le _
  | g :: fs, i + 1 => by
    have r := flat_take_len (gl := gl) (fs := fs) (i := i)
    show (gl g ++ flat gl (fs.take i)).length ≤ (gl g ++ flat gl fs).length
    rw [List.length_append, List.length_append]
    omega
theorem lc2_names {fs : List Fo} {xs : List Addr} {t a D : Addr} {H0 : Hp} {gl : Fo → List Str} {sp : Sp} {Qd : Hp → Prop} (et : H0 t = some (.tup (xs.map V.ref))) (fk : FoAts K H0 fs xs) (hD : H0 D = none) (few : (flat gl fs).length ≤ 5000)
    (cal : ∀ f ∈ fs, ∀ (x : Addr) (H' : Hp) (Q : VK), Same H0 H' → FoAt K H' f x → (∀ l H'', Same H' H'' → H' l = none → H'' l = some (.lst ((gl f).map V.str)) → Q (.ref l) H'') → sp [.ref x] H' Q E0)
    (hd : ∀ H', Same H0 H' → H' D = some (.lst ((flat gl fs).map V.str)) → Qd H') :
    ∃ W : Nat → Nat → Hp → Prop, (∃ m, W 0 m (upd H0 D (.lst []))) ∧ ∀ i m H, W i m H →
      ((Itt K t).stop i H ∧ Qd H) ∨ ((Itt K t).go i H ∧ ∃ Nx : Hp → Prop, (∀ H', Nx H' → ∃ m', m' < m ∧ W (i + 1) m' H') ∧ ∀ x H', (Itt K t).yld i H x H' → gName 2 x (wipe [some (.ref a), none, none, none] [2, 3]) H' fun σ2 H2 => wipe σ2 [2, 3] = wipe [some (.ref a), none, none, none] [2, 3] ∧ tYes σ2 H2 fun b H3 =>
        if b = true then iList K (tCall sp [] E0 (tCons (tVar 2) tNil)) σ2 H3 fun J1 H4 => ∃ W1 : Nat → Nat → Hp → Prop, (∃ m, W1 0 m H4) ∧ ∀ j k H, W1 j k H →
          (J1.stop j H ∧ Nx H) ∨ (J1.go j H ∧ ∃ Nx1 : Hp → Prop, (∀ H', Nx1 H' → ∃ k', k' < k ∧ W1 (j + 1) k' H') ∧ ∀ x H', J1.yld j H x H' → gName 3 x (wipe σ2 [3]) H' fun σ3 H5 => wipe σ3 [3] = wipe σ2 [3] ∧ tYes σ3 H5 fun b H6 =>
            if b = true then tVar 3 σ3 H6 fun y H7 => ∃ acc, H7 D = some (.lst acc) ∧ acc.length < sizeLine ∧ Nx1 (upd H7 D (.lst (acc ++ [y]))) else Nx1 H6)
        else Nx H3) := by
  have lx := fk.len
  have up0 : ∀ {H' : Hp} {o : HO}, Same H0 H' → Same H0 (upd H' D o) := fun {H' o} s' b o' e => by rw [upd_ne (ne_of_none e hD)]; exact s' _ _ e
  refine ⟨fun i m H' => m = xs.length - i ∧ i ≤ xs.length ∧ Same H0 H' ∧ H' D = some (.lst ((flat gl (fs.take i)).map V.str)), ⟨_, rfl, Nat.zero_le _, up0 (Same.refl _), by rw [upd_same]; rfl⟩, ?_⟩
  rintro i m H1 ⟨rfl, hi, s1, eD⟩
  by_cases hlt : i < xs.length
  · have hx : xs[i]? = some xs[i] := List.getElem?_eq_getElem hlt
    generalize xs[i] = x at hx
    obtain ⟨f, hfi, hfa⟩ := fk.get hx
    have hfm := List.mem_of_getElem? hfi
    have href : (xs.map V.ref)[i]? = some (V.ref x) := by rw [List.getElem?_map, hx]; rfl
    refine .inr ⟨⟨_, _, SqT.of (s1 _ _ et), href⟩, fun H' => i + 1 ≤ xs.length ∧ Same H0 H' ∧ H' D = some (.lst ((flat gl (fs.take (i + 1))).map V.str)), fun H' ⟨a1, a2, a3⟩ => ⟨_, by omega, rfl, a1, a2, a3⟩, ?_⟩
    rintro y H2 ⟨rfl, hy⟩
    obtain rfl : y = V.ref x := by
      have e := hy _ (SqT.of (s1 _ _ et))
      rw [href] at e
      injection e with e
      exact e.symm
    refine ⟨rfl, ?_⟩
    refine ⟨_, rfl, cal f hfm x H2 _ s1 (hfa.same s1) fun l H3 s3 hl el => ⟨l, rfl, ⟨_, SqL.of el⟩, ?_⟩⟩
    have nl : l ≠ D := fun z => by rw [z, eD] at hl; cases hl
    have lt1 := flat_take_len (gl := gl) (fs := fs) (i := i)
    have lt2 := flat_take_len (gl := gl) (fs := fs) (i := i + 1)
    rw [flat_take hfi, List.length_append] at lt2
    refine ⟨fun j m' H' => m' = (gl f).length - j ∧ j ≤ (gl f).length ∧ Same H0 H' ∧ H' l = some (.lst ((gl f).map V.str)) ∧ H' D = some (.lst ((flat gl (fs.take i) ++ (gl f).take j).map V.str)), ⟨_, rfl, Nat.zero_le _, s1.trans s3, el, by rw [List.take_zero, List.append_nil]; exact s3 _ _ eD⟩, ?_⟩
    rintro j m' H4 ⟨rfl, hj, s4, el4, eD4⟩
    by_cases hjl : j < (gl f).length
    · have hz : (gl f)[j]? = some (gl f)[j] := List.getElem?_eq_getElem hjl
      generalize (gl f)[j] = z at hz
      have hzm : ((gl f).map V.str)[j]? = some (V.str z) := by rw [List.getElem?_map, hz]; rfl
      refine .inr ⟨⟨_, _, SqL.of el4, hzm⟩, fun H' => j + 1 ≤ (gl f).length ∧ Same H0 H' ∧ H' l = some (.lst ((gl f).map V.str)) ∧ H' D = some (.lst ((flat gl (fs.take i) ++ (gl f).take (j + 1)).map V.str)), fun H' ⟨a1, a2, a3, a4⟩ => ⟨_, by omega, rfl, a1, a2, a3, a4⟩, ?_⟩
      rintro y H5 ⟨rfl, hy⟩
      obtain rfl : y = V.str z := by
        have e := hy _ (SqL.of el4)
        rw [hzm] at e
        injection e with e
        exact e.symm
      refine ⟨rfl, ?_⟩
      refine ⟨_, rfl, _, eD4, ?_, hjl, up0 s4, by rw [upd_ne nl]; exact el4, ?_⟩
      · rw [List.length_map, List.length_append, List.length_take, sizeLine_eq]
        omega
      · rw [upd_same, List.take_add_one, hz]
        simp
    · have ej : j = (gl f).length := by omega
      subst ej
      refine .inl ⟨⟨_, SqL.of el4, by rw [List.length_map]; exact Nat.le_refl _⟩, hlt, s4, ?_⟩
      rw [eD4, List.take_length, flat_take hfi]
  · have ei : i = xs.length := by omega
    subst ei
    refine .inl ⟨⟨_, SqT.of (s1 _ _ et), by rw [List.length_map]; exact Nat.le_refl _⟩, hd H1 s1 ?_⟩
    rw [eD, lx, List.take_length]

end
end KM
set_option Elab.async false
set_option linter.all false
set_option maxRecDepth 100000
set_option maxHeartbeats 8000000
namespace KM
open PySem PySem.Spec PyProof.Rows L2 He Sw L2H
section
variable {P : Program} {w : World} {K : PySem.W.Frag} {mg : Str → Option Value} {base : Heap}
theorem flat_ixs : ∀ fs : List Fo, flat Fo.ixs fs = Fo.ixsL fs
  | [] => by simp [flat, Fo.ixsL]
  | f :: fs => by simp [flat, Fo.ixsL, flat_ixs fs]
mutual
theorem Fo.ixs_len : ∀ f : Fo, f.ixs.length ≤ f.parts
  | .num _ => by simp [Fo.ixs]
  | .nam _ => by simp [Fo.ixs]
  | .neg a => by have := Fo.ixs_len a; simp only [Fo.ixs, Fo.parts]; omega
  | .shl a _ => by have := Fo.ixs_len a; simp only [Fo.ixs, Fo.parts]; omega
  | .bin _ a b => by have := Fo.ixs_len a; have := Fo.ixs_len b; simp only [Fo.ixs, Fo.parts, List.length_append]; omega
  | .sum _ _ a => by have := Fo.ixs_len a; simp only [Fo.ixs, Fo.parts, List.length_cons]; omega
  | .call _ as => by have := Fo.ixsL_len as; simp only [Fo.ixs, Fo.parts]; omega
theorem Fo.ixsL_len : ∀ fs : List Fo, (Fo.ixsL fs).length ≤ Fo.partsL fs
  | [] => by simp [Fo.ixsL]
  | f :: fs => by have := Fo.ixs_len f; have := Fo.ixsL_len fs; simp only [Fo.ixsL, Fo.partsL, List.length_append]; omega
end
theorem Fo.ixs_kids (f : Fo) : f.ixs = (match f with | .sum i _ _ => [i] | _ => []) ++ Fo.ixsL f.kids := by
  cases f <;> simp [Fo.ixs, Fo.kids, Fo.ixsL]
theorem Fo.kind_sum (f : Fo) : (∃ i b a, f = .sum i b a) ∨ decide (V.str f.kind = V.str "sum") = false := by
  cases f with
  | sum i b a => exact .inl ⟨i, b, a, rfl⟩
  | num n => exact .inr (show decide (V.str "number" = V.str "sum") = false by decide +kernel)
  | nam z => exact .inr (show decide (V.str "name" = V.str "sum") = false by decide +kernel)
  | neg a => exact .inr (show decide (V.str "negative" = V.str "sum") = false by decide +kernel)
  | shl a n => exact .inr (show decide (V.str "shift" = V.str "sum") = false by decide +kernel)
  | bin o a b => cases o <;> exact .inr (by first | exact (show decide (V.str "plus" = V.str "sum") = false by decide +kernel) | exact (show decide (V.str "minus" = V.str "sum") = false by decide +kernel) | exact (show decide (V.str "times" = V.str "sum") = false by decide +kernel))
  | call z as => exact .inr (show decide (V.str "call" = V.str "sum") = false by decide +kernel)
/-! ### index_names -/
def spIx (K : PySem.W.Frag) (n : Nat) : Sp := fun vs H Q _ => ∃ (f : Fo) (a : Addr), vs = [.ref a] ∧ f.depth ≤ n ∧ f.parts ≤ 300 ∧ FoAt K H f a ∧ ∀ l H', Same H H' → H l = none → H' l = some (.lst (f.ixs.map V.str)) → Q (.ref l) H'
theorem sc_index_names : FnScope ["formula", "found", "one", "index"] ["formula"] (defScope sIx) := ⟨rfl, rfl, rfl, by decide +kernel, rfl, by decide +kernel, by decide +kernel⟩
theorem ok_index_names (T : Txt K mg) : ∀ n, Cal P w K mg base CX0 (n + 2) (ga K "index_names") ["formula"] (spIx K n)
  | 0 => by
    obtain ⟨fd, F⟩ := T.f_index_names
    refine ⟨fd, ⟨fun vs H Q E h => ?_, fun A outer s H args us vs Q E _ _ _ _ h => ?_⟩, F.kp, F.bindsN fun _ _ _ _ _ _ us hl => match us, hl with | [_], _ => rfl⟩
    · obtain ⟨_, _, rfl, _⟩ := h
      rfl
    · obtain ⟨_, _, _, h, _⟩ := h
      exact absurd h (Nat.not_le_of_lt (Fo.depth_pos _))
  | n + 1 => by
    have GX := ok_index_names T n
    obtain ⟨fd, F⟩ := T.f_index_names
    refine ⟨fd, ?_, F.kp, F.bindsN fun _ _ _ _ _ _ us hl => match us, hl with | [_], _ => rfl⟩
    refine F.ok sc_index_names (fun vs H Q E h => ?_) (fun cdv A outer s H vs Q E hr h => ?_)
    · obtain ⟨_, _, rfl, _⟩ := h
      rfl
    have nod := sc_index_names.nd
    have hu := hu_of hr
    refine ⟨_, PSs.nox (pss_cons (ps_setLc2 (i := 1) (own := [("one", 2), ("index", 3)]) (vs1 := [3]) (g := gName 2) (tt := tYes) (wi1 := (iList K (tCall (spIx K n) [] E0 (tCons (tVar 2) tNil)))) (g1 := gName 3) (tt1 := tYes) (te := (tVar 3)) rfl nod rfl rfl (sw_true rfl rfl rfl (by decide +kernel)) (pi_tup (pe_callC (ok_inner_formulas T) (hr.mono (by omega)) rfl (T.g "inner_formulas") pass0 (pa_cons (pv 0) pa_nil))) (blkOk_by (N := ["formula", "found", "one", "index"]) (sc := defScope sIx) (by decide +kernel)) (by decide) (fun _ _ _ _ _ => (pg_name (i := 2) nod rfl (Or.inl rfl))) (fun _ _ _ _ _ => pts_nil) (fun _ _ _ _ _ => (pi_list (pe_callC GX (hr.mono (by omega)) rfl (T.g "index_names") pass0 (pa_cons (pv 2) pa_nil)))) (fun _ _ _ _ _ => (pg_name (i := 3) nod rfl (Or.inl rfl))) (fun _ _ _ _ _ => pts_nil) (fun _ _ _ _ _ => (pv 3)))
    (pss_cons (ps_if (pt_cmpR op_eq (pe_fld (pv 0) rfl) pe_str (nomark _))
      (pss_one (ps_ret (pe_op op_cat (pe_lst (pa_cons (pe_ix ix_tup (pe_fld (pv 0) rfl) pe_int (fun _ _ => rfl)) pa_nil)) (pv 1))))
      pss_nil)
    (pss_one (ps_ret (pv 1))))), ?_⟩
    obtain ⟨f, a, rfl, hn, hp, hf, q⟩ := h
    obtain ⟨dx, t, th, xs, ha, et, sh, fk⟩ := hf.opened
    have I := T.ins _ f.cls_mem
    have nk := I.no "kind" (by decide +kernel)
    have nt := I.no "things" (by decide +kernel)
    refine ⟨_, rfl, f, a, rfl, hf, fun u H0 ys s0 eu fk0 => ⟨u, rfl, ⟨_, SqT.of eu⟩, fun D hD => ?_⟩⟩
    have len := Fo.ixsL_len f.kids
    have pk := f.parts_kids
    refine lc2_names (gl := Fo.ixs) eu fk0 hD (by rw [flat_ixs]; omega) (fun g hg x H' Q' s' hx k' => ⟨g, x, rfl, by have := Fo.kid_depth hg; omega, by have := Fo.kid_parts hg; omega, hx, fun l H'' s'' hl el => k' l H'' s'' hl el⟩) (fun H1 s1 eD => ?_)
    rw [flat_ixs] at eD
    have s01 := s0.trans s1
    refine ⟨_, rfl, a, _, dx, _, .str f.kind, rfl, s01 _ _ ha, I.cl, nk, rfl, rfl, _, rfl, ?_⟩
    rcases f.kind_sum with ⟨i, b, g, rfl⟩ | hne
    · cases sh with
      | sum _ _ _ y x hb =>
      refine ite2 (fun _ => ?_) (fun n => absurd (show decide (V.str "sum" = V.str "sum") = true by decide +kernel) n)
      refine ⟨_, rfl, a, _, dx, _, _, rfl, s01 _ _ ha, I.cl, nt, rfl, t, _, _, .str i, rfl, rfl, SqT.of (s01 _ _ et), rfl, tsz (by show 1 ≤ 1000000; decide), fun p hp => ?_⟩
      have s2 := upd_new (o := .lst [V.str i]) hp
      refine ⟨_, rfl, p, D, _, _, rfl, rfl, upd_same, s2 _ _ eD, ?_, fun l hl => ?_⟩
      · rw [List.length_map, sizeLine_eq]
        show 1 + _ ≤ _
        omega
      · refine q l _ ((s01.trans s2).trans (upd_new hl)) (none_back (s01.trans s2) hl) ?_
        rw [upd_same, Fo.ixs_kids]
        rfl
    · refine ite2 (fun n => Bool.noConfusion (hne.symm.trans n)) (fun _ => ?_)
      refine ⟨_, rfl, q D H1 s01 (none_back s0 hD) ?_⟩
      have e : f.ixs = Fo.ixsL f.kids := by
        rw [Fo.ixs_kids]
        cases f with
        | sum i b g => exact absurd (show decide (V.str "sum" = V.str "sum") = true by decide +kernel) (by rw [show decide (V.str "sum" = V.str "sum") = false from hne]; decide)
        | _ => rfl
      rw [e]; exact eD
/-! ### Sum.__init__ -/
theorem leaf_th {b : Fo} (hl : b.leaf) {H : Hp} {dx t : Addr} {th : List V} {xs : List Addr} (sh : Sh K H b th xs) : (b.cls = "Name" ∨ b.cls = "Number") ∧ ((∃ n, b = .num n ∧ th = [.int n]) ∨ ∃ z, b = .nam z ∧ th = [.str z]) := by
  cases sh <;> first | exact ⟨.inr rfl, .inl ⟨_, rfl, rfl⟩⟩ | exact ⟨.inl rfl, .inr ⟨_, rfl, rfl⟩⟩ | exact (show False from hl).elim
def spSumI (K : PySem.W.Frag) : Sp := fun vs H Q _ => ∃ (a C dx y x : Addr) (i : Str) (b f : Fo), vs = [.ref a, .str i, .ref y, .ref x] ∧ GoodN i ∧ H a = some (.ins C dx []) ∧ InsT K C ∧ b.leaf ∧ b ≠ .nam i ∧ FoAt K H b y ∧ FoAt K H f x ∧ i ∉ f.ixs ∧ f.Fits ∧ (Fo.sum i b f).Fits ∧ Left H a C dx "sum" (Fo.sum i b f).parts (Fo.sum i b f).depth [.str i, .ref y, .ref x] Q
theorem sc_Sum___init__ : FnScope ["self", "index", "below", "body"] ["self", "index", "below", "body"] (defScope sSum) := ⟨rfl, rfl, rfl, by decide +kernel, rfl, by decide +kernel, by decide +kernel⟩
theorem ok_Sum___init__ (T : Txt K mg) : Cal P w K mg base CX0 (43) (ma K (ga K "Sum") "__init__") ["self", "index", "below", "body"] (spSumI K) := by
  obtain ⟨fd, F⟩ := T.f_Sum___init__
  refine ⟨fd, ?_, F.kp, F.bindsN fun _ _ _ _ _ _ us hl => match us, hl with | [_, _, _, _], _ => rfl⟩
  refine F.ok sc_Sum___init__ (fun vs H Q E h => ?_) (fun cdv A outer s H vs Q E hr h => ?_)
  · obtain ⟨_, _, _, _, _, _, _, _, rfl, _⟩ := h
    rfl
  have nod := sc_Sum___init__.nd
  have hu := hu_of hr
  refine ⟨_, PSs.nox (pss_cons (ps_expr (pe_callC (c_check_name T) (hr.mono (by omega)) rfl (T.g "check_name") pass0 (pa_cons (pv 1) pa_nil)))
  (pss_cons (ps_if (PW.pt (pw_or (pt_not (pt_val (pe_callB call_isiT rfl (T.f "isinstance") (by decide +kernel) (pa_cons (pv 2) (pa_cons (pe_tup (pa_cons (pe_glob (v := .ref (ga K "Name")) rfl (T.g "Name") rfl) (pa_cons (pe_glob (v := .ref (ga K "Number")) rfl (T.g "Number") rfl) pa_nil))) pa_nil))))) (pw_or1 (pt_cmpR op_eq (pe_ix ix_tup (pe_fld (pv 2) rfl) pe_int (fun _ _ => rfl)) (pv 1) (nomark _)))))
    (pss_one ps_never)
    pss_nil)
  (pss_cons (ps_expr (pe_callC (ok_check_formula T) (hr.mono (by omega)) rfl (T.g "check_formula") pass0 (pa_cons (pv 3) pa_nil)))
  (pss_cons (ps_if (pt_cmpR op_in_seq (pv 1) (pe_callC (ok_index_names T 40) (hr.mono (by omega)) rfl (T.g "index_names") pass0 (pa_cons (pv 3) pa_nil)) rfl)
    (pss_one ps_never)
    pss_nil)
  (pss_one (ps_expr (pe_clfnC (c_form T) T.foI (hr.mono (by omega)) rfl (T.g "Formula") pass0 (pa_cons (pv 0) (pa_cons pe_str (pa_cons (pe_tup (pa_cons (pv 1) (pa_cons (pv 2) (pa_cons (pv 3) pa_nil)))) (pa_cons (pe_tup (pa_cons (pv 3) pa_nil)) pa_nil))))))))))), ?_⟩
  obtain ⟨a, C, dx, y, x, i, b, f, rfl, z0, ha, I, hl, hbi, hb, hf, ni, ff, fit, q⟩ := h
  obtain ⟨dxb, tb, thb, xb, eb, etb, shb, _⟩ := hb.opened
  have Ib := T.ins _ b.cls_mem
  obtain ⟨bc, bt⟩ := leaf_th (dx := dxb) (t := tb) hl shb
  -- the name
  refine ⟨_, rfl, i, rfl, z0, fun H1 s1 => ?_⟩
  -- the bound
  refine ⟨_, rfl, tsz (by show 2 ≤ 1000000; decide), fun tp htp => ?_⟩
  have s2 := upd_new (o := .tup [V.ref (ga K "Name"), .ref (ga K "Number")]) htp
  have etp : (upd H1 tp (.tup [.ref (ga K "Name"), .ref (ga K "Number")])) tp = some (.tup [.ref (ga K "Name"), .ref (ga K "Number")]) := upd_same
  generalize upd H1 tp (.tup [.ref (ga K "Name"), .ref (ga K "Number")]) = H2 at s2 etp ⊢
  have s02 := s1.trans s2
  have any : PySem.W.kitAny K (.ref (ga K b.cls)) [.ref (ga K "Name"), .ref (ga K "Number")] = some true := by
    rcases bc with ec | ec
    · rw [ec]
      exact kitAny_cons (T.kit "Name" (by decide +kernel) "Name" (by decide +kernel)) (fun h => absurd h (by decide +kernel)) (fun _ => rfl)
    · rw [ec]
      exact kitAny_cons (T.kit "Number" (by decide +kernel) "Name" (by decide +kernel)) (fun _ => kitAny_cons (T.kit "Number" (by decide +kernel) "Number" (by decide +kernel)) (fun h => absurd h (by decide +kernel)) (fun _ => rfl)) (fun _ => rfl)
  refine ⟨.ref y, tp, _, _, _, true, rfl, etp, .cons (.own _) (.cons (.own _) .nil), .base (.ins (s02 _ _ eb) Ib.cl Ib.ha Ib.hn Ib.ht Ib.hm), any, _, rfl, ?_⟩
  refine ite2 (fun h => Bool.noConfusion (show false = true from h)) (fun _ => ?_)
  obtain ⟨v0, ev0, esc, ene⟩ : ∃ v0, atI thb 0 = some v0 ∧ scal v0 (.str i) = true ∧ decide (v0 = V.str i) = false := by
    rcases bt with ⟨n, _, et⟩ | ⟨z, eb', et⟩
    · exact ⟨.int n, by rw [et]; rfl, rfl, decide_eq_false (fun z => nomatch z)⟩
    · exact ⟨.str z, by rw [et]; rfl, rfl, decide_eq_false (fun y => hbi (by rw [eb']; injection y with y; rw [y]))⟩
  refine ⟨_, rfl, y, _, dxb, _, _, rfl, s02 _ _ eb, Ib.cl, Ib.no "things" (by decide +kernel), rfl, tb, _, _, v0, rfl, rfl, SqT.of (s02 _ _ etb), ev0, _, rfl, esc, _, rfl, ?_⟩
  refine ite2 (fun h => Bool.noConfusion (ene.symm.trans h)) (fun _ => ?_)
  -- the body
  refine ⟨_, rfl, f, x, rfl, hf.same s02, ?_⟩
  refine ⟨_, rfl, _, rfl, f, x, rfl, ff.2, ff.1, hf.same s02, fun l H3 s3 hl el => ⟨l, _, rfl, .inl (SqL.of el), rfl, flat_strs _, _, rfl, ?_⟩⟩
  have s03 := s02.trans s3
  refine ite2 (fun h => ?_) (fun h => ?_)
  · have h : inV (.str i) (f.ixs.map V.str) = true := h
    rw [inV_strs] at h
    exact absurd (of_decide_eq_true h) ni
  · refine ⟨_, rfl, _, rfl, _, rfl, _, rfl, tsz (by show 3 ≤ 1000000; decide), fun t ht => ⟨_, rfl, tsz (by show 1 ≤ 1000000; decide), fun e he => ?_⟩⟩
    have s4 := upd_new (o := .tup [V.str i, .ref y, .ref x]) ht
    have s5 := upd_new (o := .tup [V.ref x]) he
    obtain ⟨th1, k1⟩ := hf.kid
    have ep : (Fo.sum i b f).parts = 1 + sumP [f.kd x th1] := by rw [Fo.parts]; show 1 + f.parts = 1 + (f.parts + 0); omega
    have ed : (Fo.sum i b f).depth = 1 + maxD [f.kd x th1] := by rw [Fo.depth]; show 1 + f.depth = 1 + max f.depth 0; omega
    rw [ep, ed] at q
    exact init_read (E := E0) (ks := [f.kd x th1]) ha I ((s03.trans s4).trans s5) (s5 _ _ upd_same) upd_same (fun q hq => by rw [List.mem_singleton.mp hq]; exact k1) (by show 1 ≤ 10; decide) ⟨by rw [← ep]; exact fit.1, by rw [← ed]; exact fit.2⟩ q
/-! ### is_row -/
def spRow : Sp := fun vs H Q _ => ∃ (l : Addr) (xs : List V), vs = [.ref l] ∧ H l = some (.lst xs) ∧ ∀ H', Same H H' → Q (.bl true) H'
theorem sc_is_row : FnScope ["thing"] ["thing"] (defScope sIsRow) := ⟨rfl, rfl, rfl, by decide +kernel, rfl, by decide +kernel, by decide +kernel⟩
theorem ok_is_row (T : Txt K mg) : Cal P w K mg base CX0 (1) (ga K "is_row") ["thing"] spRow := by
  obtain ⟨fd, F⟩ := T.f_is_row
  refine ⟨fd, ?_, F.kp, F.bindsN fun _ _ _ _ _ _ us hl => match us, hl with | [_], _ => rfl⟩
  refine F.ok sc_is_row (fun vs H Q E h => ?_) (fun cdv A outer s H vs Q E hr h => ?_)
  · obtain ⟨_, _, rfl, _⟩ := h
    rfl
  have nod := sc_is_row.nd
  have hu := hu_of hr
  refine ⟨_, PSs.nox (pss_one (ps_ret (pe_callB call_isiT rfl (T.f "isinstance") (by decide +kernel) (pa_cons (pv 0) (pa_cons (pe_tup (pa_cons (pe_bltn (v := .ty "list") rfl (T.f "list") (by decide +kernel) rfl) (pa_cons (pe_bltn (v := .ty "tuple") rfl (T.f "tuple") (by decide +kernel) rfl) pa_nil))) pa_nil))))), ?_⟩
  obtain ⟨l, xs, rfl, el, q⟩ := h
  refine ⟨_, rfl, tsz (by show 2 ≤ 1000000; decide), fun tp htp => ?_⟩
  have s2 := upd_new (o := .tup [V.ty "list", .ty "tuple"]) htp
  exact ⟨.ref l, tp, _, .type "list", [.type "list", .type "tuple"], true, rfl, upd_same, .cons (.ty _) (.cons (.ty _) .nil), .base (.lst (s2 _ _ el)), kitAny_cons (b := true) (kit_ty (show kitB _ _ = some true by decide +kernel)) (fun h => nomatch h) (fun _ => rfl), q _ s2⟩
/-! ### Call.__init__ -/
def spCallI (K : PySem.W.Frag) : Sp := fun vs H Q _ => ∃ (a C dx l : Addr) (z : Str) (fs : List Fo) (xs : List Addr), vs = [.ref a, .str z, .ref l] ∧ GoodN z ∧ H a = some (.ins C dx []) ∧ InsT K C ∧ H l = some (.lst (xs.map V.ref)) ∧ 1 ≤ fs.length ∧ fs.length ≤ 4 ∧ FoAts K H fs xs ∧ (Fo.call z fs).Fits ∧
  ∀ H' t u, SameBut a H H' → H' a = some (.ins C dx (flds (.str "call") (.ref t) (Fo.call z fs).parts (Fo.call z fs).depth)) → H' t = some (.tup [.str z, .ref u]) → H' u = some (.tup (xs.map V.ref)) → Q .non H'
theorem sc_Call___init__ : FnScope ["self", "name", "things", "thing"] ["self", "name", "things"] (defScope sCall) := ⟨rfl, rfl, rfl, by decide +kernel, rfl, by decide +kernel, by decide +kernel⟩
theorem ok_Call___init__ (T : Txt K mg) : Cal P w K mg base CX0 (3) (ma K (ga K "Call") "__init__") ["self", "name", "things"] (spCallI K) := by
  obtain ⟨fd, F⟩ := T.f_Call___init__
  refine ⟨fd, ?_, F.kp, F.bindsN fun _ _ _ _ _ _ us hl => match us, hl with | [_, _, _], _ => rfl⟩
  refine F.ok sc_Call___init__ (fun vs H Q E h => ?_) (fun cdv A outer s H vs Q E hr h => ?_)
  · obtain ⟨_, _, _, _, _, _, _, rfl, _⟩ := h
    rfl
  have nod := sc_Call___init__.nd
  have hu := hu_of hr
  refine ⟨_, PSs.nox (pss_cons (ps_expr (pe_callC (c_check_name T) (hr.mono (by omega)) rfl (T.g "check_name") pass0 (pa_cons (pv 1) pa_nil)))
  (pss_cons (ps_if (PW.pt (pw_or (pt_not (pt_val (pe_callC (ok_is_row T) (hr.mono (by omega)) rfl (T.g "is_row") pass0 (pa_cons (pv 2) pa_nil)))) (pw_or1 (pt_not (pt_chain op_le op_le pe_int (pe_callB call_len_seq rfl (T.f "len") (by decide +kernel) (pa_cons (pv 2) pa_nil)) (pe_gi (n := 4) rfl T.mThg))))))
    (pss_one ps_never)
    pss_nil)
  (pss_cons (ps_for PassesOwn.never rfl (pi_list (pv 2)) (pg_name (i := 3) nod rfl (Or.inl rfl))
    (pss_one (ps_expr (pe_callC (ok_check_formula T) (hr.mono (by omega)) rfl (T.g "check_formula") pass0 (pa_cons (pv 3) pa_nil)))))
  (pss_one (ps_expr (pe_clfnC (c_form T) T.foI (hr.mono (by omega)) rfl (T.g "Formula") pass0 (pa_cons (pv 0) (pa_cons pe_str (pa_cons (pe_tup (pa_cons (pv 1) (pa_cons (pe_callTy call_tuple_of rfl (T.f "tuple") (by decide +kernel) (pa_cons (pv 2) pa_nil)) pa_nil))) (pa_cons (pe_callTy call_tuple_of rfl (T.f "tuple") (by decide +kernel) (pa_cons (pv 2) pa_nil)) pa_nil)))))))))), ?_⟩
  obtain ⟨a, C, dx, l, z, fs, xs, rfl, z0, ha, I, el, n1, n4, fk, fit, ri⟩ := h
  have lx := fk.len
  refine ⟨_, rfl, z, rfl, z0, fun H1 s1 => ?_⟩
  refine ⟨_, rfl, l, _, rfl, s1 _ _ el, fun H2 s2 => ⟨_, rfl, ?_⟩⟩
  have s02 := s1.trans s2
  refine ite2 (fun h => Bool.noConfusion (show false = true from h)) (fun _ => ?_)
  refine ⟨_, rfl, l, _, rfl, .inl (SqL.of (s02 _ _ el)), _, _, rfl, rfl, _, rfl, ?_⟩
  refine ite2 (fun h => ?_) (fun h => absurd (decide_eq_true (by rw [List.length_map]; omega)) h)
  refine ⟨_, _, rfl, rfl, _, rfl, ?_⟩
  refine ite2 (fun h => ?_) (fun _ => ?_)
  · have h : (!decide (((xs.map V.ref).length : Int) ≤ 4)) = true := h
    rw [decide_eq_true (by rw [List.length_map]; omega)] at h
    cases h
  refine ⟨_, rfl, l, rfl, ⟨_, SqL.of (s02 _ _ el)⟩, for_list (xs := xs.map V.ref) (fun _ σ H' => (∃ v, σ = [some (.ref a), some (.str z), some (.ref l), v]) ∧ H' = H2) ⟨⟨none, rfl⟩, rfl⟩ (fun i σ H' _ ⟨_, eH⟩ => by rw [eH]; exact SqL.of (s02 _ _ el)) ?_ ?_⟩
  · rintro i x σ H' hx ⟨⟨v, rfl⟩, rfl⟩
    obtain ⟨y, hy, rfl⟩ := map_at hx
    obtain ⟨f, _, hf⟩ := fk.get hy
    exact ⟨_, rfl, f, y, rfl, hf.same s02, ⟨_, rfl⟩, rfl⟩
  · rintro σ H' ⟨⟨v, rfl⟩, rfl⟩
    refine ⟨_, rfl, _, rfl, _, rfl, l, _, rfl, .inl ⟨SqL.of (s02 _ _ el), fun u hu => ?_⟩⟩
    have s3 := upd_new (o := .tup (xs.map V.ref)) hu
    have eu : (upd H' u (.tup (xs.map V.ref))) u = some (.tup (xs.map V.ref)) := upd_same
    generalize upd H' u (.tup (xs.map V.ref)) = H3 at s3 eu ⊢
    refine ⟨tsz (by show 2 ≤ 1000000; decide), fun t ht => ?_⟩
    have s4 := upd_new (o := .tup [V.str z, .ref u]) ht
    have et : (upd H3 t (.tup [.str z, .ref u])) t = some (.tup [.str z, .ref u]) := upd_same
    generalize upd H3 t (.tup [.str z, .ref u]) = H4 at s4 et ⊢
    have s04 := (s02.trans s3).trans s4
    refine ⟨_, rfl, l, _, rfl, .inl ⟨SqL.of (s04 _ _ el), fun e he => ?_⟩⟩
    have s5 := upd_new (o := .tup (xs.map V.ref)) he
    have ee : (upd H4 e (.tup (xs.map V.ref))) e = some (.tup (xs.map V.ref)) := upd_same
    generalize upd H4 e (.tup (xs.map V.ref)) = H5 at s5 ee ⊢
    have s05 := s04.trans s5
    have ha5 := s05 _ _ ha
    obtain ⟨ks, k1, k2, k3, k4, k5⟩ := fk.kids
    have ep : (Fo.call z fs).parts = 1 + sumP ks := by rw [Fo.parts, k4]
    have ed : (Fo.call z fs).depth = 1 + maxD ks := by rw [Fo.depth, k5]
    rw [← k1] at ee
    rw [ep, ed] at ri
    exact ⟨a, C, dx, e, _, _, ks, rfl, ha5, I, ee, (fun q hq => (k2 q hq).same s05), by omega, ⟨by rw [← ep]; exact fit.1, by rw [← ed]; exact fit.2⟩, fun H' sb e' => ri H' t u ((SameBut.of s05).trans sb) e' (tup_but ha5 sb (s5 _ _ et)) (tup_but ha5 sb (s5 _ _ (s4 _ _ eu)))⟩

end
end KM
set_option Elab.async false
set_option linter.all false
set_option maxRecDepth 100000
set_option maxHeartbeats 2000000
/-! A method of an instance whose class is one of several that all have it from one base. -/
namespace Sw
open PySem PySem.Spec PyProof.Rows L2 He
/-- the object o is an instance of some class in the set, has no field of the name, and the def keeps its promise with it ahead of the arguments -/
def tMethI (IsC : Addr → Prop) (m : Str) (sp : Sp) (E : XK) (ta : TE) (t : TA) : TE := fun σ H Q => ta σ H fun x H1 => ∃ a C dx fs, x = .ref a ∧ IsC C ∧ H1 a = some (.ins C dx fs) ∧ fs.lookup m = none ∧ t σ H1 fun vs H2 => sp (.ref a :: vs) H2 Q E
section
variable {X : Cx} {CX : CXT} {k : Nat} {f : Addr} {ps : List Str} {sp : Sp} {E : XK} {m : Str} {pos apos : Pos} {e o : Expr} {es : List Expr} {ta : TE} {t : TA} {IsC : Addr → Prop}
theorem pe_methI {pl : Sem Bool} (he : PE X o ta) (F : Cal X.prog X.w X.K X.mg X.base CX k f ps sp) (hc : ∀ C, IsC C → Cls X.K C ∧ Meth X.K C m f) (hr : Room k X.A) (hx : Passes CX X E) (ha : PA X (e :: es) t)
    (hst : starEach (e :: es) X.env = (false, eval e X.env) :: starEach es X.env := by rfl) (hpl : (backTo pos (starEach es X.env)).any (·.1) = false := by rfl)
    (ht : eval (.Call (.Attribute o m apos) (e :: es) [] pos) X.env = (do
      let ov ← eval o X.env
      standAt apos.atName
      let (f, first) ← holding [ov] (getMethod ov m pl)
      callWith pos f first (backTo pos (starEach (e :: es) X.env)) (backToKw pos (keywordEach [] X.env))) := by rfl) :
    PE X (.Call (.Attribute o m apos) (e :: es) [] pos) (tMethI IsC m sp E ta t) := by
  obtain ⟨fd, F, hk, hb⟩ := F
  refine ⟨fun pins s σ H Q I h => ?_⟩
  have first := he.run pins s σ H _ I h
  refine PySem.W.methodCall_KW (pl := pl) (thn first ?_) ht
  rintro u s1 ⟨x, H1, I1, rx, a, C, dx, fs, rfl, ic, ea, l, q⟩
  cases rx
  obtain ⟨c1, c2⟩ := hc C ic
  refine getmeth_ok I1 ea c1 c2 l (PySem.W.callWith_K (first := [.ref a]) (h₀ := X.base) I.ok.mod.kin hk (thn (ha.run pos pins s1 σ H1 _ I1 q) ?_) hst hpl)
  rintro us s2 ⟨vs, H2, I2, r, q2⟩
  exact ⟨I2.kIn, run_fn (us := .ref a :: us) (vs := .ref a :: vs) F hr hb .nil hx I2 (.cons rfl r) (by rw [List.append_nil]; exact q2)⟩
theorem pe_methI0 {pl : Sem Bool} (he : PE X o ta) (F : Cal X.prog X.w X.K X.mg X.base CX k f ps sp) (hc : ∀ C, IsC C → Cls X.K C ∧ Meth X.K C m f) (hr : Room k X.A) (hx : Passes CX X E)
    (ht : eval (.Call (.Attribute o m apos) [] [] pos) X.env = (do
      let ov ← eval o X.env
      standAt apos.atName
      let (f, first) ← holding [ov] (getMethod ov m pl)
      callWith pos f first (backTo pos (starEach [] X.env)) (backToKw pos (keywordEach [] X.env))) := by rfl) :
    PE X (.Call (.Attribute o m apos) [] [] pos) (tMethI IsC m sp E ta tNil) := by
  obtain ⟨fd, F, hk, hb⟩ := F
  refine ⟨fun pins s σ H Q I h => ?_⟩
  have first := he.run pins s σ H _ I h
  refine PySem.W.methodCall_KW (pl := pl) (thn first ?_) ht
  rintro u s1 ⟨x, H1, I1, rx, a, C, dx, fs, rfl, ic, ea, l, q⟩
  cases rx
  obtain ⟨c1, c2⟩ := hc C ic
  exact getmeth_ok I1 ea c1 c2 l (PySem.W.callWith_K0 (first := [.ref a]) I1.kIn hk (run_fn (us := [.ref a]) (vs := [.ref a]) F hr hb .nil hx I1 (.cons rfl .nil) q))
end
end Sw
set_option Elab.async false
set_option linter.all false
set_option maxRecDepth 100000
set_option maxHeartbeats 2000000
/-! One lemma for every loop of a comprehension: of one source, of the outer or the inner of two, of a dict's. -/
namespace Sw
open PySem PySem.Spec PyProof.Rows L2 He
theorem loop_it {J : It} {n : Nat} {G : Hp → Prop} {Y : Nat → Hp → V → Hp → Prop} (w : Walk J n G Y) {Done : Hp → Prop} {Turn : (Hp → Prop) → V → Hp → Prop} {H0 : Hp} (Pv : Nat → Hp → Prop) (h0 : Pv 0 H0) (hG : ∀ i H, i ≤ n → Pv i H → G H)
    (hs : ∀ i x H H', i < n → Pv i H → Y i H x H' → Turn (Pv (i + 1)) x H') (hd : ∀ H, Pv n H → Done H) :
    ∃ W : Nat → Nat → Hp → Prop, (∃ m, W 0 m H0) ∧ ∀ i m H, W i m H → (J.stop i H ∧ Done H) ∨ (J.go i H ∧ ∃ Nx : Hp → Prop, (∀ H', Nx H' → ∃ m', m' < m ∧ W (i + 1) m' H') ∧ ∀ x H', J.yld i H x H' → Turn Nx x H') := by
  refine ⟨fun i m H => i ≤ n ∧ Pv i H ∧ m + i = n, ⟨n, Nat.zero_le _, h0, rfl⟩, fun i m H ⟨hi, p, hm⟩ => ?_⟩
  have g := hG i H hi p
  rcases Nat.lt_or_ge i n with hlt | hge
  · exact .inr ⟨w.goes i H hlt g, Pv (i + 1), fun H' p' => ⟨m - 1, by omega, hlt, p', by omega⟩, fun x H' y => hs i x H H' hlt p (w.yields i H x H' hlt g y)⟩
  · obtain rfl : i = n := by omega
    exact .inl ⟨w.stops H g, hd H p⟩
/-- i & (2 ** k - 1) -/
def rAndM : R2 := fun x y H Q => ∃ (i : Int) (k : Nat), x = .int i ∧ y = .int (2 ^ k - 1) ∧ Q (.int (i % 2 ^ k)) H
theorem op_andN {X : Cx} : OpR X (binaryOp .BitAnd) rAndM := op_andM
end Sw
set_option Elab.async false
set_option linter.all false
set_option maxRecDepth 100000
set_option maxHeartbeats 2000000
/-! x = {k: v for .. in ..}: the name is stored while the comprehension's own frame still stands. -/
namespace Sw
open PySem PySem.Spec PyProof.Rows L2 He
section
variable {X : Cx} {kx vx tg iter : Expr} {ifs : List Expr} {scope : Scope} {own : List (Str × Nat)} {pos py spos : Pos} {i : Nat} {y : Str} {wi : TI} {g : TG} {tt : TT} {tk tv : TE}
theorem swap_dc {gs : List Comprehension} {l : Nat} {env : Env} (fn : env.scope.kind = .function) (loc : env.scope.names.lookup y = some .local) (row : (py.line == pos.line) = true)
    (other : (scope.names.any fun (n, k) => n == y && (k == .local || k == .cell)) = false) : swapsWith (.DictComp kx vx gs scope pos) (some (.Name y py)) l env = pure true := by
  have e1 : env.blockKind = .function := by simp only [Env.blockKind, fn]; decide
  have e2 : env.kindOf y = some .local := loc
  unfold swapsWith
  simp only [e1, e2, other, Expr.pos, row]
  rfl
theorem ps_setDc (calm : X.calm = true) (nod : X.N.Nodup) (at_ : X.N[i]? = some y) (loc : X.env.scope.names.lookup y = some .local) (sw : swapsWith (.DictComp kx vx [⟨tg, iter, ifs, 0⟩] scope pos) (some (.Name y py)) spos.line X.env = pure true)
    (src : PI X tg iter wi) (blk : BlkOk X.N X.env.scope scope own)
    (tgt : ∀ (s : Shared) (H : Hp) (C : Addr) (cl : List (Str × Addr)) (fp : List Addr), PG (X.blk s H scope (compEnvC scope cl C X.env) fp) tg g) (tests : ∀ (s : Shared) (H : Hp) (C : Addr) (cl : List (Str × Addr)) (fp : List Addr), PTs (X.blk s H scope (compEnvC scope cl C X.env) fp) ifs tt)
    (key : ∀ (s : Shared) (H : Hp) (C : Addr) (cl : List (Str × Addr)) (fp : List Addr), PE (X.blk s H scope (compEnvC scope cl C X.env) fp) kx tk) (val : ∀ (s : Shared) (H : Hp) (C : Addr) (cl : List (Str × Addr)) (fp : List Addr), PE (X.blk s H scope (compEnvC scope cl C X.env) fp) vx tv)
    (folds : ∀ x, foldedSetIterable iter X.env x = pure x := by intro _; rfl) : PS X (.Assign [.Name y py] (.DictComp kx vx [⟨tg, iter, ifs, 0⟩] scope pos) spos) (tAsg (tDc wi g tt tk tv (own.map (·.2))) (gName i)) := by
  refine ⟨fun pins s σ H D I h => ?_⟩
  have whole : wpAny (model X.prog X.w) X.A (comprehension (.DictComp kx vx [⟨tg, iter, ifs, 0⟩] scope pos) scope X.env (firstIterPos [⟨tg, iter, ifs, 0⟩] pos) newDict false (eval iter X.env) (some (assign (.Name y py) X.env))) (fun _ s' => SP X pins D .next s') X.xe s := by
    refine dc_core (Q := fun x H1 => D.nx (σ.set i (some x)) H1) calm nod I src blk tgt tests key val folds h fun R C s1 m H1 J q ns fp => ?_
    obtain ⟨p0, p1, p2, p3, p4, p5⟩ := fp
    refine wpAny_assign_Name (store_ok2 (v := V.ref R) J nod at_ (.inl loc) rfl (fun s2 J2 ⟨a, sb, wh⟩ => ?_) (.inr loc))
    refine ⟨m, ns.sameBut sb ?_, fun h3 sb3 => ⟨_, H1, J2.turned (t' := s2.toks) (fun b o hb e => (sb3.2 b hb).trans e) p0 p1 p3 p4 p5, q⟩⟩
    rcases wh with z | z
    · rw [z]; exact p1
    · exact fun e => p4 y a z e.symm
  rw [exec_Assign_Name_used _ _ _ _ sw]
  exact wpAny_bind (wpAny_standAt (wpAny_bind (wpAny_bind (thn whole fun _ s' done => wpAny_pure (wpAny_pure done)))))
end
end Sw
set_option Elab.async false
set_option linter.all false
set_option maxRecDepth 100000
set_option maxHeartbeats 2000000
/-! Readings, one layer at a time: what the walk_at "rd" of my texts is made of. -/
namespace Sw
open PySem PySem.Spec PyProof.Rows L2 He
section
variable {K : PySem.W.Frag} {σ : L2.St} {H H' : Hp} {Q : VK} {D : Ends} {ta tb tc te : TE} {tt tu : TT} {t1 t2 : TS} {v x y : V} {i j : Int} {es : TA}
/-- what follows, not yet worked out -/
def Kt (Q : VK) (v : V) (H : Hp) : Prop := Q v H
theorem rd_kt (q : Q v H) : Kt Q v H := q
theorem Same.use {b : Addr} {o : HO} (s : Same H H') (h : H b = some o) : H' b = some o := s b o h
theorem rd_var {n : Nat} (h : σ[n]? = some (some v)) (q : Q v H) : tVar n σ H Q := ⟨v, h, q⟩
theorem rd_c (q : Q v H) : tC v σ H Q := q
theorem rd_op {r : R2} (q : ta σ H fun x H1 => tb σ H1 fun y H2 => r x y H2 Q) : tOp r ta tb σ H Q := q
theorem rd_un {r : V → Hp → VK → Prop} (q : ta σ H fun x H1 => r x H1 Q) : tUn r ta σ H Q := q
theorem rd_I0 {g : Int → Int → V} (q : Q (g i j) H) : rI0 g (.int i) (.int j) H Q := ⟨i, j, rfl, rfl, q⟩
theorem rd_I {C : Int → Int → Prop} {g : Int → Int → V} (c : C i j) (q : Q (g i j) H) : rI C g (.int i) (.int j) H Q := ⟨i, j, rfl, rfl, c, q⟩
theorem rd_U {g : Int → V} (q : Q (g i) H) : rU g (.int i) H Q := ⟨i, rfl, q⟩
theorem rd_eq (s : scal x y = true) (q : Q (.bl (decide (x = y))) H) : rEq x y H Q := ⟨s, q⟩
theorem rd_ne (s : scal x y = true) (q : Q (.bl (!decide (x = y))) H) : rNe x y H Q := ⟨s, q⟩
theorem rd_test {Q : Bool → Hp → Prop} (q : ta σ H fun x H' => ∃ k, x = .bl k ∧ Q k H') : tTest ta σ H Q := q
theorem rd_B {Q : Bool → Hp → Prop} (q : ta σ H fun x H' => ∃ k, x = .bl k ∧ Q k H') : tB ta σ H Q := q
theorem rd_bl {k : Bool} {R : Bool → Prop} (q : R k) : ∃ k', V.bl k = .bl k' ∧ R k' := ⟨k, rfl, q⟩
theorem rd_and {Q : Bool → Hp → Prop} (q : tt σ H fun c H1 => if c = true then tu σ H1 Q else Q false H1) : tAnd tt tu σ H Q := q
theorem rd_or {Q : Bool → Hp → Prop} (q : tt σ H fun c H1 => if c = true then Q true H1 else tu σ H1 Q) : tOr tt tu σ H Q := q
theorem rd_not {Q : Bool → Hp → Prop} (q : tt σ H fun c H1 => Q (!c) H1) : tNot tt σ H Q := q
theorem rd_andV (q : ta σ H fun x H1 => ∃ c, x = .bl c ∧ if c = true then tb σ H1 Q else Q (.bl false) H1) : tAndV ta tb σ H Q := q
theorem rd_orV (q : ta σ H fun x H1 => ∃ c, x = .bl c ∧ if c = true then Q (.bl true) H1 else tb σ H1 Q) : tOrV ta tb σ H Q := q
theorem rd_notV (q : ta σ H fun x H1 => ∃ c, x = .bl c ∧ Q (.bl (!c)) H1) : tNotV ta σ H Q := q
theorem rd_if (q : tt σ H fun c H1 => if c = true then ta σ H1 Q else tb σ H1 Q) : tIf tt ta tb σ H Q := q
theorem rd_seq {nx bk ct : L2.St → Hp → Prop} {rt : VK} (q : t1 { nx := t2 { nx := nx, rt := rt, bk := bk, ct := ct }, rt := rt, bk := bk, ct := ct } σ H) : tSeq t1 t2 { nx := nx, rt := rt, bk := bk, ct := ct } σ H := q
theorem rd_next {nx bk ct : L2.St → Hp → Prop} {rt : VK} (q : nx σ H) : tNext { nx := nx, rt := rt, bk := bk, ct := ct } σ H := q
theorem rd_brk {nx bk ct : L2.St → Hp → Prop} {rt : VK} (q : bk σ H) : tBreak { nx := nx, rt := rt, bk := bk, ct := ct } σ H := q
theorem rd_cont {nx bk ct : L2.St → Hp → Prop} {rt : VK} (q : ct σ H) : tCont { nx := nx, rt := rt, bk := bk, ct := ct } σ H := q
theorem rd_drop {nx bk ct : L2.St → Hp → Prop} {rt : VK} (q : te σ H fun _ H1 => nx σ H1) : tDrop te { nx := nx, rt := rt, bk := bk, ct := ct } σ H := q
theorem rd_ret {nx bk ct : L2.St → Hp → Prop} {rt : VK} (q : te σ H rt) : tRet te { nx := nx, rt := rt, bk := bk, ct := ct } σ H := q
theorem rd_retN {nx bk ct : L2.St → Hp → Prop} {rt : VK} (q : rt .non H) : tRetN { nx := nx, rt := rt, bk := bk, ct := ct } σ H := q
theorem rd_ifS (q : tt σ H fun b H1 => if b = true then t1 D σ H1 else t2 D σ H1) : tIfS tt t1 t2 D σ H := q
theorem rd_asg {g : TG} {nx bk ct : L2.St → Hp → Prop} {rt : VK} (q : te σ H fun x H1 => g x σ H1 nx) : tAsg te g { nx := nx, rt := rt, bk := bk, ct := ct } σ H := q
theorem rd_gName {n : Nat} {R : L2.St → Hp → Prop} (q : R (σ.set n (some v)) H) : gName n v σ H R := q
theorem rd_nil {R : List V → Hp → Prop} (q : R [] H) : tNil σ H R := q
theorem rd_cons {R : List V → Hp → Prop} (q : ta σ H fun x H1 => es σ H1 fun xs H2 => R (x :: xs) H2) : tCons ta es σ H R := q
theorem rd_call {sp : Sp} {dvs : List V} {E : XK} (q : es σ H fun vs H1 => sp (vs ++ dvs) H1 Q E) : tCall sp dvs E es σ H Q := q
theorem rd_make {C : Addr} {sp : Sp} {dvs : List V} {E : XK} (q : es σ H fun vs H1 => ∀ x dx, H1 x = none → H1 dx = none → dx ≠ x → sp (.ref x :: (vs ++ dvs)) (upd (upd H1 dx (.own x)) x (.ins C dx [])) (fun v H2 => v = .non ∧ Kt Q (.ref x) H2) E) : tMake C sp dvs E es σ H Q := q
theorem rd_CB {r : List V → Hp → VK → Prop} (q : es σ H fun vs H1 => r vs H1 Q) : tCB r es σ H Q := q
theorem rd_ixL {p : Addr} {xs : List V} (h : SqL K H p xs) (a : atI xs i = some v) (q : Q v H) : rIxL K (.ref p) (.int i) H Q := ⟨p, xs, i, v, rfl, rfl, h, a, q⟩
theorem rd_ixT {p : Addr} {xs : List V} (h : SqT K H p xs) (a : atI xs i = some v) (q : Q v H) : rIxT K (.ref p) (.int i) H Q := ⟨p, xs, i, v, rfl, rfl, h, a, q⟩
/-- a new object, its heap a letter -/
theorem rd_new {o : HO} (k : ∀ p H', H p = none → Same H H' → H' p = some o → Q (.ref p) H') : ∀ p, H p = none → Kt Q (.ref p) (upd H p o) :=
  fun p hp => k p _ hp (fun b u e => by rw [upd_ne (ne_of_none e hp)]; exact e) upd_same
theorem rd_tup (q : es σ H fun xs H1 => xs.length ≤ sizeLine ∧ ∀ p, H1 p = none → Kt Q (.ref p) (upd H1 p (.tup xs))) : tTup es σ H Q := q
theorem rd_lst (q : es σ H fun xs H1 => xs.length ≤ sizeLine ∧ ∀ p, H1 p = none → Kt Q (.ref p) (upd H1 p (.lst xs))) : tLst es σ H Q := q
theorem rd_dget (q : ta σ H fun x H1 => tb σ H1 fun y H2 => ∃ a v, x = .ref a ∧ DGet H2 a y (some v) ∧ Q v H2) : tDGet ta tb σ H Q := q
theorem rd_dget' {a : Addr} {kvs : List (Key × V)} {k : Key} {y : V} (e : H a = some (.dK kvs)) (hy : y = kV k) (hv : valV kvs k = some v) (q : Q v H) : ∃ a' v, V.ref a = .ref a' ∧ DGet H a' y (some v) ∧ Q v H := ⟨a, v, rfl, by subst hy; rw [← hv]; exact .inl ⟨kvs, k, .inl e, rfl, rfl⟩, q⟩
/-- int(n), n an int -/
theorem rd_for {wi : TI} {g : TG} (q : wi σ H fun J H1 => ∃ W : Nat → Nat → L2.St → Hp → Prop, (∃ m, W 0 m σ H1) ∧ ∀ i m σ H, W i m σ H →
  (J.stop i H ∧ D.nx σ H) ∨ (J.go i H ∧ ∃ N : L2.St → Hp → Prop, (∀ σ' H', N σ' H' → ∃ m', m' < m ∧ W (i + 1) m' σ' H') ∧ ∀ x H', J.yld i H x H' → g x σ H' fun σ2 H2 => t1 { D with nx := N, ct := N, bk := D.nx } σ2 H2)) : tFor wi g t1 D σ H := q
end
end Sw
namespace Sw
open PySem PySem.Spec PyProof.Rows L2 He
section
variable {K : PySem.W.Frag} {H : Hp}
theorem rd_int1 {n : Int} {R : Int → Prop} {B : Prop} (q : R n) : (∃ i, [V.int n] = [V.int i] ∧ R i) ∨ B := .inl ⟨n, rfl, q⟩
theorem rd_1I {n : Int} {R : Int → Prop} (q : R n) : ∃ i, [V.int n] = [V.int i] ∧ R i := ⟨n, rfl, q⟩
theorem rd_2I {a b : Int} {R : Int → Int → Prop} (q : R a b) : ∃ i j, [V.int a, V.int b] = [V.int i, V.int j] ∧ R i j := ⟨a, b, rfl, q⟩
theorem rd_len {p : Addr} {xs : List V} {R : Nat → Prop} (h : SqL K H p xs ∨ SqT K H p xs) (q : R xs.length) : ∃ p' ys, [V.ref p] = [V.ref p'] ∧ (SqL K H p' ys ∨ SqT K H p' ys) ∧ R ys.length := ⟨p, xs, rfl, h, q⟩
theorem rd_iv {n : Int} {R : Int → Prop} (q : R n) : ∃ i, V.int n = V.int i ∧ R i := ⟨n, rfl, q⟩
theorem rd_sz {n : Nat} {A : Prop} (h : n ≤ 1000000) (q : A) : n ≤ sizeLine ∧ A := ⟨by rw [sizeLine_eq]; omega, q⟩
theorem rd_fix {z w : V} {σ : L2.St} {n : Nat} (h : σ[n]? = some (some z)) (e : z = w) : σ[n]? = some (some w) := by rw [h, e]
end
end Sw
namespace Sw
open PySem PySem.Spec PyProof.Rows L2 He
section
variable {K : PySem.W.Frag} {σ : L2.St} {H H' : Hp} {Q : VK} {D : Ends} {ta tb tc te : TE} {tt tu : TT} {t1 t2 : TS} {v x y : V} {i j : Int} {es : TA}
theorem SameBut.use {b st : Addr} {o : HO} (s : ∀ b o, b ≠ st → H b = some o → H' b = some o) (n : b ≠ st) (h : H b = some o) : H' b = some o := s b o n h
theorem rd_consV {n : Nat} {R : List V → Hp → Prop} (h : σ[n]? = some (some v)) (q : es σ H fun xs H2 => R (v :: xs) H2) : tCons (tVar n) es σ H R := ⟨v, h, q⟩
theorem rd_consC {R : List V → Hp → Prop} (q : es σ H fun xs H2 => R (v :: xs) H2) : tCons (tC v) es σ H R := q
theorem rd_sl {r : V → Option Int → Option Int → Hp → VK → Prop} {tl th : TO} (q : te σ H fun x H1 => tl σ H1 fun l H2 => th σ H2 fun u H3 => r x l u H3 Q) : tSl r te tl th σ H Q := q
theorem rd_nopart {R : Option Int → Hp → Prop} (q : R none H) : tNoPart σ H R := q
theorem rd_part {R : Option Int → Hp → Prop} (q : te σ H fun x H1 => ∃ i, x = .int i ∧ R (some i) H1) : tPart te σ H R := q
theorem rd_slL {a : Addr} {xs : List V} {lo hi : Option Int} (h : SqL K H a xs) (q : ∀ p, H p = none → Kt Q (.ref p) (upd H p (.lst (cutV xs lo hi)))) : rSlL K (.ref a) lo hi H Q := ⟨a, xs, rfl, h, q⟩
theorem rd_cat {a b : Addr} {xs ys : List V} (h1 : H a = some (.lst xs)) (h2 : H b = some (.lst ys)) (n : xs.length + ys.length ≤ 1000000) (q : ∀ p, H p = none → Kt Q (.ref p) (upd H p (.lst (xs ++ ys)))) : rCat (.ref a) (.ref b) H Q := ⟨a, b, xs, ys, rfl, rfl, h1, h2, by rw [sizeLine_eq]; omega, q⟩
theorem rd_rng1 {R : It → Hp → Prop} (q : es σ H fun vs H1 => ∃ j : Int, vs = [.int j] ∧ -(2 ^ 62) ≤ j ∧ j < 2 ^ 62 ∧ R (Itr 0 j.toNat) H1) : iRng1 es σ H R := q
theorem rd_rng1' {n : Int} {R : It → Hp → Prop} (b : -(2 ^ 62) ≤ n ∧ n < 2 ^ 62) (q : R (Itr 0 n.toNat) H) : ∃ j : Int, [V.int n] = [.int j] ∧ -(2 ^ 62) ≤ j ∧ j < 2 ^ 62 ∧ R (Itr 0 j.toNat) H := ⟨n, rfl, b.1, b.2, q⟩
theorem rd_ilist {R : It → Hp → Prop} (q : te σ H fun x H1 => ∃ a, x = .ref a ∧ (∃ xs, SqL K H1 a xs) ∧ R (Itl K a) H1) : iList K te σ H R := q
theorem rd_ilist' {a : Addr} {xs : List V} {R : Addr → Prop} (h : SqL K H a xs) (q : R a) : ∃ a', V.ref a = .ref a' ∧ (∃ xs, SqL K H a' xs) ∧ R a' := ⟨a, rfl, ⟨xs, h⟩, q⟩
theorem rd_itup {R : It → Hp → Prop} (q : te σ H fun x H1 => ∃ a, x = .ref a ∧ (∃ xs, SqT K H1 a xs) ∧ R (Itt K a) H1) : iTup K te σ H R := q
theorem rd_itup' {a : Addr} {xs : List V} {R : Addr → Prop} (h : SqT K H a xs) (q : R a) : ∃ a', V.ref a = .ref a' ∧ (∃ xs, SqT K H a' xs) ∧ R a' := ⟨a, rfl, ⟨xs, h⟩, q⟩
theorem rd_lc {wi : TI} {g : TG} {vs : List Nat} (q : wi σ H fun J H1 => ∀ D, H1 D = none → ∃ W : Nat → Nat → Hp → Prop, (∃ m, W 0 m (upd H1 D (.lst []))) ∧ ∀ i m H, W i m H →
  (J.stop i H ∧ Kt Q (.ref D) H) ∨ (J.go i H ∧ ∃ Nx : Hp → Prop, (∀ H', Nx H' → ∃ m', m' < m ∧ W (i + 1) m' H') ∧ ∀ x H', J.yld i H x H' → g x (wipe σ vs) H' fun σ2 H2 => wipe σ2 vs = wipe σ vs ∧ tt σ2 H2 fun b H3 =>
    if b = true then te σ2 H3 fun y H4 => ∃ acc, H4 D = some (.lst acc) ∧ acc.length < sizeLine ∧ Nx (upd H4 D (.lst (acc ++ [y]))) else Nx H3)) : tLc wi g tt te vs σ H Q := q
theorem rd_yes {R : Bool → Hp → Prop} (q : R true H) : tYes σ H R := q
theorem rd_bm {T : String} {r : V → List V → Hp → VK → Prop} (q : ta σ H fun x H1 => tyV K T x H1 ∧ es σ H1 fun xs H2 => r x xs H2 Q) : tBM K T r ta es σ H Q := q
theorem rd_ty {p : Addr} {xs : List V} {A : Prop} (h : H p = some (.lst xs)) (q : A) : tyV K "list" (.ref p) H ∧ A := ⟨.inl ⟨rfl, _, .inl (.inl h)⟩, q⟩
theorem rd_append {l : Addr} {xs : List V} {y : V} (h : H l = some (.lst xs)) (n : xs.length < 1000000) (q : Q .non (upd H l (.lst (xs ++ [y])))) : rAppend (.ref l) [y] H Q := ⟨l, xs, y, rfl, rfl, h, by rw [sizeLine_eq]; omega, q⟩
end
end Sw
namespace Sw
open PySem PySem.Spec PyProof.Rows L2 He
section
variable {σ : L2.St} {H : Hp} {t1 t2 : TS}
/-- what follows, by a name -/
theorem rd_seqN {nx bk ct : L2.St → Hp → Prop} {rt : VK} (q : ∀ N, N = t2 { nx := nx, rt := rt, bk := bk, ct := ct } → t1 { nx := N, rt := rt, bk := bk, ct := ct } σ H) : tSeq t1 t2 { nx := nx, rt := rt, bk := bk, ct := ct } σ H := q _ rfl
theorem rd_unN {N N' : L2.St → Hp → Prop} (h : N = N') (q : N' σ H) : N σ H := by rw [h]; exact q
end
end Sw
namespace Sw
open PySem PySem.Spec PyProof.Rows L2 He
theorem rd_ite1 {A B : Prop} (q : A) : if true = true then A else B := by rw [if_pos rfl]; exact q
theorem rd_ite0 {A B : Prop} (q : B) : if false = true then A else B := by rw [if_neg (by decide)]; exact q
theorem nth_ne {zs : List Str} (nd : zs.Nodup) {i j : Nat} {a b : Str} (h : i < j) (hi : zs[i]? = some a) (hj : zs[j]? = some b) : a ≠ b := fun e => by
  obtain ⟨hi', ei⟩ := List.getElem?_eq_some_iff.mp hi
  obtain ⟨hj', ej⟩ := List.getElem?_eq_some_iff.mp hj
  exact (List.pairwise_iff_getElem.mp nd i j hi' hj' h) (by rw [ei, ej, e])
theorem list10 {zs : List Str} (h : zs.length = 10) : ∃ a b c d e f g i j k, zs = [a, b, c, d, e, f, g, i, j, k] := by
  match zs, h with
  | [a, b, c, d, e, f, g, i, j, k], _ => exact ⟨_, _, _, _, _, _, _, _, _, _, rfl⟩
end Sw
namespace Sw
theorem rd_b62 {n : Int} {A : Prop} (h : -(2 ^ 62) ≤ n ∧ n < 2 ^ 62) (q : A) : -(2 ^ 62) ≤ n ∧ n < 2 ^ 62 ∧ A := ⟨h.1, h.2, q⟩
end Sw
namespace Sw
open PySem PySem.Spec PyProof.Rows L2 He
theorem rd_dput {σ : L2.St} {H : Hp} {td ty tv : TE} {nx bk ct : L2.St → Hp → Prop} {rt : VK} (q : tv σ H fun v H1 => td σ H1 fun x H2 => ty σ H2 fun y H3 => ∃ a H4, x = .ref a ∧ DPut H3 a y v H4 ∧ nx σ H4) : sDPut td ty tv { nx := nx, rt := rt, bk := bk, ct := ct } σ H := q
end Sw
namespace Sw
theorem rd_iteN1 {A B : Prop} (q : B) : if (!true) = true then A else B := by rw [if_neg (by decide)]; exact q
theorem rd_iteN0 {A B : Prop} (q : A) : if (!false) = true then A else B := by rw [if_pos (by decide)]; exact q
end Sw
namespace Sw
open PySem PySem.Spec PyProof.Rows L2 He
theorem rd_methI {IsC : Addr → Prop} {m : Str} {sp : Sp} {E : XK} {ta : TE} {es : TA} {σ : L2.St} {H : Hp} {Q : VK} (q : ta σ H fun x H1 => ∃ a C dx fs, x = .ref a ∧ IsC C ∧ H1 a = some (.ins C dx fs) ∧ fs.lookup m = none ∧ es σ H1 fun vs H2 => sp (.ref a :: vs) H2 Q E) : tMethI IsC m sp E ta es σ H Q := q
end Sw
namespace Sw
theorem rd_iteT {p : Prop} [Decidable p] {A B : Prop} (h : p) (q : A) : if decide p = true then A else B := by rw [if_pos (decide_eq_true h)]; exact q
theorem rd_iteF {p : Prop} [Decidable p] {A B : Prop} (h : ¬ p) (q : B) : if decide p = true then A else B := by rw [if_neg (by rw [decide_eq_false h]; decide)]; exact q
theorem rd_iteNT {p : Prop} [Decidable p] {A B : Prop} (h : p) (q : B) : if (!decide p) = true then A else B := by rw [if_neg (by rw [decide_eq_true h]; decide)]; exact q
theorem rd_iteNF {p : Prop} [Decidable p] {A B : Prop} (h : ¬ p) (q : A) : if (!decide p) = true then A else B := by rw [if_pos (by rw [decide_eq_false h]; rfl)]; exact q
end Sw
namespace Sw
open PySem PySem.Spec PyProof.Rows L2 He
theorem rd_lclist {K : PySem.W.Frag} {a : Addr} {xs : List V} {g : TG} {tt : TT} {te : TE} {vs : List Nat} {σ : L2.St} {H1 : Hp} {Q : VK} (Pv : Addr → Nat → Hp → Prop) (h : ∀ D, H1 D = none → Pv D 0 (upd H1 D (.lst [])) ∧ (∀ i H, i ≤ xs.length → Pv D i H → SqL K H a xs) ∧
    (∀ i x H, xs[i]? = some x → Pv D i H → g x (wipe σ vs) H fun σ2 H2 => wipe σ2 vs = wipe σ vs ∧ tt σ2 H2 fun b H3 =>
      if b = true then te σ2 H3 fun y H4 => ∃ acc, H4 D = some (.lst acc) ∧ acc.length < sizeLine ∧ Pv D (i + 1) (upd H4 D (.lst (acc ++ [y]))) else Pv D (i + 1) H3) ∧ (∀ H, Pv D xs.length H → Q (.ref D) H)) :
    ∀ D, H1 D = none → ∃ W : Nat → Nat → Hp → Prop, (∃ m, W 0 m (upd H1 D (.lst []))) ∧ ∀ i m H, W i m H →
      ((Itl K a).stop i H ∧ Kt Q (.ref D) H) ∨ ((Itl K a).go i H ∧ ∃ Nx : Hp → Prop, (∀ H', Nx H' → ∃ m', m' < m ∧ W (i + 1) m' H') ∧ ∀ x H', (Itl K a).yld i H x H' → g x (wipe σ vs) H' fun σ2 H2 => wipe σ2 vs = wipe σ vs ∧ tt σ2 H2 fun b H3 =>
        if b = true then te σ2 H3 fun y H4 => ∃ acc, H4 D = some (.lst acc) ∧ acc.length < sizeLine ∧ Nx (upd H4 D (.lst (acc ++ [y]))) else Nx H3) := fun D hD =>
  lc_list (Pv D) (h D hD).1 (h D hD).2.1 (h D hD).2.2.1 (h D hD).2.2.2
end Sw
namespace Sw
open PySem PySem.Spec PyProof.Rows L2 He
theorem rd_range {lo : Int} {n : Nat} {g : TG} {tt : TT} {te : TE} {vs : List Nat} {σ : L2.St} {H1 : Hp} {Q : VK} (Pv : Addr → Nat → Hp → Prop) (h : ∀ D, H1 D = none → Pv D 0 (upd H1 D (.lst [])) ∧
    (∀ i H, i < n → Pv D i H → g (.int (lo + i)) (wipe σ vs) H fun σ2 H2 => wipe σ2 vs = wipe σ vs ∧ tt σ2 H2 fun b H3 =>
      if b = true then te σ2 H3 fun y H4 => ∃ acc, H4 D = some (.lst acc) ∧ acc.length < sizeLine ∧ Pv D (i + 1) (upd H4 D (.lst (acc ++ [y]))) else Pv D (i + 1) H3) ∧ (∀ H, Pv D n H → Q (.ref D) H)) :
    ∀ D, H1 D = none → ∃ W : Nat → Nat → Hp → Prop, (∃ m, W 0 m (upd H1 D (.lst []))) ∧ ∀ i m H, W i m H →
      ((Itr lo n).stop i H ∧ Kt Q (.ref D) H) ∨ ((Itr lo n).go i H ∧ ∃ Nx : Hp → Prop, (∀ H', Nx H' → ∃ m', m' < m ∧ W (i + 1) m' H') ∧ ∀ x H', (Itr lo n).yld i H x H' → g x (wipe σ vs) H' fun σ2 H2 => wipe σ2 vs = wipe σ vs ∧ tt σ2 H2 fun b H3 =>
        if b = true then te σ2 H3 fun y H4 => ∃ acc, H4 D = some (.lst acc) ∧ acc.length < sizeLine ∧ Nx (upd H4 D (.lst (acc ++ [y]))) else Nx H3) := fun D hD =>
  lc_range (Pv D) (h D hD).1 (h D hD).2.1 (h D hD).2.2
end Sw
namespace Sw
open PySem PySem.Spec PyProof.Rows L2 He
theorem rd_lenQ {K : PySem.W.Frag} {H : Hp} {Q : VK} {p : Addr} {xs : List V} (h : SqL K H p xs ∨ SqT K H p xs) (q : Q (.int xs.length) H) : ∃ p' ys, [V.ref p] = [V.ref p'] ∧ (SqL K H p' ys ∨ SqT K H p' ys) ∧ Q (.int ys.length) H := ⟨p, xs, rfl, h, q⟩
end Sw
namespace Sw
open PySem PySem.Spec PyProof.Rows L2 He
/-! calls of built-ins by named readings -/
def rLenK (K : PySem.W.Frag) : List V → Hp → VK → Prop := fun xs H Q => ∃ p ys, xs = [.ref p] ∧ (SqL K H p ys ∨ SqT K H p ys) ∧ Q (.int ys.length) H
theorem call_lenK {X : Cx} : CallR X (.builtin "len") (rLenK X.K) := call_len_seq
theorem rd_lenK {K : PySem.W.Frag} {H : Hp} {Q : VK} {p : Addr} {xs : List V} (h : SqL K H p xs ∨ SqT K H p xs) (q : Q (.int xs.length) H) : rLenK K [.ref p] H Q := ⟨p, xs, rfl, h, q⟩
def rDictK : List V → Hp → VK → Prop := fun xs H Q => ∃ (a : Addr) (kvs : List (Key × V)), xs = [.ref a] ∧ Rd H a (.dK kvs) ∧ ∀ p, H p = none → Kt Q (.ref p) (upd H p (.dK kvs))
theorem call_dictK {X : Cx} : CallR X (.type "dict") rDictK := call_dictD
theorem rd_dictK {H : Hp} {Q : VK} {a : Addr} {kvs : List (Key × V)} (h : H a = some (.dK kvs)) (q : ∀ p, H p = none → Kt Q (.ref p) (upd H p (.dK kvs))) : rDictK [.ref a] H Q := ⟨a, kvs, rfl, .inl h, q⟩
theorem rd_cut {t u : TS} {nx bk ct : L2.St → Hp → Prop} {rt : VK} {σ : L2.St} {H : Hp} (Mid : L2.St → Hp → Prop) (h : t { nx := Mid, rt := rt, bk := bk, ct := ct } σ H) (q : ∀ σ' H', Mid σ' H' → u { nx := nx, rt := rt, bk := bk, ct := ct } σ' H') : C8.tCut t u { nx := nx, rt := rt, bk := bk, ct := ct } σ H := ⟨Mid, h, q⟩
end Sw
set_option Elab.async false
set_option linter.all false
set_option maxRecDepth 100000
set_option maxHeartbeats 2000000
namespace Sw
open PySem PySem.Spec PyProof.Rows L2 He
/-! ### a def called with a star -/
def tCallS (K : PySem.W.Frag) (sp : Sp) (E : XK) (te : TE) : TE := fun σ H Q => te σ H fun y H1 => ∃ a xs, y = V.ref a ∧ (SqT K H1 a xs ∨ SqL K H1 a xs) ∧ sp (xs ++ []) H1 Q E
theorem pe_callSC {X : Cx} {CX : CXT} {k : Nat} {f : Addr} {ps : List Str} {sp : Sp} {E : XK} {x : Str} {p sp_ pos : Pos} {e : Expr} {te : TE} (F : Cal X.prog X.w X.K X.mg X.base CX k f ps sp) (hr : Room k X.A) (hg : Gl X x) (hm : X.mg x = some (.ref f)) (hx : Passes CX X E)
    (ha : PE X e te) (hdb : (x == ("__debug__" : Str)) = false := by decide) (he : starEach [.Starred e sp_] X.env = [(true, eval e X.env)] := by rfl) :
    PE X (.Call (.Name x p) [.Starred e sp_] [] pos) (tCallS X.K sp E te) := by
  obtain ⟨fd, F, hk, hb⟩ := F
  exact StX.pe_callS1 (F.raw hb .nil) hr hk hg hm hx ha hdb he
/-- int(x) of an int or a bool -/
abbrev rInt1 : List V → Hp → VK → Prop := fun xs H Q => (∃ i, xs = [.int i] ∧ Q (.int i) H) ∨ ∃ k, xs = [.bl k] ∧ Q (.int (if k then 1 else 0)) H
theorem rd_dgetS {a : Addr} {kvs : List (Key × V)} {z : Str} {v : V} {H : Hp} {Q : VK} (e : H a = some (.dK kvs)) (hv : valV kvs (.inr z) = some v) (q : Q v H) : ∃ a' v', V.ref a = .ref a' ∧ DGet H a' (.str z) (some v') ∧ Q v' H :=
  ⟨a, v, rfl, by rw [← hv]; exact .inl ⟨kvs, .inr z, .inl e, rfl, rfl⟩, q⟩
theorem rd_1B {k : Bool} {R : Bool → Prop} {A : Prop} (q : R k) : A ∨ ∃ k', [V.bl k] = [V.bl k'] ∧ R k' := .inr ⟨k, rfl, q⟩
end Sw
set_option Elab.async false
set_option linter.all false
set_option maxRecDepth 100000
set_option maxHeartbeats 4000000
namespace Sw
open PySem PySem.Spec PyProof.Rows L2 L2H
/-- behind C(v) of such an error class: its dict, all else as it was -/
theorem err_made {K : PySem.W.Frag} {C : Addr} {v : V} {H : Hp} {W : XK} {E : XK} (T : ErrC K C) (k : ∀ H' d, Same H H' → H d = none → H' d = some (.xd [("value", v)]) → W (.ref C) (some d) H') :
    ∀ a, H a = none → spEInit K [.ref a, v] (upd H a (exo a C none)) (fun r H2 => r = .non ∧ ∃ (d : Addr) (fs : List (Str × V)), H2 a = some (exo a C (some d)) ∧ H2 d = some (exd d fs) ∧ H d = none ∧ W (.ref C) (some d) (upd (del H2 a) d (.xd fs))) E := by
  intro a ha
  refine ⟨a, C, v, rfl, upd_same, T, fun dx h1 h2 => ⟨rfl, dx, _, upd_same, by rw [upd_ne h2, upd_same], by rw [upd_ne h2] at h1; exact h1, ?_⟩⟩
  rw [upd_ne h2] at h1
  refine k _ dx (fun b o e => ?_) h1 upd_same
  rw [upd_ne (ne_of_none e h1), del_ne (ne_of_none e ha), upd_ne (ne_of_none e ha), upd_ne (ne_of_none e h1), upd_ne (ne_of_none e ha)]
  exact e
/-- e.f of the exception that is handled, its class being told by the reading -/
def tXfE (K : PySem.W.Frag) (a : Addr) (cls : Value) (d : Option Addr) (f : Str) (te : TE) : TE := fun σ H Q => te σ H fun x H1 => x = .ref a ∧ ∃ (C dd : Addr) (fs : List (Str × V)) (v : V), cls = .ref C ∧ XfC K C ∧ PySem.W.findIn K (.ref C) f = some none ∧ d = some dd ∧ H1 dd = some (.xd fs) ∧ fs.lookup f = some v ∧ Q v H1
theorem pe_xfE {X : Cx} {a : Addr} {oe : Obj} {cls : Value} {d : Option Addr} {pn : List (Addr × Obj)} {e : Expr} {te : TE} {pos : Pos} {n : Str}
    (hz : Zc cls d oe) (hf : ∃ vs, oe.data = .fields vs) (he : PE (X.suite a ((a, oe) :: pn)) e te) (hb : attributeBase e n X.env (eval e X.env) = eval e X.env := by rfl) :
    PE (X.suite a ((a, oe) :: pn)) (.Attribute e n pos) (tXfE X.K a cls d n te) := by
  refine ⟨fun pins s σ H Q I h => ?_⟩
  refine attr_of hb (thn (he.run pins s σ H _ I h) fun u s1 hh => ?_)
  obtain ⟨x, H1, I1, rx, ex, C, dd, fs, v, ec, T, hno, ed, ea, l, q⟩ := hh
  subst ex
  obtain rfl : u = Value.ref a := rx
  subst ec
  subst ed
  obtain ⟨ha, _⟩ := I1.pin (a, oe) (List.mem_append_left _ List.mem_cons_self)
  obtain ⟨vs, hd⟩ := hf
  have hx : ObjOk X.prog X.w H1 s1.heap dd (.xd fs) := I1.hok dd _ ea
  obtain ⟨mA, hns, hr⟩ := hx
  obtain ⟨od, ho, hl⟩ := lookIn_ns hns
  obtain ⟨u, hu, ru⟩ := RelO.some_of (v := v) (o := mA n) (by rw [← l]; exact hr n)
  have J : PySem.W.InstAt s1.heap a oe C (some od) := ⟨ha, hz.1, by unfold PySem.W.notCls; rw [hd] <;> rfl, by rw [hz.2]; exact ho⟩
  exact HandSPX.exc_get I1.kIn J T.ga T.gg T.exC (PySem.W.findObj_own T.hdC hno rfl (by rw [hl, hu])) (handed_of ru) ⟨v, H1, I1.tok _, ru, q⟩
/-- two promises of one def -/
theorem fnok_or {P : Program} {w : World} {K : PySem.W.Frag} {mg : Str → Option Value} {base : Heap} {CX : CXT} {k : Nat} {f : Addr} {fd : FuncData} {ps : List Str} {sp sp' : Sp} (F : FnOk P w K mg base CX k f fd ps sp) (F' : FnOk P w K mg base CX k f fd ps sp') :
    FnOk P w K mg base CX k f fd ps (fun vs H Q E => sp vs H Q E ∨ sp' vs H Q E) :=
  ⟨fun vs H Q E h => h.elim (F.len vs H Q E) (F'.len vs H Q E), fun A outer s H args us vs Q E hr he hb hv h => h.elim (F.run A outer s H args us vs Q E hr he hb hv) (F'.run A outer s H args us vs Q E hr he hb hv)⟩
/-! ### == of a thing with itself, an own __eq__ -/
def DSame : Eqv := fun x y _ => x = y ∧ (flatV x = true ∨ ∃ a, x = .ref a)
theorem mon_same : Mon DSame := fun _ _ _ _ _ d => d
theorem eqV_self {x : V} (h : flatV x = true) : eqV x x = true := by
  cases x <;> first | rfl | (exact decide_eq_true rfl) | (cases h)
theorem eqG_same {X : Cx} : EqG X 0 DSame := by
  intro A pins s σ H x y u v sb I rx ry d
  obtain ⟨rfl, f | ⟨a, rfl⟩⟩ := d
  · exact eqG_flat A pins s σ H x x u v sb I rx ry ⟨f, f, eqV_self f⟩
  · cases rx
    cases ry
    exact SeqAt.EqAt.same (A := A) (s := s) (.ref a) X.prog X.w X.xe _ ⟨rfl, H, I, Ext.rfl'⟩
theorem prs_same {xs : List V} {H : Hp} (h : ∀ x ∈ xs, flatV x = true ∨ ∃ a, x = .ref a) : Prs DSame xs xs H := ⟨rfl, fun i x y h1 h2 => by
  rw [h1] at h2
  injection h2 with h2
  exact ⟨h2, h x (List.mem_of_getElem? h1)⟩⟩
theorem rd_dnewK {σ : L2.St} {H : Hp} {Q : VK} (q : ∀ p, H p = none → Kt Q (.ref p) (upd H p (.dK []))) : tDNewK σ H Q := q
section
variable {σ : L2.St} {H : Hp} {Q : VK} {td ty tx : TE}
theorem rd_dget2 (q : td σ H fun x H1 => ∃ a, x = .ref a ∧ IsD H1 a ∧ ty σ H1 fun y H2 => tx σ H2 fun z H3 => ∃ o, DGet H3 a y o ∧ Q (o.getD z) H3) : tDGet2 td ty tx σ H Q := q
theorem rd_isd {a : Addr} {kvs : List (Key × V)} {R : Addr → Prop} (h : H a = some (.dK kvs)) (q : R a) : ∃ a', V.ref a = .ref a' ∧ IsD H a' ∧ R a' := ⟨a, rfl, .inl ⟨_, .inl h⟩, q⟩
theorem rd_dgo {a : Addr} {kvs : List (Key × V)} {z : Str} {d : V} (h : H a = some (.dK kvs)) (q : Q ((valV kvs (.inr z)).getD d) H) : ∃ o, DGet H a (.str z) o ∧ Q (o.getD d) H := ⟨_, .inl ⟨_, .inr z, .inl h, rfl, rfl⟩, q⟩
theorem rd_din (q : ty σ H fun y H1 => td σ H1 fun x H2 => ∃ a o, x = .ref a ∧ DGet H2 a y o ∧ Q (.bl o.isSome) H2) : tDIn ty td σ H Q := q
theorem rd_dino {a : Addr} {kvs : List (Key × V)} {z : Str} {R : Bool → Prop} (h : H a = some (.dK kvs)) (q : R (valV kvs (.inr z)).isSome) : ∃ a' o, V.ref a = .ref a' ∧ DGet H a' (.str z) o ∧ R o.isSome := ⟨a, _, rfl, .inl ⟨_, .inr z, .inl h, rfl, rfl⟩, q⟩
theorem rd_dpop1 (q : td σ H fun x H1 => ∃ a, x = .ref a ∧ IsD H1 a ∧ ty σ H1 fun y H2 => ∃ kvs k v, H2 a = some (.dK kvs) ∧ y = kV k ∧ valV kvs k = some v ∧ Q v (upd H2 a (.dK (dropK kvs k)))) : tDPop1 td ty σ H Q := q
end
end Sw
set_option Elab.async false
set_option linter.all false
set_option maxRecDepth 100000
set_option maxHeartbeats 400000
/-! More readings: x[i] = v, a < b < c, f-strings, dict displays. -/
namespace Sw
open PySem PySem.Spec PyProof.Rows L2 He
section
variable {K : PySem.W.Frag} {σ : L2.St} {H : Hp} {Q : VK} {ta tb tc te : TE} {v : V}
theorem rd_gSub {r : V → V → V → Hp → (Hp → Prop) → Prop} {R : L2.St → Hp → Prop} (q : ta σ H fun o H1 => tb σ H1 fun i H2 => r o i v H2 fun H3 => R σ H3) : gSub ta tb r v σ H R := q
theorem rd_setL {p : Addr} {xs : List V} {k : Int} {j : Nat} {R : Hp → Prop} (e : H p = some (.lst xs)) (hj : ixN xs.length k = some j) (q : ∀ H', (∀ b o, b ≠ p → H b = some o → H' b = some o) → H' p = some (.lst (xs.set j v)) → R H') : rSetL (.ref p) (.int k) v H R := ⟨p, xs, k, j, rfl, rfl, e, hj, q _ (fun b o n h => by rw [upd_ne n]; exact h) upd_same⟩
end
end Sw
namespace Sw
open PySem PySem.Spec PyProof.Rows L2 He
theorem rd_chain {r r' : R2} {ta tb tc : TE} {σ : L2.St} {H : Hp} {Q : VK} (q : ta σ H fun x H1 => tb σ H1 fun y H2 => r x y H2 fun z H3 => ∃ k, z = .bl k ∧ (if k = true then tc σ H3 fun w' H4 => r' y w' H4 Q else Q (.bl false) H3)) : tChain r r' ta tb tc σ H Q := q
theorem rd_disp {trs : List (TE × TE)} {σ : L2.St} {H : Hp} {Q : VK} (q : ∀ p H1, H p = none → Same H H1 → H1 p = some (.dK []) → tPairs trs σ H1 fun ps H2 => H2 p = some (.dK []) ∧ ∃ kvs : List (Key × V), ps = kvs.map (fun kv => (kV kv.1, kv.2)) ∧ kvs.length ≤ 15 ∧ Kt Q (.ref p) (upd H2 p (.dK (mergeK [] kvs)))) : tDisp trs σ H Q := fun p hp => q p _ hp (fun b o e => by rw [upd_ne (ne_of_none e hp)]; exact e) upd_same
theorem rd_js {t : TE} {ts : List TE} {acc : Str} {σ : L2.St} {H : Hp} {Q : Str → Hp → Prop} (q : t σ H fun x H1 => ∃ y : Str, x = .str y ∧ (acc ++ y).length ≤ sizeLine ∧ tJs ts (acc ++ y) σ H1 Q) : tJs (t :: ts) acc σ H Q := q
theorem rd_js0 {acc : Str} {σ : L2.St} {H : Hp} {Q : Str → Hp → Prop} (q : Q acc H) : tJs [] acc σ H Q := q
theorem rd_fmtS {te : TE} {σ : L2.St} {H : Hp} {Q : VK} (q : te σ H fun x H1 => (∃ y : Str, x = .str y ∧ y.length ≤ sizeLine ∧ Q (.str y) H1) ∨ ∃ i : Int, x = .int i ∧ i.natAbs.log2 < 1920 ∧ Q (.str (toString i)) H1) : tFmt te σ H Q := q
end Sw
set_option Elab.async false
set_option linter.all false
set_option maxRecDepth 100000
set_option maxHeartbeats 2000000
/-! Rules of my own: enumerate(text, start=k). -/
namespace Sw
open PySem PySem.Spec PyProof.Rows L2 He
/-- the signs of x, each with its number from k on, in new pairs -/
def Itek (x : Str) (k : Int) : It :=
  ⟨fun i _ => i < x.cps.size, fun i H v H' => ∃ T c, v = .ref T ∧ H T = none ∧ H' = upd H T (.tup [.int (k + (i : Nat)), .str ⟨#[c]⟩]) ∧ x.cps[i]? = some c, fun i _ => i = x.cps.size⟩
theorem turn_enumK {P : Program} {w : World} {K : PySem.W.Frag} {elts : List Expr} {kk : Nat} {tpos : Pos} (e it : Addr) (x : Str) (k : Int) (t : Tok) (ty : String) (hty : ty = "str_ascii_iterator" ∨ ty = "str_iterator") :
    Turn P w K (.Tuple elts kk tpos) (Itek x k) [e, it] e (fun i h => (∃ old, IsEnum h e it (k + (i : Nat)) old) ∧ h.IsStrIter it ty x t i ∧ e ≠ it) where
  mem := by simp
  obj := fun i h st b hb => by
    obtain ⟨⟨old, he⟩, ⟨o, ho, hc, hd⟩, _⟩ := st
    have e' : b = e ∨ b = it := by simpa using hb
    rcases e' with z | z
    · rw [z]; exact ⟨_, he, fun v q => nomatch q⟩
    · rw [z]; exact ⟨o, ho, fun v q => by rw [hd] at q; cases q⟩
  keep := fun i h h' st k => let ⟨⟨old, he⟩, ⟨o, ho, r⟩, hne⟩ := st; ⟨⟨old, k e (by simp) _ he⟩, ⟨o, k it (by simp) o ho, r⟩, hne⟩
  item := by
    intro X hP hw hK hc i pins s σ H E I hf st hg
    subst hP hw hK
    obtain ⟨⟨old, he⟩, hit, hne⟩ := st
    have hel : e < s.heap.objs.size := Heap.lt_size he
    have hil : it < s.heap.objs.size := by obtain ⟨_, q, _⟩ := hit; exact Heap.lt_size q
    have D : Draws X.prog X.w X.A.in1 it [it] x.cps.size (fun i v => ∃ c u, x.cps[i]? = some c ∧ v = .str ⟨#[c]⟩ u) (fun i h => h.IsStrIter it ty x t i) := by
      rcases hty with q | q
      · rw [q]; exact Draws.strAscii (A := X.A.in1) (I.ok.hd hc) it x t
      · rw [q]; exact Draws.strWide (A := X.A.in1) (I.ok.hd hc) it x t
    refine wpAny_pyNext_enum_itemC D he hit hg hne (by simpa using hne) fun y h' tk hy ho hit' hT hsz hk => ?_
    obtain ⟨c, u, hcx, rfl⟩ := hy
    refine ⟨_, rfl, wpAny_letOwnedTupleGo_enum (s := { s with heap := h', toks := tk + 1 }) ho fun h'' he' sb => ?_⟩
    have hT2 : h''.get? s.heap.objs.size = some { cls := .type "tuple", data := .seq #[.int (k + (i : Nat)) tk, .str ⟨#[c]⟩ u] } := (sb.2 _ (Nat.ne_of_gt hel)).trans hT
    have new : ObjOk X.prog X.w (upd H s.heap.objs.size (.tup [.int (k + (i : Nat)), .str ⟨#[c]⟩])) h'' s.heap.objs.size (.tup [.int (k + (i : Nat)), .str ⟨#[c]⟩]) :=
      ⟨by show 2 ≤ sizeLine; decide, [.int (k + (i : Nat)) tk, .str ⟨#[c]⟩ u], .cons ⟨_, rfl⟩ (.cons ⟨_, rfl⟩ .nil), ⟨_, hT2, rfl, _, rfl⟩⟩
    have I1 : Inv X pins σ (upd H s.heap.objs.size (.tup [.int (k + (i : Nat)), .str ⟨#[c]⟩])) { s with heap := h'', toks := tk + 1 } :=
      I.turnedNew (ch := [e, it]) (fun b ob hb q => (sb.2 b (fun z => hb (by simp [z]))).trans (hk b ob (fun z => hb (by simp [z])) (fun z => hb (by simp [z])) q)) hf (Nat.le_refl _) new
    refine ⟨.ref s.heap.objs.size, _, I1, rfl, ⟨_, c, rfl, I.hok.fresh (Nat.le_refl _), rfl, hcx⟩, ⟨⟨.str ⟨#[c]⟩ u, ?_⟩, ?_, hne⟩, fun b hb => ?_⟩
    · have e1 : k + ((i + 1 : Nat) : Int) = k + (i : Nat) + 1 := by omega
      rw [e1]; exact he'
    · obtain ⟨o, ho', r⟩ := hit'
      exact ⟨o, (sb.2 it (Ne.symm hne)).trans ho', r⟩
    · have hb' : b < s.heap.objs.size := by
        have e' : b = e ∨ b = it := by simpa using hb
        rcases e' with z | z
        · rw [z]; exact hel
        · rw [z]; exact hil
      rw [upd_ne (Nat.ne_of_lt hb')]
      exact (hf b hb).1
  done := by
    intro X hP hw hK hc i pins s σ H E I hf st hg
    subst hP hw hK
    obtain ⟨⟨old, he⟩, hit, hne⟩ := st
    obtain ⟨f0, f1, f2, f3, f4, f5⟩ := hf it (by simp)
    have D : Draws X.prog X.w X.A.in1 it [it] x.cps.size (fun i v => ∃ c u, x.cps[i]? = some c ∧ v = .str ⟨#[c]⟩ u) (fun i h => h.IsStrIter it ty x t i) := by
      rcases hty with q | q
      · rw [q]; exact Draws.strAscii (A := X.A.in1) (I.ok.hd hc) it x t
      · rw [q]; exact Draws.strWide (A := X.A.in1) (I.ok.hd hc) it x t
    have hg : i = x.cps.size := hg
    subst hg
    refine wpAny_pyNext_enum_endD D he hit fun h' eb => ⟨rfl, I.turned (t' := s.toks) (fun b o hb q => eb b o hb q) f0 f1 f3 f4 f5⟩
  self := fun A i s Q E st h => let ⟨⟨_, he⟩, _⟩ := st; wpAny_pyIter_enum he h
def iEnumK (ta tk : TA) : TI := fun σ H R => ta σ H fun vs H1 => tk σ H1 fun zs H2 => ∃ x k, vs = [.str x] ∧ zs = [.int k] ∧ -(2 ^ 63) ≤ k ∧ k < 2 ^ 63 ∧ R (Itek x k) H2
theorem callWith_type_kwB {M : Model} {A : Around} {E : Value → Shared → Prop} {s : Shared} {pos : Pos} {T : String} {first : List Value} {args : List (Bool × Sem Value)} {keywords : List (Option Str × Sem Value)} {Q : Value → Shared → Prop}
    (hplain : args.any (·.1) = false) (hkw : keywords.any (·.1.isNone) = false)
    (h : wpAny M A (evalArgs (.type T) true args keywords) (fun a s₁ => wpAny M A (call (.type T) (first ++ a.pos) a.kw) Q E s₁) E s) :
    wpAny M A (callWith pos (.type T) first args keywords) Q E s := by
  unfold callWith
  refine wpAny_bind (wpAny_holding (wpAny_mono h (fun a s₁ h₁ => wpAny_bind (wpAny_standAt ?_)) fun _ _ x => x))
  simp only [hplain, hkw, Bool.or_false]
  refine wpAny_bind (wpAny_pure ?_)
  exact wpAny_bind (wpAny_mono h₁ (fun r s₂ hr => wpAny_bind (wpAny_holding (wpAny_point (wpAny_pure hr)))) fun _ _ x => x)
theorem pi_enumK {X : Cx} {e ke : Expr} {ta tk : TA} {p pos tpos kp : Pos} {elts : List Expr} {kk : Nat} (hg : Gl X "enumerate") (hm : X.mg "enumerate" = none) (ha : PA X [e] ta) (hk : PK X [⟨some "start", ke, kp⟩] tk)
    (he : backTo pos (starEach [e] X.env) = (false, eval e X.env) :: backTo pos (starEach [] X.env) := by rfl) (hpl : (backTo pos (starEach [e] X.env)).any (·.1) = false := by rfl)
    (hall : (backToKw pos (keywordEach [⟨some "start", ke, kp⟩] X.env)).all (·.1.isSome) = true := by rfl) (hnone : (backToKw pos (keywordEach [⟨some "start", ke, kp⟩] X.env)).any (·.1.isNone) = false := by rfl) (hks : (backToKw pos (keywordEach [⟨some "start", ke, kp⟩] X.env)).filterMap (·.1) = [(("start" : Str))] := by rfl) :
    PI X (.Tuple elts kk tpos) (.Call (.Name "enumerate" p) [e] [⟨some "start", ke, kp⟩] pos) (iEnumK ta tk) := by
  refine ⟨fun pins s σ H R I h => ?_⟩
  refine wpAny_Call_Name_kw (ld_blt I hg hm boot_enumerate ?_)
  refine callWith_type_kwB hpl hnone ?_
  rw [he]
  refine evalArgs_kwB hall ?_
  rw [← he]
  refine thn (ha.run pos pins s σ H _ I h) fun us s1 ⟨vs, H1, I1, r1, q1⟩ => thn (hk.run pos pins s1 σ H1 _ I1 q1) fun ws s2 ⟨zs, H2, I2, r2, q2⟩ => ?_
  rw [hks]
  obtain ⟨x, k, ex, ez, k0, k1, q⟩ := q2
  subst ex ez
  cases r1 with
  | cons ra rr =>
    cases rr
    obtain ⟨t, rfl⟩ := ra
    cases r2 with
    | cons rb rr =>
      cases rr
      obtain ⟨t', rfl⟩ := rb
      refine enum_begins_start (begins_text x t) trivial k0 k1 fun h' he hit hsz hk => wpAny_pyIter_enum he ?_
      have I3 : Inv X pins σ H2 { s2 with heap := h' } := I2.kept (t' := s2.toks) hk
      have hty : strIterType x = "str_ascii_iterator" ∨ strIterType x = "str_iterator" := by unfold strIterType; split <;> simp
      refine ⟨s2.heap.objs.size + 1, [s2.heap.objs.size + 1, s2.heap.objs.size], _, _, H2, rfl, I3, turn_enumK (s2.heap.objs.size + 1) s2.heap.objs.size x k t _ hty, ⟨⟨.none, by simpa using he⟩, ⟨_, hit, rfl, rfl⟩, Nat.succ_ne_self _⟩, fun b hb => ?_, q⟩
      have e' : b = s2.heap.objs.size + 1 ∨ b = s2.heap.objs.size := by simpa using hb
      have hle : s2.heap.objs.size ≤ b := by
        rcases e' with z | z
        · rw [z]; exact Nat.le_add_right _ _
        · rw [z]; exact Nat.le_refl _
      exact I2.fpOk hle (I2.hok.fresh hle)
theorem walk_enumK {x : Str} {k : Int} : Walk (Itek x k) x.cps.size (fun _ => True) (fun i H v H' => ∃ T c, v = .ref T ∧ H T = none ∧ H' = upd H T (.tup [.int (k + (i : Nat)), .str ⟨#[c]⟩]) ∧ x.cps[i]? = some c) :=
  ⟨fun _ _ hi _ => hi, fun _ _ => rfl, fun _ _ _ _ _ _ y => y⟩
end Sw
set_option Elab.async false
set_option linter.all false
set_option maxRecDepth 100000
set_option maxHeartbeats 400000
/-! Readings of texts: z[i], a + b, sizes; digits of a cut number. -/
namespace Sw
open PySem PySem.Spec PyProof.Rows L2 He
/-- z[i] of a text, i not negative -/
abbrev rItS : R2 := fun x y H Q => ∃ z i c, x = .str z ∧ y = .int i ∧ 0 ≤ i ∧ i < 2 ^ 63 ∧ i < z.length ∧ z.cps[i.toNat]? = some c ∧ Q (.str ⟨#[c]⟩) H
theorem rd_m1 {r : V → List V → Hp → VK → Prop} {ta te : TE} {σ : L2.St} {H : Hp} {Q : VK} (q : ta σ H fun x H1 => (∃ a, x = .str a) ∧ te σ H1 fun y H2 => r x [y] H2 Q) : tM1 r ta te σ H Q := q
theorem rd_2S {a b : Str} {R : Str → Str → Prop} (q : R a b) : ∃ i j, V.str a = .str i ∧ V.str b = .str j ∧ R i j := ⟨a, b, rfl, rfl, q⟩
theorem rd_1S {a : Str} {R : Str → Prop} (q : R a) : ∃ i, V.str a = .str i ∧ R i := ⟨a, rfl, q⟩
theorem rd_szN {n m : Nat} {A : Prop} (h : n ≤ m) (hm : m ≤ 1000000) (q : A) : n ≤ sizeLine ∧ A := ⟨by rw [sizeLine_eq]; omega, q⟩
theorem rd_fld {K : PySem.W.Frag} {ta : TE} {f : Str} {σ : L2.St} {H : Hp} {Q : VK} (q : ta σ H fun x H1 => ∃ a C dx fs v, x = .ref a ∧ H1 a = some (.ins C dx fs) ∧ Cls K C ∧ NoAttr K C f ∧ fs.lookup f = some v ∧ Q v H1) : tFld K ta f σ H Q := q
theorem rd_fld' {K : PySem.W.Frag} {f : Str} {H : Hp} {Q : V → Prop} {a C dx : Addr} {fs : List (Str × V)} {v : V} (ha : H a = some (.ins C dx fs)) (cl : Cls K C) (no : NoAttr K C f) (lk : fs.lookup f = some v) (q : Q v) : ∃ a' C' dx' fs' v', V.ref a = .ref a' ∧ H a' = some (.ins C' dx' fs') ∧ Cls K C' ∧ NoAttr K C' f ∧ fs'.lookup f = some v' ∧ Q v' := ⟨a, C, dx, fs, v, rfl, ha, cl, no, lk, q⟩
theorem rd_orS {y : Str} {R : Str → Prop} {B : Prop} (q : R y) : (∃ y', V.str y = .str y' ∧ R y') ∨ B := .inl ⟨y, rfl, q⟩
theorem rd_orI {i : Int} {R : Int → Prop} {A : Prop} (q : R i) : A ∨ ∃ i', V.int i = .int i' ∧ R i' := .inr ⟨i, rfl, q⟩
theorem digitsVal_lt (l : List Nat) (h : NumText.AllDigits l) : NumText.digitsVal l < 10 ^ l.length := by
  have g : ∀ (l : List Nat) (a : Nat), NumText.AllDigits l → l.foldl (fun acc c => acc * 10 + (c - 48)) a < (a + 1) * 10 ^ l.length := by
    intro l
    induction l with
    | nil => intro a _; simp
    | cons c r ih =>
      intro a h
      have hc := h.head
      have e := ih (a * 10 + (c - 48)) h.tail
      rw [List.foldl_cons, List.length_cons, Nat.pow_succ]
      refine Nat.lt_of_lt_of_le e ?_
      rw [show (a + 1) * (10 ^ r.length * 10) = ((a + 1) * 10) * 10 ^ r.length by rw [Nat.mul_comm (10 ^ r.length), Nat.mul_assoc]]
      exact Nat.mul_le_mul_right _ (by omega)
  have r := g l 0 h
  unfold NumText.digitsVal
  omega
end Sw
set_option Elab.async false
set_option linter.all false
set_option maxRecDepth 100000
set_option maxHeartbeats 2000000
/-! More readings: targets that are tuples, what is raised, pieces of texts, min of two, while. -/
namespace Sw
open PySem PySem.Spec PyProof.Rows L2 He
section
variable {K : PySem.W.Frag} {σ : L2.St} {H : Hp} {ta tb te : TE} {v : V}
theorem rd_gTup {a : Addr} {xs : List V} {n : Nat} {t : TGs} {R : L2.St → Hp → Prop} (h : SqT K H a xs) (hn : xs.length = n) (q : t xs σ H R) : gTup K n t (.ref a) σ H R := ⟨a, xs, rfl, h, hn, q⟩
theorem rd_gCons {v : V} {r : List V} {t : TG} {u : TGs} {R : L2.St → Hp → Prop} (q : t v σ H fun σ' H' => u r σ' H' R) : gCons t u (v :: r) σ H R := ⟨v, r, rfl, q⟩
theorem rd_gNil {R : L2.St → Hp → Prop} (q : R σ H) : gNil [] σ H R := ⟨rfl, q⟩
theorem rd_enumK {tx tk : TA} {R : It → Hp → Prop} (q : tx σ H fun vs H1 => tk σ H1 fun zs H2 => ∃ x k, vs = [.str x] ∧ zs = [.int k] ∧ -(2 ^ 63) ≤ k ∧ k < 2 ^ 63 ∧ R (Itek x k) H2) : iEnumK tx tk σ H R := q
theorem rd_mkO {C : Addr} {sp : Sp} {t : TA} {Q : XK} (q : t σ H fun vs H1 => vs.length ≤ 1000 ∧ ∀ a, H1 a = none → sp (.ref a :: (vs ++ [])) (upd H1 a (exo a C none))
  (fun v H2 => v = .non ∧ ∃ (d : Addr) (fs : List (Str × V)), H2 a = some (exo a C (some d)) ∧ H2 d = some (exd d fs) ∧ H1 d = none ∧ Q (.ref C) (some d) (upd (del H2 a) d (.xd fs))) (fun _ _ _ => False)) : tMkO C sp [] t σ H Q := q
theorem rd_slS {z : Str} {lo hi : Option Int} {Q : VK} (h : z.length ≤ 1000000) (q : Q (.str (cutS z lo hi)) H) : rSlS (.str z) lo hi H Q := ⟨z, rfl, by rw [sizeLine_eq]; omega, q⟩
theorem rd_itS {z : Str} {i : Int} {c : Nat} {Q : VK} (p : Nat) (hi : i = p) (hz : z.length ≤ 1000000) (hc : z.cps[p]? = some c) (q : Q (.str ⟨#[c]⟩) H) : rItS (.str z) (.int i) H Q := by
  subst hi
  have hp : p < z.length := (Array.getElem?_eq_some_iff.mp hc).1
  exact ⟨z, p, c, rfl, rfl, by omega, by omega, by omega, hc, q⟩
theorem rd_lenS {z : Str} {R : Str → Prop} (h : z.length ≤ 1000000) (q : R z) : ∃ z', [V.str z] = [V.str z'] ∧ z'.length ≤ sizeLine ∧ R z' := ⟨z, rfl, by rw [sizeLine_eq]; omega, q⟩
theorem rd_min2 {i j : Int} {R : Int → Int → Prop} (q : R i j) : ∃ i' j', [V.int i, V.int j] = [V.int i', V.int j'] ∧ R i' j' := ⟨i, j, rfl, q⟩
theorem rd_inS {c : Nat} {z : Str} {R : Nat → Str → Prop} (q : R c z) : ∃ c' z', V.str ⟨#[c]⟩ = .str ⟨#[c']⟩ ∧ V.str z = .str z' ∧ R c' z' := ⟨c, z, rfl, rfl, q⟩
end
end Sw
set_option Elab.async false
set_option linter.all false
/-! Looks at a goal's shape, for the walk of readings. -/
namespace Sw
open PySem PySem.Spec PyProof.Rows L2 He
theorem g_ite {c : Prop} [Decidable c] {A B : Prop} (h : if c then A else B) : if c then A else B := h
theorem g_ex {α : Sort _} {p : α → Prop} (h : ∃ x, p x) : ∃ x, p x := h
theorem g_sp {sp : Sp} {vs dvs : List V} {H : Hp} {Q : VK} {E : XK} (h : sp (vs ++ dvs) H Q E) : sp (vs ++ dvs) H Q E := h
theorem g_ts {t : TS} {D : Ends} {σ : L2.St} {H : Hp} (h : t D σ H) : t D σ H := h
end Sw
set_option Elab.async false
set_option linter.all false
set_option maxRecDepth 100000
set_option maxHeartbeats 8000000
namespace KM
open PySem PySem.Spec PyProof.Rows L2 He Sw L2H
section
variable {P : Program} {w : World} {K : PySem.W.Frag} {mg : Str → Option Value} {base : Heap}
local macro_rules | `(tactic| row_room_at ne) => `(tactic| with_reducible assumption)
local macro_rules | `(tactic| row_room_at hp) => `(tactic| (apply SameBut.use; with_reducible assumption; rotate_left; row_room_at hp; row_room_at ne))
local macro_rules | `(tactic| row_room_at hp) => `(tactic| (apply FoAt.same; rotate_left; with_reducible assumption; row_room_at hp))
local macro_rules | `(tactic| row_room_at hp) => `(tactic| (apply Sw.Same.use; with_reducible assumption; row_room_at hp))
local macro_rules | `(tactic| row_room_at hp) => `(tactic| (apply SqT.of; row_room_at hp))
local macro_rules | `(tactic| row_room_at hp) => `(tactic| (apply SqL.of; row_room_at hp))
local macro_rules | `(tactic| row_room_at hp) => `(tactic| with_reducible assumption)
local macro_rules | `(tactic| row_room_at ati) => `(tactic| first | with_reducible assumption | rfl | (apply atI_nat; rfl))
local macro_rules | `(tactic| row_room_at cc) => `(tactic| first | with_reducible assumption | omega | decide | (refine ⟨?_, ?_⟩ <;> first | decide | omega) | (refine ⟨?_, ?_, ?_⟩ <;> first | decide | omega) | (left; refine ⟨?_, ?_⟩ <;> first | decide | omega) | (right; refine ⟨?_, ?_⟩ <;> first | decide | omega))
local macro_rules | `(tactic| row_room_at rdts) => `(tactic| with_reducible apply rd_retN)
local macro_rules | `(tactic| row_room_at rdts) => `(tactic| with_reducible apply rd_cont)
local macro_rules | `(tactic| row_room_at rdts) => `(tactic| with_reducible apply rd_brk)
local macro_rules | `(tactic| row_room_at rdts) => `(tactic| with_reducible apply rd_dput)
local macro_rules | `(tactic| row_room_at rdts) => `(tactic| with_reducible apply rd_drop)
local macro_rules | `(tactic| row_room_at rdts) => `(tactic| with_reducible apply rd_for)
local macro_rules | `(tactic| row_room_at rdts) => `(tactic| with_reducible apply rd_ret)
local macro_rules | `(tactic| row_room_at rdts) => `(tactic| with_reducible apply rd_next)
local macro_rules | `(tactic| row_room_at rdts) => `(tactic| with_reducible apply rd_ifS)
local macro_rules | `(tactic| row_room_at rdts) => `(tactic| with_reducible apply rd_asg)
local macro_rules | `(tactic| row_room_at rdts) => `(tactic| with_reducible refine rd_seqN fun _ _ => ?_)
local macro_rules | `(tactic| row_room_at rdit) => `(tactic| with_reducible refine rd_iteNF (by with_unfolding_all decide +kernel) ?_)
local macro_rules | `(tactic| row_room_at rdit) => `(tactic| with_reducible refine rd_iteNT (by with_unfolding_all decide +kernel) ?_)
local macro_rules | `(tactic| row_room_at rdit) => `(tactic| with_reducible apply rd_iteN0)
local macro_rules | `(tactic| row_room_at rdit) => `(tactic| with_reducible apply rd_iteN1)
local macro_rules | `(tactic| row_room_at rdit) => `(tactic| with_reducible apply rd_ite1)
local macro_rules | `(tactic| row_room_at rdit) => `(tactic| with_reducible apply rd_ite0)
local macro_rules | `(tactic| row_room_at rdit) => `(tactic| with_reducible refine rd_iteT (by with_unfolding_all decide +kernel) ?_)
local macro_rules | `(tactic| row_room_at rdit) => `(tactic| with_reducible refine rd_iteF (by with_unfolding_all decide +kernel) ?_)
local macro_rules | `(tactic| row_room_at rdex) => `(tactic| with_reducible refine rd_ty (by with_unfolding_all row_room_at hp) ?_)
local macro_rules | `(tactic| row_room_at rdex) => `(tactic| with_reducible refine rd_itup' (by with_unfolding_all row_room_at hp) ?_)
local macro_rules | `(tactic| row_room_at rdex) => `(tactic| with_reducible refine rd_ilist' (by with_unfolding_all row_room_at hp) ?_)
local macro_rules | `(tactic| row_room_at rdex) => `(tactic| with_reducible apply rd_1B)
local macro_rules | `(tactic| row_room_at rdex) => `(tactic| with_reducible refine rd_dgetS (by with_unfolding_all row_room_at hp) (by with_unfolding_all assumption) ?_)
local macro_rules | `(tactic| row_room_at rdex) => `(tactic| with_reducible refine rd_dget' (by with_unfolding_all row_room_at hp) (by with_unfolding_all rfl) (by with_unfolding_all assumption) ?_)
local macro_rules | `(tactic| row_room_at rdex) => `(tactic| with_reducible refine rd_len (by with_unfolding_all first | exact .inl (by row_room_at hp) | exact .inr (by row_room_at hp)) ?_)
local macro_rules | `(tactic| row_room_at rdex) => `(tactic| with_reducible refine rd_lenQ (by with_unfolding_all first | exact .inl (by row_room_at hp) | exact .inr (by row_room_at hp)) ?_)
local macro_rules | `(tactic| row_room_at rdex) => `(tactic| with_reducible apply rd_2I)
local macro_rules | `(tactic| row_room_at rdex) => `(tactic| with_reducible refine rd_b62 (by with_unfolding_all first | decide | (constructor <;> omega)) ?_)
local macro_rules | `(tactic| row_room_at rdex) => `(tactic| with_reducible apply rd_1I)
local macro_rules | `(tactic| row_room_at rdex) => `(tactic| with_reducible apply rd_int1)
local macro_rules | `(tactic| row_room_at rdex) => `(tactic| with_reducible apply rd_iv)
local macro_rules | `(tactic| row_room_at rdex) => `(tactic| with_reducible refine rd_sz (by with_unfolding_all first | decide | (simp only [List.length_append, List.length_map, List.length_cons, List.length_nil, List.length_take]; omega)) ?_)
local macro_rules | `(tactic| row_room_at rdex) => `(tactic| with_reducible apply rd_bl)
local macro_rules | `(tactic| row_room_at rdhd) => `(tactic| with_reducible refine rd_append (by with_unfolding_all row_room_at hp) (by with_unfolding_all first | decide | (simp only [List.length_append, List.length_map, List.length_cons, List.length_nil]; omega)) ?_)
local macro_rules | `(tactic| row_room_at rdhd) => `(tactic| with_reducible apply rd_bm)
local macro_rules | `(tactic| row_room_at rdhd) => `(tactic| with_reducible apply rd_yes)
local macro_rules | `(tactic| row_room_at rdhd) => `(tactic| with_reducible apply rd_lc)
local macro_rules | `(tactic| row_room_at rdhd) => `(tactic| with_reducible apply rd_itup)
local macro_rules | `(tactic| row_room_at rdhd) => `(tactic| with_reducible apply rd_ilist)
local macro_rules | `(tactic| row_room_at rdhd) => `(tactic| with_reducible refine rd_dictK (by with_unfolding_all row_room_at hp) ?_)
local macro_rules | `(tactic| row_room_at rdhd) => `(tactic| with_reducible refine rd_lenK (by with_unfolding_all first | exact .inl (by row_room_at hp) | exact .inr (by row_room_at hp)) ?_)
local macro_rules | `(tactic| row_room_at rdhd) => `(tactic| with_reducible apply rd_methI)
local macro_rules | `(tactic| row_room_at rdhd) => `(tactic| with_reducible apply rd_dget)
local macro_rules | `(tactic| row_room_at rdhd) => `(tactic| with_reducible apply rd_if)
local macro_rules | `(tactic| row_room_at rdhd) => `(tactic| with_reducible apply rd_notV)
local macro_rules | `(tactic| row_room_at rdhd) => `(tactic| with_reducible apply rd_orV)
local macro_rules | `(tactic| row_room_at rdhd) => `(tactic| with_reducible apply rd_andV)
local macro_rules | `(tactic| row_room_at rdhd) => `(tactic| with_reducible apply rd_U)
local macro_rules | `(tactic| row_room_at rdhd) => `(tactic| with_reducible apply rd_un)
local macro_rules | `(tactic| row_room_at rdhd) => `(tactic| with_reducible refine rd_cat (by with_unfolding_all row_room_at hp) (by with_unfolding_all row_room_at hp) (by with_unfolding_all first | decide | (simp only [List.length_append, List.length_map, List.length_cons, List.length_nil, List.length_take]; omega)) ?_)
local macro_rules | `(tactic| row_room_at rdhd) => `(tactic| with_reducible refine rd_slL (by with_unfolding_all row_room_at hp) ?_)
local macro_rules | `(tactic| row_room_at rdhd) => `(tactic| with_reducible apply rd_nopart)
local macro_rules | `(tactic| row_room_at rdhd) => `(tactic| with_reducible apply rd_make)
local macro_rules | `(tactic| row_room_at rdhd) => `(tactic| with_reducible apply rd_kt)
local macro_rules | `(tactic| row_room_at rdhd) => `(tactic| with_reducible apply rd_rng1)
local macro_rules | `(tactic| row_room_at rdhd) => `(tactic| with_reducible refine rd_ne (by with_unfolding_all rfl) ?_)
local macro_rules | `(tactic| row_room_at rdhd) => `(tactic| with_reducible apply rd_and)
local macro_rules | `(tactic| row_room_at rdhd) => `(tactic| with_reducible apply rd_B)
local macro_rules | `(tactic| row_room_at rdhd) => `(tactic| with_reducible apply rd_not)
local macro_rules | `(tactic| row_room_at rdhd) => `(tactic| with_reducible refine rd_ixL (by with_unfolding_all row_room_at hp) (by with_unfolding_all row_room_at ati) ?_)
local macro_rules | `(tactic| row_room_at rdhd) => `(tactic| with_reducible apply rd_sl)
local macro_rules | `(tactic| row_room_at rdhd) => `(tactic| with_reducible refine rd_I (by with_unfolding_all row_room_at cc) ?_)
local macro_rules | `(tactic| row_room_at rdhd) => `(tactic| with_reducible apply rd_or)
local macro_rules | `(tactic| row_room_at rdhd) => `(tactic| with_reducible apply rd_lst)
local macro_rules | `(tactic| row_room_at rdhd) => `(tactic| with_reducible apply rd_part)
local macro_rules | `(tactic| row_room_at rdhd) => `(tactic| with_reducible apply rd_tup)
local macro_rules | `(tactic| row_room_at rdhd) => `(tactic| with_reducible apply rd_I0)
local macro_rules | `(tactic| row_room_at rdhd) => `(tactic| with_reducible apply rd_CB)
local macro_rules | `(tactic| row_room_at rdhd) => `(tactic| with_reducible refine rd_ixT (by with_unfolding_all row_room_at hp) (by with_unfolding_all row_room_at ati) ?_)
local macro_rules | `(tactic| row_room_at rdhd) => `(tactic| with_reducible refine rd_eq (by with_unfolding_all rfl) ?_)
local macro_rules | `(tactic| row_room_at rdhd) => `(tactic| with_reducible apply rd_call)
local macro_rules | `(tactic| row_room_at rdhd) => `(tactic| with_reducible apply rd_gName)
local macro_rules | `(tactic| row_room_at rdhd) => `(tactic| with_reducible apply rd_test)
local macro_rules | `(tactic| row_room_at rdhd) => `(tactic| with_reducible apply rd_cons)
local macro_rules | `(tactic| row_room_at rdhd) => `(tactic| with_reducible apply rd_consC)
local macro_rules | `(tactic| row_room_at rdhd) => `(tactic| with_reducible refine rd_consV (by with_unfolding_all rfl) ?_)
local macro_rules | `(tactic| row_room_at rdhd) => `(tactic| with_reducible apply rd_nil)
local macro_rules | `(tactic| row_room_at rdhd) => `(tactic| with_reducible apply rd_c)
local macro_rules | `(tactic| row_room_at rdhd) => `(tactic| with_reducible refine rd_var (by with_unfolding_all rfl) ?_)
local macro_rules | `(tactic| row_room_at rdhd) => `(tactic| with_reducible apply rd_op)
local macro_rules | `(tactic| row_room_at rdsz) => `(tactic| with_reducible refine rd_sz (by with_unfolding_all first | decide | (simp only [List.length_append, List.length_map, List.length_cons, List.length_nil, List.length_take]; omega)) ?_)
local macro_rules | `(tactic| row_room_at rd1) => `(tactic| with_reducible refine rd_unN (by with_reducible assumption) ?_)
local macro_rules | `(tactic| row_room_at rd1) => `(tactic| ((fail_if_success with_reducible apply g_sp); (fail_if_success with_reducible apply g_ite); row_room_at rdex))
local macro_rules | `(tactic| row_room_at rd1) => `(tactic| ((fail_if_success with_reducible apply g_sp); (fail_if_success with_reducible intro _); row_room_at rdhd))
local macro_rules | `(tactic| row_room_at rd1) => `(tactic| row_room_at rdsz)
local macro_rules | `(tactic| row_room_at rd1) => `(tactic| ((with_reducible apply g_ex); row_room_at rdex))
local macro_rules | `(tactic| row_room_at rd1) => `(tactic| ((with_reducible apply g_ite); row_room_at rdit))
local macro_rules | `(tactic| row_room_at rd1) => `(tactic| ((with_reducible apply g_ts); row_room_at rdts))
local macro_rules | `(tactic| row_room_at rd) => `(tactic| repeat row_room_at rd1)
/-! ### streams of draws -/
/-- at sr: a stream, of which m were drawn at most -/
def StrmAt (H : Hp) (sr : Addr) (m : Nat) : Prop := ∃ a b c : Int, H sr = some (.lst [.int a, .int b, .int c]) ∧ 0 ≤ a ∧ 0 ≤ b ∧ b < 2147483647 ∧ 0 ≤ c ∧ c ≤ m
theorem StrmAt.same {H H' : Hp} {sr : Addr} {m : Nat} (h : StrmAt H sr m) (s : Same H H') : StrmAt H' sr m := by
  obtain ⟨a, b, c, e, r⟩ := h
  exact ⟨a, b, c, s _ _ e, r⟩
theorem StrmAt.but {H H' : Hp} {sr x : Addr} {m : Nat} (h : StrmAt H sr m) (s : SameBut x H H') (ne : sr ≠ x) : StrmAt H' sr m := by
  obtain ⟨a, b, c, e, r⟩ := h
  exact ⟨a, b, c, s _ _ ne e, r⟩
theorem StrmAt.mono {H : Hp} {sr : Addr} {m n : Nat} (h : StrmAt H sr m) (l : m ≤ n) : StrmAt H sr n := by
  obtain ⟨a, b, c, e, h1, h2, h3, h4, h5⟩ := h
  exact ⟨a, b, c, e, h1, h2, h3, h4, by omega⟩
theorem StrmAt.ne_new {H : Hp} {sr p : Addr} {m : Nat} (h : StrmAt H sr m) (hp : H p = none) : p ≠ sr := fun z => by
  obtain ⟨_, _, _, e, _⟩ := h
  rw [z, e] at hp; cases hp
theorem StrmAt.upd {H : Hp} {sr D : Addr} {m : Nat} {o : HO} (h : StrmAt H sr m) (ne : D ≠ sr) : StrmAt (upd H D o) sr m := by
  obtain ⟨a, b, c, e, r⟩ := h
  exact ⟨a, b, c, by rw [upd_ne (fun z => ne z.symm)]; exact e, r⟩
theorem SameBut.newD {H H' : Hp} {st O : Addr} {o : HO} (h : SameBut st H H') (hO : H O = none) : SameBut st H (upd H' O o) := fun b u hb e => by rw [upd_ne (ne_of_none e hO)]; exact h b u hb e
def spDraw : Sp := fun vs H Q _ => ∃ (sr : Addr) (m : Nat) (many : Int), vs = [.ref sr, .int many] ∧ StrmAt H sr m ∧ m ≤ 10 ^ 9 ∧ 0 < many ∧ many ≤ 10 ^ 6 ∧ ∀ r H', 0 ≤ r → r < many → StrmAt H' sr (m + 1) → SameBut sr H H' → Q (.int r) H'
theorem sc__law_draw : FnScope ["_law_stream_here", "_law_many", "_law_digit", "_law_number"] ["_law_stream_here", "_law_many"] (defScope sDraw) := ⟨rfl, rfl, rfl, by decide +kernel, rfl, by decide +kernel, by decide +kernel⟩
theorem ok__law_draw (T : Txt K mg) : Cal P w K mg base CX0 (2) (ga K "_law_draw") ["_law_stream_here", "_law_many"] spDraw := by
  obtain ⟨fd, F⟩ := T.f__law_draw
  refine ⟨fd, ?_, F.kp, F.bindsN fun _ _ _ _ _ _ us hl => match us, hl with | [_, _], _ => rfl⟩
  refine F.ok sc__law_draw (fun vs H Q E h => ?_) (fun cdv A outer s H vs Q E hr h => ?_)
  · obtain ⟨_, _, _, rfl, _⟩ := h
    rfl
  have nod := sc__law_draw.nd
  have hu := hu_of hr
  refine ⟨_, PSs.nox (pss_cons (ps_asg (pe_op op_add (pe_ix ix_list (pv 0) pe_int (fun _ _ => rfl)) pe_int) (pg_sub (pv 0) pe_int set_list))
  (pss_cons (ps_if (pt_cmpR op_gt (pe_ix ix_list (pv 0) pe_int (fun _ _ => rfl)) pe_int (nomark _))
    (pss_cons (ps_set (i := 2) nod rfl (Or.inl rfl) (pe_op op_mod (pe_callTy call_int1 rfl (T.f "int") (by decide +kernel) (pa_cons (pe_ix ix_list (pv 0) pe_int (fun _ _ => rfl)) pa_nil)) (pv 1)))
    (pss_cons (ps_asg (pe_op op_fdiv (pe_ix ix_list (pv 0) pe_int (fun _ _ => rfl)) (pv 1)) (pg_sub (pv 0) pe_int set_list))
    (pss_one (ps_ret (pv 2)))))
    pss_nil)
  (pss_cons (ps_set (i := 3) nod rfl (Or.inl rfl) (pe_op op_mod (pe_callTy call_int1 rfl (T.f "int") (by decide +kernel) (pa_cons (pe_op op_pow (pe_op op_add (pe_op op_add (pe_ix ix_list (pv 0) pe_int (fun _ _ => rfl)) (pe_op op_mul pe_int (pe_ix ix_list (pv 0) pe_int (fun _ _ => rfl)))) pe_int) pe_int) pa_nil)) pe_int))
  (pss_cons (ps_set (i := 3) nod rfl (Or.inl rfl) (pe_op op_mod (pe_callTy call_int1 rfl (T.f "int") (by decide +kernel) (pa_cons (pe_op op_mul (pv 3) (pe_op op_add (pe_op op_fdiv (pv 3) pe_int) pe_int)) pa_nil)) pe_int))
  (pss_cons (ps_set (i := 3) nod rfl (Or.inl rfl) (pe_op op_mod (pe_callTy call_int1 rfl (T.f "int") (by decide +kernel) (pa_cons (pe_op op_mul (pv 3) (pe_op op_add (pe_op op_fdiv (pv 3) pe_int) pe_int)) pa_nil)) pe_int))
  (pss_one (ps_ret (pe_op op_mod (pe_callTy call_int1 rfl (T.f "int") (by decide +kernel) (pa_cons (pe_op op_fdiv (pv 3) pe_int) pa_nil)) (pv 1))))))))), ?_⟩
  obtain ⟨sr, m, many, rfl, ⟨a, b, c, e, a0, b0, b1, c0, c1⟩, hm, m0, m1, q⟩ := h
  have dv : CDiv a many := ⟨m0, by omega⟩
  row_room_at rd
  refine rd_gSub ?_
  row_room_at rd
  refine rd_setL e rfl fun H1 B1 e1 => ?_
  replace e1 : H1 sr = some (.lst [.int a, .int b, .int (c + 1)]) := e1
  row_room_at rd
  by_cases ha : a > 0
  · refine ite2 (fun _ => ?_) (fun h => absurd (decide_eq_true ha) h)
    row_room_at rd
    refine rd_gSub ?_
    row_room_at rd
    refine rd_setL e1 rfl fun H2 B2 e2 => ?_
    replace e2 : H2 sr = some (.lst [.int (a / many), .int b, .int (c + 1)]) := e2
    row_room_at rd
    exact q _ _ (Int.emod_nonneg _ (by omega)) (Int.emod_lt_of_pos _ m0) ⟨_, b, c + 1, e2, Int.ediv_nonneg a0 (by omega), b0, b1, by omega, by omega⟩ (fun b' o' n' h' => B2 _ _ n' (B1 _ _ n' h'))
  · refine ite2 (fun h => absurd (of_decide_eq_true h) ha) (fun _ => ?_)
    row_room_at rd
    exact q _ _ (Int.emod_nonneg _ (by omega)) (Int.emod_lt_of_pos _ m0) ⟨a, b, c + 1, e1, a0, b0, b1, by omega, by omega⟩ B1
def spStream : Sp := fun vs H Q _ => ∃ (n : Int), vs = [.int n] ∧ ∀ l H', H l = none → Same H H' → StrmAt H' l 0 → Q (.ref l) H'
theorem sc__law_stream : FnScope ["_law_cell"] ["_law_cell"] (defScope s__law_stream) := ⟨rfl, rfl, rfl, by decide +kernel, rfl, by decide +kernel, by decide +kernel⟩
theorem ok__law_stream (T : Txt K mg) : Cal P w K mg base CX0 (2) (ga K "_law_stream") ["_law_cell"] spStream := by
  obtain ⟨fd, F⟩ := T.f__law_stream
  refine ⟨fd, ?_, F.kp, F.bindsN fun _ _ _ _ _ _ us hl => match us, hl with | [_], _ => rfl⟩
  refine F.ok sc__law_stream (fun vs H Q E h => ?_) (fun cdv A outer s H vs Q E hr h => ?_)
  · obtain ⟨_, rfl, _⟩ := h
    rfl
  have nod := sc__law_stream.nd
  have hu := hu_of hr
  refine ⟨_, PSs.nox (pss_cons (ps_if (pt_cmpR op_ge (pv 0) (pe_op op_pow pe_int pe_int) (nomark _))
    (pss_one (ps_ret (pe_lst (pa_cons (pv 0) (pa_cons (pe_op op_mod (pe_callTy call_int1 rfl (T.f "int") (by decide +kernel) (pa_cons (pv 0) pa_nil)) pe_int) (pa_cons pe_int pa_nil))))))
    pss_nil)
  (pss_one (ps_ret (pe_lst (pa_cons pe_int (pa_cons (pe_op op_mod (pe_callTy call_int1 rfl (T.f "int") (by decide +kernel) (pa_cons (pv 0) pa_nil)) pe_int) (pa_cons pe_int pa_nil))))))), ?_⟩
  obtain ⟨n, rfl, q⟩ := h
  row_room_at rd
  refine ite2 (fun hc => ?_) (fun hc => ?_)
  · have hc := of_decide_eq_true hc
    row_room_at rd
    refine rd_new fun p H' hp s e => ?_
    exact q p H' hp s ⟨n, _, 0, e, (by have : (0 : Int) ≤ 10 ^ (18 : Int).toNat := by decide
                                       omega), Int.emod_nonneg _ (by decide), Int.emod_lt_of_pos _ (by decide), by decide, by decide⟩
  · row_room_at rd
    refine rd_new fun p H' hp s e => ?_
    exact q p H' hp s ⟨0, _, 0, e, by decide, Int.emod_nonneg _ (by decide), Int.emod_lt_of_pos _ (by decide), by decide, by decide⟩

end
end KM
set_option Elab.async false
set_option linter.all false
set_option maxRecDepth 100000
set_option maxHeartbeats 8000000
namespace KM
open PySem PySem.Spec PyProof.Rows L2 He Sw L2H
section
variable {P : Program} {w : World} {K : PySem.W.Frag} {mg : Str → Option Value} {base : Heap}
mutual
def Fo.Pre : Fo → Prop
  | .num n => 0 ≤ n ∧ n < 10 ^ 30
  | .nam z => GoodN z
  | .neg a => a.Pre
  | .shl a n => 0 ≤ n ∧ n ≤ 64 ∧ a.Pre
  | .bin _ a b => a.Pre ∧ b.Pre
  | .sum i b a => GoodN i ∧ b.leaf ∧ b.Ok ∧ a.Pre
  | .call z as => GoodN z ∧ 1 ≤ as.length ∧ as.length ≤ 4 ∧ Fo.PreL as
def Fo.PreL : List Fo → Prop
  | [] => True
  | f :: fs => f.Pre ∧ Fo.PreL fs
end
theorem Fo.preL_snoc : ∀ {fs : List Fo} {f : Fo}, Fo.PreL fs → f.Pre → Fo.PreL (fs ++ [f])
  | [], f, _, h => ⟨h, trivial⟩
  | g :: fs, f, h, h' => ⟨h.1, Fo.preL_snoc h.2 h'⟩
mutual
theorem Fo.Ok.pre : ∀ {f : Fo}, f.Ok → f.Pre
  | .num n, h => by simp only [Fo.Ok] at h; simp only [Fo.Pre]; exact h
  | .nam z, h => by simp only [Fo.Ok] at h; simp only [Fo.Pre]; exact h
  | .neg a, h => by simp only [Fo.Ok] at h; simp only [Fo.Pre]; exact Fo.Ok.pre h
  | .shl a n, h => by simp only [Fo.Ok] at h; simp only [Fo.Pre]; exact ⟨h.1, h.2.1, Fo.Ok.pre h.2.2⟩
  | .bin o a b, h => by simp only [Fo.Ok] at h; simp only [Fo.Pre]; exact ⟨Fo.Ok.pre h.1, Fo.Ok.pre h.2⟩
  | .sum i b a, h => by simp only [Fo.Ok] at h; simp only [Fo.Pre]; exact ⟨h.1, h.2.1, h.2.2.1, Fo.Ok.pre h.2.2.2.2.2⟩
  | .call z as, h => by simp only [Fo.Ok] at h; simp only [Fo.Pre]; exact ⟨h.1, h.2.1, h.2.2.1, Fo.OkL.pre h.2.2.2⟩
theorem Fo.OkL.pre : ∀ {fs : List Fo}, Fo.OkL fs → Fo.PreL fs
  | [], _ => trivial
  | f :: fs, h => ⟨Fo.Ok.pre h.1, Fo.OkL.pre h.2⟩
end

end
end KM
set_option Elab.async false
set_option linter.all false
set_option maxRecDepth 100000
set_option maxHeartbeats 8000000
namespace KM
open PySem PySem.Spec PyProof.Rows L2 He Sw L2H
section
variable {P : Program} {w : World} {K : PySem.W.Frag} {mg : Str → Option Value} {base : Heap}
local macro_rules | `(tactic| row_room_at ne) => `(tactic| with_reducible assumption)
local macro_rules | `(tactic| row_room_at hp) => `(tactic| (apply SameBut.use; with_reducible assumption; rotate_left; row_room_at hp; row_room_at ne))
local macro_rules | `(tactic| row_room_at hp) => `(tactic| (apply FoAt.same; rotate_left; with_reducible assumption; row_room_at hp))
local macro_rules | `(tactic| row_room_at hp) => `(tactic| (apply Sw.Same.use; with_reducible assumption; row_room_at hp))
local macro_rules | `(tactic| row_room_at hp) => `(tactic| (apply SqT.of; row_room_at hp))
local macro_rules | `(tactic| row_room_at hp) => `(tactic| (apply SqL.of; row_room_at hp))
local macro_rules | `(tactic| row_room_at hp) => `(tactic| with_reducible assumption)
local macro_rules | `(tactic| row_room_at ati) => `(tactic| first | with_reducible assumption | rfl | (apply atI_nat; rfl))
local macro_rules | `(tactic| row_room_at cc) => `(tactic| first | with_reducible assumption | omega | decide | (refine ⟨?_, ?_⟩ <;> first | decide | omega) | (refine ⟨?_, ?_, ?_⟩ <;> first | decide | omega) | (left; refine ⟨?_, ?_⟩ <;> first | decide | omega) | (right; refine ⟨?_, ?_⟩ <;> first | decide | omega))
local macro_rules | `(tactic| row_room_at rdts) => `(tactic| with_reducible apply rd_retN)
local macro_rules | `(tactic| row_room_at rdts) => `(tactic| with_reducible apply rd_cont)
local macro_rules | `(tactic| row_room_at rdts) => `(tactic| with_reducible apply rd_brk)
local macro_rules | `(tactic| row_room_at rdts) => `(tactic| with_reducible apply rd_dput)
local macro_rules | `(tactic| row_room_at rdts) => `(tactic| with_reducible apply rd_drop)
local macro_rules | `(tactic| row_room_at rdts) => `(tactic| with_reducible apply rd_for)
local macro_rules | `(tactic| row_room_at rdts) => `(tactic| with_reducible apply rd_ret)
local macro_rules | `(tactic| row_room_at rdts) => `(tactic| with_reducible apply rd_next)
local macro_rules | `(tactic| row_room_at rdts) => `(tactic| with_reducible apply rd_ifS)
local macro_rules | `(tactic| row_room_at rdts) => `(tactic| with_reducible apply rd_asg)
local macro_rules | `(tactic| row_room_at rdts) => `(tactic| with_reducible refine rd_seqN fun _ _ => ?_)
local macro_rules | `(tactic| row_room_at rdit) => `(tactic| with_reducible refine rd_iteNF (by with_unfolding_all decide +kernel) ?_)
local macro_rules | `(tactic| row_room_at rdit) => `(tactic| with_reducible refine rd_iteNT (by with_unfolding_all decide +kernel) ?_)
local macro_rules | `(tactic| row_room_at rdit) => `(tactic| with_reducible apply rd_iteN0)
local macro_rules | `(tactic| row_room_at rdit) => `(tactic| with_reducible apply rd_iteN1)
local macro_rules | `(tactic| row_room_at rdit) => `(tactic| with_reducible apply rd_ite1)
local macro_rules | `(tactic| row_room_at rdit) => `(tactic| with_reducible apply rd_ite0)
local macro_rules | `(tactic| row_room_at rdit) => `(tactic| with_reducible refine rd_iteT (by with_unfolding_all decide +kernel) ?_)
local macro_rules | `(tactic| row_room_at rdit) => `(tactic| with_reducible refine rd_iteF (by with_unfolding_all decide +kernel) ?_)
local macro_rules | `(tactic| row_room_at rdex) => `(tactic| with_reducible refine rd_ty (by with_unfolding_all row_room_at hp) ?_)
local macro_rules | `(tactic| row_room_at rdex) => `(tactic| with_reducible refine rd_itup' (by with_unfolding_all row_room_at hp) ?_)
local macro_rules | `(tactic| row_room_at rdex) => `(tactic| with_reducible refine rd_ilist' (by with_unfolding_all row_room_at hp) ?_)
local macro_rules | `(tactic| row_room_at rdex) => `(tactic| with_reducible apply rd_1B)
local macro_rules | `(tactic| row_room_at rdex) => `(tactic| with_reducible refine rd_dgetS (by with_unfolding_all row_room_at hp) (by with_unfolding_all assumption) ?_)
local macro_rules | `(tactic| row_room_at rdex) => `(tactic| with_reducible refine rd_dget' (by with_unfolding_all row_room_at hp) (by with_unfolding_all rfl) (by with_unfolding_all assumption) ?_)
local macro_rules | `(tactic| row_room_at rdex) => `(tactic| with_reducible refine rd_len (by with_unfolding_all first | exact .inl (by row_room_at hp) | exact .inr (by row_room_at hp)) ?_)
local macro_rules | `(tactic| row_room_at rdex) => `(tactic| with_reducible refine rd_lenQ (by with_unfolding_all first | exact .inl (by row_room_at hp) | exact .inr (by row_room_at hp)) ?_)
local macro_rules | `(tactic| row_room_at rdex) => `(tactic| with_reducible apply rd_2I)
local macro_rules | `(tactic| row_room_at rdex) => `(tactic| with_reducible refine rd_b62 (by with_unfolding_all first | decide | (constructor <;> omega)) ?_)
local macro_rules | `(tactic| row_room_at rdex) => `(tactic| with_reducible apply rd_1I)
local macro_rules | `(tactic| row_room_at rdex) => `(tactic| with_reducible apply rd_int1)
local macro_rules | `(tactic| row_room_at rdex) => `(tactic| with_reducible apply rd_iv)
local macro_rules | `(tactic| row_room_at rdex) => `(tactic| with_reducible refine rd_sz (by with_unfolding_all first | decide | (simp only [List.length_append, List.length_map, List.length_cons, List.length_nil, List.length_take]; omega)) ?_)
local macro_rules | `(tactic| row_room_at rdex) => `(tactic| with_reducible apply rd_bl)
local macro_rules | `(tactic| row_room_at rdhd) => `(tactic| with_reducible refine rd_append (by with_unfolding_all row_room_at hp) (by with_unfolding_all first | decide | (simp only [List.length_append, List.length_map, List.length_cons, List.length_nil]; omega)) ?_)
local macro_rules | `(tactic| row_room_at rdhd) => `(tactic| with_reducible apply rd_bm)
local macro_rules | `(tactic| row_room_at rdhd) => `(tactic| with_reducible apply rd_yes)
local macro_rules | `(tactic| row_room_at rdhd) => `(tactic| with_reducible apply rd_lc)
local macro_rules | `(tactic| row_room_at rdhd) => `(tactic| with_reducible apply rd_itup)
local macro_rules | `(tactic| row_room_at rdhd) => `(tactic| with_reducible apply rd_ilist)
local macro_rules | `(tactic| row_room_at rdhd) => `(tactic| with_reducible refine rd_dictK (by with_unfolding_all row_room_at hp) ?_)
local macro_rules | `(tactic| row_room_at rdhd) => `(tactic| with_reducible refine rd_lenK (by with_unfolding_all first | exact .inl (by row_room_at hp) | exact .inr (by row_room_at hp)) ?_)
local macro_rules | `(tactic| row_room_at rdhd) => `(tactic| with_reducible apply rd_methI)
local macro_rules | `(tactic| row_room_at rdhd) => `(tactic| with_reducible apply rd_dget)
local macro_rules | `(tactic| row_room_at rdhd) => `(tactic| with_reducible apply rd_if)
local macro_rules | `(tactic| row_room_at rdhd) => `(tactic| with_reducible apply rd_notV)
local macro_rules | `(tactic| row_room_at rdhd) => `(tactic| with_reducible apply rd_orV)
local macro_rules | `(tactic| row_room_at rdhd) => `(tactic| with_reducible apply rd_andV)
local macro_rules | `(tactic| row_room_at rdhd) => `(tactic| with_reducible apply rd_U)
local macro_rules | `(tactic| row_room_at rdhd) => `(tactic| with_reducible apply rd_un)
local macro_rules | `(tactic| row_room_at rdhd) => `(tactic| with_reducible refine rd_cat (by with_unfolding_all row_room_at hp) (by with_unfolding_all row_room_at hp) (by with_unfolding_all first | decide | (simp only [List.length_append, List.length_map, List.length_cons, List.length_nil, List.length_take]; omega)) ?_)
local macro_rules | `(tactic| row_room_at rdhd) => `(tactic| with_reducible refine rd_slL (by with_unfolding_all row_room_at hp) ?_)
local macro_rules | `(tactic| row_room_at rdhd) => `(tactic| with_reducible apply rd_nopart)
local macro_rules | `(tactic| row_room_at rdhd) => `(tactic| with_reducible apply rd_make)
local macro_rules | `(tactic| row_room_at rdhd) => `(tactic| with_reducible apply rd_kt)
local macro_rules | `(tactic| row_room_at rdhd) => `(tactic| with_reducible apply rd_rng1)
local macro_rules | `(tactic| row_room_at rdhd) => `(tactic| with_reducible refine rd_ne (by with_unfolding_all rfl) ?_)
local macro_rules | `(tactic| row_room_at rdhd) => `(tactic| with_reducible apply rd_and)
local macro_rules | `(tactic| row_room_at rdhd) => `(tactic| with_reducible apply rd_B)
local macro_rules | `(tactic| row_room_at rdhd) => `(tactic| with_reducible apply rd_not)
local macro_rules | `(tactic| row_room_at rdhd) => `(tactic| with_reducible refine rd_ixL (by with_unfolding_all row_room_at hp) (by with_unfolding_all row_room_at ati) ?_)
local macro_rules | `(tactic| row_room_at rdhd) => `(tactic| with_reducible apply rd_sl)
local macro_rules | `(tactic| row_room_at rdhd) => `(tactic| with_reducible refine rd_I (by with_unfolding_all row_room_at cc) ?_)
local macro_rules | `(tactic| row_room_at rdhd) => `(tactic| with_reducible apply rd_or)
local macro_rules | `(tactic| row_room_at rdhd) => `(tactic| with_reducible apply rd_lst)
local macro_rules | `(tactic| row_room_at rdhd) => `(tactic| with_reducible apply rd_part)
local macro_rules | `(tactic| row_room_at rdhd) => `(tactic| with_reducible apply rd_tup)
local macro_rules | `(tactic| row_room_at rdhd) => `(tactic| with_reducible apply rd_I0)
local macro_rules | `(tactic| row_room_at rdhd) => `(tactic| with_reducible apply rd_CB)
local macro_rules | `(tactic| row_room_at rdhd) => `(tactic| with_reducible refine rd_ixT (by with_unfolding_all row_room_at hp) (by with_unfolding_all row_room_at ati) ?_)
local macro_rules | `(tactic| row_room_at rdhd) => `(tactic| with_reducible refine rd_eq (by with_unfolding_all rfl) ?_)
local macro_rules | `(tactic| row_room_at rdhd) => `(tactic| with_reducible apply rd_call)
local macro_rules | `(tactic| row_room_at rdhd) => `(tactic| with_reducible apply rd_gName)
local macro_rules | `(tactic| row_room_at rdhd) => `(tactic| with_reducible apply rd_test)
local macro_rules | `(tactic| row_room_at rdhd) => `(tactic| with_reducible apply rd_cons)
local macro_rules | `(tactic| row_room_at rdhd) => `(tactic| with_reducible apply rd_consC)
local macro_rules | `(tactic| row_room_at rdhd) => `(tactic| with_reducible refine rd_consV (by with_unfolding_all rfl) ?_)
local macro_rules | `(tactic| row_room_at rdhd) => `(tactic| with_reducible apply rd_nil)
local macro_rules | `(tactic| row_room_at rdhd) => `(tactic| with_reducible apply rd_c)
local macro_rules | `(tactic| row_room_at rdhd) => `(tactic| with_reducible refine rd_var (by with_unfolding_all rfl) ?_)
local macro_rules | `(tactic| row_room_at rdhd) => `(tactic| with_reducible apply rd_op)
local macro_rules | `(tactic| row_room_at rdsz) => `(tactic| with_reducible refine rd_sz (by with_unfolding_all first | decide | (simp only [List.length_append, List.length_map, List.length_cons, List.length_nil, List.length_take]; omega)) ?_)
local macro_rules | `(tactic| row_room_at rd1) => `(tactic| with_reducible refine rd_unN (by with_reducible assumption) ?_)
local macro_rules | `(tactic| row_room_at rd1) => `(tactic| ((fail_if_success with_reducible apply g_sp); (fail_if_success with_reducible apply g_ite); row_room_at rdex))
local macro_rules | `(tactic| row_room_at rd1) => `(tactic| ((fail_if_success with_reducible apply g_sp); (fail_if_success with_reducible intro _); row_room_at rdhd))
local macro_rules | `(tactic| row_room_at rd1) => `(tactic| row_room_at rdsz)
local macro_rules | `(tactic| row_room_at rd1) => `(tactic| ((with_reducible apply g_ex); row_room_at rdex))
local macro_rules | `(tactic| row_room_at rd1) => `(tactic| ((with_reducible apply g_ite); row_room_at rdit))
local macro_rules | `(tactic| row_room_at rd1) => `(tactic| ((with_reducible apply g_ts); row_room_at rdts))
local macro_rules | `(tactic| row_room_at rd) => `(tactic| repeat row_room_at rd1)
theorem log_small {n : Nat} (h : n < 10 ^ 30) : ((n : Int)).natAbs.log2 < 1920 := by
  rw [Int.natAbs_natCast]
  by_cases z : n = 0
  · rw [z]; decide
  · refine (Nat.log2_lt z).mpr (Nat.lt_trans h ?_)
    exact Nat.lt_of_lt_of_le (show 10 ^ 30 < 2 ^ 100 by decide) (Nat.pow_le_pow_right (by decide) (by decide))
theorem num_len {n : Nat} (h : n < 10 ^ 30) : (Str.ofString (toString (n : Int))).length ≤ 30 := by
  rw [TL.len_tl, TL.tl_num]
  exact TL.numL_len (by decide) h
mutual
def TrW (H0 H : Hp) : Fo → Addr → Prop
  | .num n, t => H t = some (.tup [.str "number", .int n])
  | .nam z, t => H t = some (.tup [.str "name", .str z])
  | .neg f, t => ∃ a, H t = some (.tup [.str "negative", .ref a]) ∧ TrW H0 H f a
  | .shl f n, t => ∃ a, H t = some (.tup [.str "shift", .ref a, .int n]) ∧ TrW H0 H f a
  | .bin o f g, t => ∃ a b, H t = some (.tup [.str o.str, .ref a, .ref b]) ∧ TrW H0 H f a ∧ TrW H0 H g b
  | .sum i b f, t => ∃ c a, H t = some (.tup [.str "sum", .str i, .ref c, .ref a]) ∧ TrW H0 H b c ∧ TrW H0 H f a
  | .call z fs, t => ∃ l xs, H t = some (.tup [.str "call", .str z, .ref l]) ∧ H l = some (.lst (xs.map V.ref)) ∧ H0 l = none ∧ TrWs H0 H fs xs
def TrWs (H0 H : Hp) : List Fo → List Addr → Prop
  | [], xs => xs = []
  | f :: fs, xs => ∃ a as, xs = a :: as ∧ TrW H0 H f a ∧ TrWs H0 H fs as
end
theorem at_of {xs : List V} {r : Int} (h0 : 0 ≤ r) (h1 : r < xs.length) : ∃ x, atI xs r = some x ∧ x ∈ xs := by
  obtain ⟨j, rfl⟩ := Int.eq_ofNat_of_zero_le h0
  have hj : j < xs.length := by omega
  exact ⟨xs[j], atI_nat (List.getElem?_eq_getElem hj), List.getElem_mem hj⟩
/-! ### _law_leaf -/
def sixN : List Str := ["i", "j", "n", "x", "inner", "abcdefgh"]
theorem six_good : ∀ z ∈ sixN, isNmS z = true ∧ z.length ≤ 8 := by decide +kernel
def spLeaf : Sp := fun vs H Q _ => ∃ (sr : Addr) (m : Nat), vs = [.ref sr] ∧ StrmAt H sr m ∧ m + 5 ≤ 10 ^ 9 ∧ ∀ f t H', f.leaf → f.Ok → TrW H H' f t → StrmAt H' sr (m + 5) → SameBut sr H H' → Q (.ref t) H'
theorem sc__law_leaf : FnScope ["_law_stream_here", "_law_words"] ["_law_stream_here"] (defScope sLeaf) := ⟨rfl, rfl, rfl, by decide +kernel, rfl, by decide +kernel, by decide +kernel⟩
theorem ok__law_leaf (T : Txt K mg) : Cal P w K mg base CX0 (4) (ga K "_law_leaf") ["_law_stream_here"] spLeaf := by
  obtain ⟨fd, F⟩ := T.f__law_leaf
  refine ⟨fd, ?_, F.kp, F.bindsN fun _ _ _ _ _ _ us hl => match us, hl with | [_], _ => rfl⟩
  refine F.ok sc__law_leaf (fun vs H Q E h => ?_) (fun cdv A outer s H vs Q E hr h => ?_)
  · obtain ⟨_, _, rfl, _⟩ := h
    rfl
  have nod := sc__law_leaf.nd
  have hu := hu_of hr
  refine ⟨_, PSs.nox (pss_cons (ps_set (i := 1) nod rfl (Or.inl rfl) (pe_lst (pa_cons pe_str (pa_cons pe_str (pa_cons pe_str (pa_cons pe_str (pa_cons pe_str (pa_cons pe_str pa_nil))))))))
  (pss_cons (ps_if (pt_cmpR op_eq (pe_callC (ok__law_draw T) (hr.mono (by omega)) rfl (T.g "_law_draw") pass0 (pa_cons (pv 0) (pa_cons pe_int pa_nil))) pe_int (nomark _))
    (pss_one (ps_ret (pe_tup (pa_cons pe_str (pa_cons (pe_callC (ok__law_draw T) (hr.mono (by omega)) rfl (T.g "_law_draw") pass0 (pa_cons (pv 0) (pa_cons pe_int pa_nil))) pa_nil)))))
    pss_nil)
  (pss_one (ps_ret (pe_tup (pa_cons pe_str (pa_cons (pe_ix ix_list (pv 1) (pe_callC (ok__law_draw T) (hr.mono (by omega)) rfl (T.g "_law_draw") pass0 (pa_cons (pv 0) (pa_cons pe_int pa_nil))) (fun _ _ => rfl)) pa_nil))))))), ?_⟩
  obtain ⟨sr, m, rfl, S, hm, q⟩ := h
  row_room_at rd
  refine rd_new fun W H1 hK s1 eK => ?_
  replace eK : H1 W = some (.lst (sixN.map V.str)) := eK
  have nK := S.ne_new hK
  have S1 := S.same s1
  have B1 : SameBut sr H H1 := SameBut.of s1
  row_room_at rd
  refine ⟨sr, m, 3, rfl, S1, by omega, by decide, by decide, fun r H2 r0 r1 S2 b2 => ?_⟩
  have B2 := B1.trans b2
  row_room_at rd
  refine ite2 (fun _ => ?_) (fun _ => ?_)
  · row_room_at rd
    refine ⟨sr, m + 1, 1000, rfl, S2, by omega, by decide, by decide, fun n H3 n0 n1 S3 b3 => ?_⟩
    row_room_at rd
    refine rd_new fun t H4 ht s4 e4 => ?_
    exact q (.num n) t H4 trivial ⟨n0, Int.lt_of_lt_of_le n1 (by decide)⟩ (by simp only [TrW]; exact e4) ((S3.same s4).mono (by omega)) ((B2.trans b3).trans (SameBut.of s4))
  · row_room_at rd
    refine ⟨sr, m + 1, 6, rfl, S2, by omega, by decide, by decide, fun r' H3 r0 r1 S3 b3 => ?_⟩
    obtain ⟨x, ex, hx⟩ := at_of (xs := sixN.map V.str) r0 (by show r' < 6; omega)
    obtain ⟨z, hz, rfl⟩ := List.mem_map.mp hx
    have g := six_good z hz
    refine rd_ixL (SqL.of (b3 _ _ nK (b2 _ _ nK eK))) ex ?_
    row_room_at rd
    refine rd_new fun t H4 ht s4 e4 => ?_
    exact q (.nam z) t H4 trivial ⟨g.1, by have := g.2; omega⟩ (by simp only [TrW]; exact e4) ((S3.same s4).mono (by omega)) ((B2.trans b3).trans (SameBut.of s4))

end
end KM
set_option Elab.async false
set_option linter.all false
set_option maxRecDepth 100000
set_option maxHeartbeats 8000000
namespace KM
open PySem PySem.Spec PyProof.Rows L2 He Sw L2H
section
variable {P : Program} {w : World} {K : PySem.W.Frag} {mg : Str → Option Value} {base : Heap}
local macro_rules | `(tactic| row_room_at ne) => `(tactic| with_reducible assumption)
local macro_rules | `(tactic| row_room_at hp) => `(tactic| (apply SameBut.use; with_reducible assumption; rotate_left; row_room_at hp; row_room_at ne))
local macro_rules | `(tactic| row_room_at hp) => `(tactic| (apply FoAt.same; rotate_left; with_reducible assumption; row_room_at hp))
local macro_rules | `(tactic| row_room_at hp) => `(tactic| (apply Sw.Same.use; with_reducible assumption; row_room_at hp))
local macro_rules | `(tactic| row_room_at hp) => `(tactic| (apply SqT.of; row_room_at hp))
local macro_rules | `(tactic| row_room_at hp) => `(tactic| (apply SqL.of; row_room_at hp))
local macro_rules | `(tactic| row_room_at hp) => `(tactic| with_reducible assumption)
local macro_rules | `(tactic| row_room_at ati) => `(tactic| first | with_reducible assumption | rfl | (apply atI_nat; rfl))
local macro_rules | `(tactic| row_room_at cc) => `(tactic| first | with_reducible assumption | omega | decide | (refine ⟨?_, ?_⟩ <;> first | decide | omega) | (refine ⟨?_, ?_, ?_⟩ <;> first | decide | omega) | (left; refine ⟨?_, ?_⟩ <;> first | decide | omega) | (right; refine ⟨?_, ?_⟩ <;> first | decide | omega))
local macro_rules | `(tactic| row_room_at rdts) => `(tactic| with_reducible apply rd_retN)
local macro_rules | `(tactic| row_room_at rdts) => `(tactic| with_reducible apply rd_cont)
local macro_rules | `(tactic| row_room_at rdts) => `(tactic| with_reducible apply rd_brk)
local macro_rules | `(tactic| row_room_at rdts) => `(tactic| with_reducible apply rd_dput)
local macro_rules | `(tactic| row_room_at rdts) => `(tactic| with_reducible apply rd_drop)
local macro_rules | `(tactic| row_room_at rdts) => `(tactic| with_reducible apply rd_for)
local macro_rules | `(tactic| row_room_at rdts) => `(tactic| with_reducible apply rd_ret)
local macro_rules | `(tactic| row_room_at rdts) => `(tactic| with_reducible apply rd_next)
local macro_rules | `(tactic| row_room_at rdts) => `(tactic| with_reducible apply rd_ifS)
local macro_rules | `(tactic| row_room_at rdts) => `(tactic| with_reducible apply rd_asg)
local macro_rules | `(tactic| row_room_at rdts) => `(tactic| with_reducible refine rd_seqN fun _ _ => ?_)
local macro_rules | `(tactic| row_room_at rdit) => `(tactic| with_reducible refine rd_iteNF (by with_unfolding_all decide +kernel) ?_)
local macro_rules | `(tactic| row_room_at rdit) => `(tactic| with_reducible refine rd_iteNT (by with_unfolding_all decide +kernel) ?_)
local macro_rules | `(tactic| row_room_at rdit) => `(tactic| with_reducible apply rd_iteN0)
local macro_rules | `(tactic| row_room_at rdit) => `(tactic| with_reducible apply rd_iteN1)
local macro_rules | `(tactic| row_room_at rdit) => `(tactic| with_reducible apply rd_ite1)
local macro_rules | `(tactic| row_room_at rdit) => `(tactic| with_reducible apply rd_ite0)
local macro_rules | `(tactic| row_room_at rdit) => `(tactic| with_reducible refine rd_iteT (by with_unfolding_all decide +kernel) ?_)
local macro_rules | `(tactic| row_room_at rdit) => `(tactic| with_reducible refine rd_iteF (by with_unfolding_all decide +kernel) ?_)
local macro_rules | `(tactic| row_room_at rdex) => `(tactic| with_reducible refine rd_ty (by with_unfolding_all row_room_at hp) ?_)
local macro_rules | `(tactic| row_room_at rdex) => `(tactic| with_reducible refine rd_itup' (by with_unfolding_all row_room_at hp) ?_)
local macro_rules | `(tactic| row_room_at rdex) => `(tactic| with_reducible refine rd_ilist' (by with_unfolding_all row_room_at hp) ?_)
local macro_rules | `(tactic| row_room_at rdex) => `(tactic| with_reducible apply rd_1B)
local macro_rules | `(tactic| row_room_at rdex) => `(tactic| with_reducible refine rd_dgetS (by with_unfolding_all row_room_at hp) (by with_unfolding_all assumption) ?_)
local macro_rules | `(tactic| row_room_at rdex) => `(tactic| with_reducible refine rd_dget' (by with_unfolding_all row_room_at hp) (by with_unfolding_all rfl) (by with_unfolding_all assumption) ?_)
local macro_rules | `(tactic| row_room_at rdex) => `(tactic| with_reducible refine rd_len (by with_unfolding_all first | exact .inl (by row_room_at hp) | exact .inr (by row_room_at hp)) ?_)
local macro_rules | `(tactic| row_room_at rdex) => `(tactic| with_reducible refine rd_lenQ (by with_unfolding_all first | exact .inl (by row_room_at hp) | exact .inr (by row_room_at hp)) ?_)
local macro_rules | `(tactic| row_room_at rdex) => `(tactic| with_reducible apply rd_2I)
local macro_rules | `(tactic| row_room_at rdex) => `(tactic| with_reducible refine rd_b62 (by with_unfolding_all first | decide | (constructor <;> omega)) ?_)
local macro_rules | `(tactic| row_room_at rdex) => `(tactic| with_reducible apply rd_1I)
local macro_rules | `(tactic| row_room_at rdex) => `(tactic| with_reducible apply rd_int1)
local macro_rules | `(tactic| row_room_at rdex) => `(tactic| with_reducible apply rd_iv)
local macro_rules | `(tactic| row_room_at rdex) => `(tactic| with_reducible refine rd_sz (by with_unfolding_all first | decide | (simp only [List.length_append, List.length_map, List.length_cons, List.length_nil, List.length_take]; omega)) ?_)
local macro_rules | `(tactic| row_room_at rdex) => `(tactic| with_reducible apply rd_bl)
local macro_rules | `(tactic| row_room_at rdhd) => `(tactic| with_reducible refine rd_append (by with_unfolding_all row_room_at hp) (by with_unfolding_all first | decide | (simp only [List.length_append, List.length_map, List.length_cons, List.length_nil]; omega)) ?_)
local macro_rules | `(tactic| row_room_at rdhd) => `(tactic| with_reducible apply rd_bm)
local macro_rules | `(tactic| row_room_at rdhd) => `(tactic| with_reducible apply rd_yes)
local macro_rules | `(tactic| row_room_at rdhd) => `(tactic| with_reducible apply rd_lc)
local macro_rules | `(tactic| row_room_at rdhd) => `(tactic| with_reducible apply rd_itup)
local macro_rules | `(tactic| row_room_at rdhd) => `(tactic| with_reducible apply rd_ilist)
local macro_rules | `(tactic| row_room_at rdhd) => `(tactic| with_reducible refine rd_dictK (by with_unfolding_all row_room_at hp) ?_)
local macro_rules | `(tactic| row_room_at rdhd) => `(tactic| with_reducible refine rd_lenK (by with_unfolding_all first | exact .inl (by row_room_at hp) | exact .inr (by row_room_at hp)) ?_)
local macro_rules | `(tactic| row_room_at rdhd) => `(tactic| with_reducible apply rd_methI)
local macro_rules | `(tactic| row_room_at rdhd) => `(tactic| with_reducible apply rd_dget)
local macro_rules | `(tactic| row_room_at rdhd) => `(tactic| with_reducible apply rd_if)
local macro_rules | `(tactic| row_room_at rdhd) => `(tactic| with_reducible apply rd_notV)
local macro_rules | `(tactic| row_room_at rdhd) => `(tactic| with_reducible apply rd_orV)
local macro_rules | `(tactic| row_room_at rdhd) => `(tactic| with_reducible apply rd_andV)
local macro_rules | `(tactic| row_room_at rdhd) => `(tactic| with_reducible apply rd_U)
local macro_rules | `(tactic| row_room_at rdhd) => `(tactic| with_reducible apply rd_un)
local macro_rules | `(tactic| row_room_at rdhd) => `(tactic| with_reducible refine rd_cat (by with_unfolding_all row_room_at hp) (by with_unfolding_all row_room_at hp) (by with_unfolding_all first | decide | (simp only [List.length_append, List.length_map, List.length_cons, List.length_nil, List.length_take]; omega)) ?_)
local macro_rules | `(tactic| row_room_at rdhd) => `(tactic| with_reducible refine rd_slL (by with_unfolding_all row_room_at hp) ?_)
local macro_rules | `(tactic| row_room_at rdhd) => `(tactic| with_reducible apply rd_nopart)
local macro_rules | `(tactic| row_room_at rdhd) => `(tactic| with_reducible apply rd_make)
local macro_rules | `(tactic| row_room_at rdhd) => `(tactic| with_reducible apply rd_kt)
local macro_rules | `(tactic| row_room_at rdhd) => `(tactic| with_reducible apply rd_rng1)
local macro_rules | `(tactic| row_room_at rdhd) => `(tactic| with_reducible refine rd_ne (by with_unfolding_all rfl) ?_)
local macro_rules | `(tactic| row_room_at rdhd) => `(tactic| with_reducible apply rd_and)
local macro_rules | `(tactic| row_room_at rdhd) => `(tactic| with_reducible apply rd_B)
local macro_rules | `(tactic| row_room_at rdhd) => `(tactic| with_reducible apply rd_not)
local macro_rules | `(tactic| row_room_at rdhd) => `(tactic| with_reducible refine rd_ixL (by with_unfolding_all row_room_at hp) (by with_unfolding_all row_room_at ati) ?_)
local macro_rules | `(tactic| row_room_at rdhd) => `(tactic| with_reducible apply rd_sl)
local macro_rules | `(tactic| row_room_at rdhd) => `(tactic| with_reducible refine rd_I (by with_unfolding_all row_room_at cc) ?_)
local macro_rules | `(tactic| row_room_at rdhd) => `(tactic| with_reducible apply rd_or)
local macro_rules | `(tactic| row_room_at rdhd) => `(tactic| with_reducible apply rd_lst)
local macro_rules | `(tactic| row_room_at rdhd) => `(tactic| with_reducible apply rd_part)
local macro_rules | `(tactic| row_room_at rdhd) => `(tactic| with_reducible apply rd_tup)
local macro_rules | `(tactic| row_room_at rdhd) => `(tactic| with_reducible apply rd_I0)
local macro_rules | `(tactic| row_room_at rdhd) => `(tactic| with_reducible apply rd_CB)
local macro_rules | `(tactic| row_room_at rdhd) => `(tactic| with_reducible refine rd_ixT (by with_unfolding_all row_room_at hp) (by with_unfolding_all row_room_at ati) ?_)
local macro_rules | `(tactic| row_room_at rdhd) => `(tactic| with_reducible refine rd_eq (by with_unfolding_all rfl) ?_)
local macro_rules | `(tactic| row_room_at rdhd) => `(tactic| with_reducible apply rd_call)
local macro_rules | `(tactic| row_room_at rdhd) => `(tactic| with_reducible apply rd_gName)
local macro_rules | `(tactic| row_room_at rdhd) => `(tactic| with_reducible apply rd_test)
local macro_rules | `(tactic| row_room_at rdhd) => `(tactic| with_reducible apply rd_cons)
local macro_rules | `(tactic| row_room_at rdhd) => `(tactic| with_reducible apply rd_consC)
local macro_rules | `(tactic| row_room_at rdhd) => `(tactic| with_reducible refine rd_consV (by with_unfolding_all rfl) ?_)
local macro_rules | `(tactic| row_room_at rdhd) => `(tactic| with_reducible apply rd_nil)
local macro_rules | `(tactic| row_room_at rdhd) => `(tactic| with_reducible apply rd_c)
local macro_rules | `(tactic| row_room_at rdhd) => `(tactic| with_reducible refine rd_var (by with_unfolding_all rfl) ?_)
local macro_rules | `(tactic| row_room_at rdhd) => `(tactic| with_reducible apply rd_op)
local macro_rules | `(tactic| row_room_at rdsz) => `(tactic| with_reducible refine rd_sz (by with_unfolding_all first | decide | (simp only [List.length_append, List.length_map, List.length_cons, List.length_nil, List.length_take]; omega)) ?_)
local macro_rules | `(tactic| row_room_at rd1) => `(tactic| with_reducible refine rd_unN (by with_reducible assumption) ?_)
local macro_rules | `(tactic| row_room_at rd1) => `(tactic| ((fail_if_success with_reducible apply g_sp); (fail_if_success with_reducible apply g_ite); row_room_at rdex))
local macro_rules | `(tactic| row_room_at rd1) => `(tactic| ((fail_if_success with_reducible apply g_sp); (fail_if_success with_reducible intro _); row_room_at rdhd))
local macro_rules | `(tactic| row_room_at rd1) => `(tactic| row_room_at rdsz)
local macro_rules | `(tactic| row_room_at rd1) => `(tactic| ((with_reducible apply g_ex); row_room_at rdex))
local macro_rules | `(tactic| row_room_at rd1) => `(tactic| ((with_reducible apply g_ite); row_room_at rdit))
local macro_rules | `(tactic| row_room_at rd1) => `(tactic| ((with_reducible apply g_ts); row_room_at rdts))
local macro_rules | `(tactic| row_room_at rd) => `(tactic| repeat row_room_at rd1)
def SB2 (a b : Addr) (H H' : Hp) : Prop := ∀ x o, x ≠ a → x ≠ b → H x = some o → H' x = some o
theorem SB2.refl {a b : Addr} {H : Hp} : SB2 a b H H := fun _ _ _ _ h => h
theorem SB2.trans {a b : Addr} {H H1 H2 : Hp} (h : SB2 a b H H1) (g : SB2 a b H1 H2) : SB2 a b H H2 := fun x o n m e => g x o n m (h x o n m e)
theorem SB2.ofA {a b : Addr} {H H1 : Hp} (h : SameBut a H H1) : SB2 a b H H1 := fun x o n _ e => h x o n e
theorem SB2.ofB {a b : Addr} {H H1 : Hp} (h : SameBut b H H1) : SB2 a b H H1 := fun x o _ n e => h x o n e
theorem SB2.of {a b : Addr} {H H1 : Hp} (h : Same H H1) : SB2 a b H H1 := fun x o _ _ e => h x o e
theorem SB2.use {a b x : Addr} {H H1 : Hp} {o : HO} (h : SB2 a b H H1) (n : x ≠ a) (m : x ≠ b) (e : H x = some o) : H1 x = some o := h x o n m e
/-- a stream and a room -/
structure SR (H : Hp) (sr rm : Addr) (m : Nat) (r : Int) : Prop where
  S : StrmAt H sr m
  e : H rm = some (.lst [.int r])
theorem SR.ne {H : Hp} {sr rm : Addr} {m : Nat} {r : Int} (h : SR H sr rm m r) : sr ≠ rm := fun z => by
  obtain ⟨⟨a, b, c, e, _⟩, e'⟩ := h
  rw [z, e'] at e
  cases e
theorem SR.same {H H' : Hp} {sr rm : Addr} {m : Nat} {r : Int} (h : SR H sr rm m r) (s : Same H H') : SR H' sr rm m r := ⟨h.S.same s, s _ _ h.e⟩
theorem SR.strm {H H' : Hp} {sr rm : Addr} {m m' : Nat} {r : Int} (h : SR H sr rm m r) (s : SameBut sr H H') (S' : StrmAt H' sr m') : SR H' sr rm m' r := ⟨S', s _ _ (fun z => h.ne z.symm) h.e⟩
theorem SR.mono {H : Hp} {sr rm : Addr} {m m' : Nat} {r : Int} (h : SR H sr rm m r) (l : m ≤ m') : SR H sr rm m' r := ⟨h.S.mono l, h.e⟩
theorem SR.tup {H : Hp} {sr rm x : Addr} {m : Nat} {r : Int} {xs : List V} (h : SR H sr rm m r) (e : H x = some (.tup xs)) : x ≠ sr ∧ x ≠ rm := by
  obtain ⟨⟨a, b, c, e1, _⟩, e2⟩ := h
  refine ⟨fun z => ?_, fun z => ?_⟩
  · rw [z, e1] at e; cases e
  · rw [z, e2] at e; cases e
theorem SR.strs {H : Hp} {sr rm x : Addr} {m : Nat} {r : Int} {zs : List Str} (h : SR H sr rm m r) (e : H x = some (.lst (zs.map V.str))) : x ≠ sr ∧ x ≠ rm := by
  obtain ⟨⟨a, b, c, e1, _⟩, e2⟩ := h
  refine ⟨fun z => ?_, fun z => ?_⟩
  · rw [z, e1] at e; cases zs <;> cases e
  · rw [z, e2] at e; cases zs <;> cases e
theorem SR.refs {H : Hp} {sr rm x : Addr} {m : Nat} {r : Int} {xs : List Addr} (h : SR H sr rm m r) (e : H x = some (.lst (xs.map V.ref))) : x ≠ sr ∧ x ≠ rm := by
  obtain ⟨⟨a, b, c, e1, _⟩, e2⟩ := h
  refine ⟨fun z => ?_, fun z => ?_⟩
  · rw [z, e1] at e; cases xs <;> cases e
  · rw [z, e2] at e; cases xs <;> cases e
theorem SR.cast {H : Hp} {sr rm : Addr} {m m' : Nat} {r r' : Int} (h : SR H sr rm m r) (l : m ≤ m') (e : r = r') : SR H sr rm m' r' := by subst e; exact h.mono l
theorem SR.dom {H H' : Hp} {sr rm : Addr} {m' : Nat} {r' : Int} (R' : SR H' sr rm m' r') (b : SB2 sr rm H H') : ∀ x, H' x = none → H x = none := fun x hx => by
  have n : x ≠ sr ∧ x ≠ rm := ⟨R'.S.ne_new hx, fun z => by rw [z, R'.e] at hx; cases hx⟩
  cases e : H x with
  | none => rfl
  | some o => rw [b x o n.1 n.2 e] at hx; cases hx
theorem SR.new {H : Hp} {sr rm x : Addr} {m : Nat} {r : Int} (h : SR H sr rm m r) (e : H x = none) : x ≠ sr ∧ x ≠ rm := ⟨h.S.ne_new e, fun z => by rw [z, h.e] at e; cases e⟩
mutual
theorem TrW.sb2 {H0 H H' : Hp} {sr rm : Addr} {m : Nat} {r : Int} (h : SR H sr rm m r) (s : SB2 sr rm H H') : ∀ {f : Fo} {t : Addr}, TrW H0 H f t → TrW H0 H' f t
  | .num n, t, e => by
    simp only [TrW] at e ⊢
    exact s.use (h.tup e).1 (h.tup e).2 e
  | .nam z, t, e => by
    simp only [TrW] at e ⊢
    exact s.use (h.tup e).1 (h.tup e).2 e
  | .neg f, t, e => by
    simp only [TrW] at e ⊢
    obtain ⟨a, e, g⟩ := e
    exact ⟨a, s.use (h.tup e).1 (h.tup e).2 e, TrW.sb2 h s g⟩
  | .shl f n, t, e => by
    simp only [TrW] at e ⊢
    obtain ⟨a, e, g⟩ := e
    exact ⟨a, s.use (h.tup e).1 (h.tup e).2 e, TrW.sb2 h s g⟩
  | .bin o f g, t, e => by
    simp only [TrW] at e ⊢
    obtain ⟨a, b, e, g1, g2⟩ := e
    exact ⟨a, b, s.use (h.tup e).1 (h.tup e).2 e, TrW.sb2 h s g1, TrW.sb2 h s g2⟩
  | .sum i b f, t, e => by
    simp only [TrW] at e ⊢
    obtain ⟨c, a, e, g1, g2⟩ := e
    exact ⟨c, a, s.use (h.tup e).1 (h.tup e).2 e, TrW.sb2 h s g1, TrW.sb2 h s g2⟩
  | .call z fs, t, e => by
    simp only [TrW] at e ⊢
    obtain ⟨l, xs, e, e2, hn, g⟩ := e
    exact ⟨l, xs, s.use (h.tup e).1 (h.tup e).2 e, s.use (h.refs e2).1 (h.refs e2).2 e2, hn, TrWs.sb2 h s g⟩
theorem TrWs.sb2 {H0 H H' : Hp} {sr rm : Addr} {m : Nat} {r : Int} (h : SR H sr rm m r) (s : SB2 sr rm H H') : ∀ {fs : List Fo} {xs : List Addr}, TrWs H0 H fs xs → TrWs H0 H' fs xs
  | [], xs, e => by simp only [TrWs] at e ⊢; exact e
  | f :: fs, xs, e => by
    simp only [TrWs] at e ⊢
    obtain ⟨a, as, e, g1, g2⟩ := e
    exact ⟨a, as, e, TrW.sb2 h s g1, TrWs.sb2 h s g2⟩
end
mutual
theorem TrW.same {H0 H H' : Hp} (s : Same H H') : ∀ {f : Fo} {t : Addr}, TrW H0 H f t → TrW H0 H' f t
  | .num n, t, e => by simp only [TrW] at e ⊢; exact s _ _ e
  | .nam z, t, e => by simp only [TrW] at e ⊢; exact s _ _ e
  | .neg f, t, e => by
    simp only [TrW] at e ⊢
    obtain ⟨a, e, g⟩ := e
    exact ⟨a, s _ _ e, TrW.same s g⟩
  | .shl f n, t, e => by
    simp only [TrW] at e ⊢
    obtain ⟨a, e, g⟩ := e
    exact ⟨a, s _ _ e, TrW.same s g⟩
  | .bin o f g, t, e => by
    simp only [TrW] at e ⊢
    obtain ⟨a, b, e, g1, g2⟩ := e
    exact ⟨a, b, s _ _ e, TrW.same s g1, TrW.same s g2⟩
  | .sum i b f, t, e => by
    simp only [TrW] at e ⊢
    obtain ⟨c, a, e, g1, g2⟩ := e
    exact ⟨c, a, s _ _ e, TrW.same s g1, TrW.same s g2⟩
  | .call z fs, t, e => by
    simp only [TrW] at e ⊢
    obtain ⟨l, xs, e, e2, hn, g⟩ := e
    exact ⟨l, xs, s _ _ e, s _ _ e2, hn, TrWs.same s g⟩
theorem TrWs.same {H0 H H' : Hp} (s : Same H H') : ∀ {fs : List Fo} {xs : List Addr}, TrWs H0 H fs xs → TrWs H0 H' fs xs
  | [], xs, e => by simp only [TrWs] at e ⊢; exact e
  | f :: fs, xs, e => by
    simp only [TrWs] at e ⊢
    obtain ⟨a, as, e, g1, g2⟩ := e
    exact ⟨a, as, e, TrW.same s g1, TrWs.same s g2⟩
end
mutual
theorem TrW.weak {H0 H1 H : Hp} (s : ∀ x, H0 x = none → H1 x = none) : ∀ {f : Fo} {t : Addr}, TrW H0 H f t → TrW H1 H f t
  | .num n, t, e => by simp only [TrW] at e ⊢; exact e
  | .nam z, t, e => by simp only [TrW] at e ⊢; exact e
  | .neg f, t, e => by
    simp only [TrW] at e ⊢
    obtain ⟨a, e, g⟩ := e
    exact ⟨a, e, TrW.weak s g⟩
  | .shl f n, t, e => by
    simp only [TrW] at e ⊢
    obtain ⟨a, e, g⟩ := e
    exact ⟨a, e, TrW.weak s g⟩
  | .bin o f g, t, e => by
    simp only [TrW] at e ⊢
    obtain ⟨a, b, e, g1, g2⟩ := e
    exact ⟨a, b, e, TrW.weak s g1, TrW.weak s g2⟩
  | .sum i b f, t, e => by
    simp only [TrW] at e ⊢
    obtain ⟨c, a, e, g1, g2⟩ := e
    exact ⟨c, a, e, TrW.weak s g1, TrW.weak s g2⟩
  | .call z fs, t, e => by
    simp only [TrW] at e ⊢
    obtain ⟨l, xs, e, e2, hn, g⟩ := e
    exact ⟨l, xs, e, e2, s _ hn, TrWs.weak s g⟩
theorem TrWs.weak {H0 H1 H : Hp} (s : ∀ x, H0 x = none → H1 x = none) : ∀ {fs : List Fo} {xs : List Addr}, TrWs H0 H fs xs → TrWs H1 H fs xs
  | [], xs, e => by simp only [TrWs] at e ⊢; exact e
  | f :: fs, xs, e => by
    simp only [TrWs] at e ⊢
    obtain ⟨a, as, e, g1, g2⟩ := e
    exact ⟨a, as, e, TrW.weak s g1, TrWs.weak s g2⟩
end
mutual
theorem TrW.updD {H0 H : Hp} {D : Addr} {xs0 ys0 : List V} (s : H D = some (.lst xs0) ∧ H0 D ≠ none) : ∀ {f : Fo} {t : Addr}, TrW H0 H f t → TrW H0 (upd H D (.lst ys0)) f t
  | .num n, t, e => by simp only [TrW] at e ⊢; exact (by rw [upd_ne (fun z => by rw [z, s.1] at e; cases e)]; exact e)
  | .nam z, t, e => by simp only [TrW] at e ⊢; exact (by rw [upd_ne (fun z => by rw [z, s.1] at e; cases e)]; exact e)
  | .neg f, t, e => by
    simp only [TrW] at e ⊢
    obtain ⟨a, e, g⟩ := e
    exact ⟨a, (by rw [upd_ne (fun z => by rw [z, s.1] at e; cases e)]; exact e), TrW.updD s g⟩
  | .shl f n, t, e => by
    simp only [TrW] at e ⊢
    obtain ⟨a, e, g⟩ := e
    exact ⟨a, (by rw [upd_ne (fun z => by rw [z, s.1] at e; cases e)]; exact e), TrW.updD s g⟩
  | .bin o f g, t, e => by
    simp only [TrW] at e ⊢
    obtain ⟨a, b, e, g1, g2⟩ := e
    exact ⟨a, b, (by rw [upd_ne (fun z => by rw [z, s.1] at e; cases e)]; exact e), TrW.updD s g1, TrW.updD s g2⟩
  | .sum i b f, t, e => by
    simp only [TrW] at e ⊢
    obtain ⟨c, a, e, g1, g2⟩ := e
    exact ⟨c, a, (by rw [upd_ne (fun z => by rw [z, s.1] at e; cases e)]; exact e), TrW.updD s g1, TrW.updD s g2⟩
  | .call z fs, t, e => by
    simp only [TrW] at e ⊢
    obtain ⟨l, xs, e, e2, hn, g⟩ := e
    exact ⟨l, xs, (by rw [upd_ne (fun z => by rw [z, s.1] at e; cases e)]; exact e), (by rw [upd_ne (fun z => s.2 (by rw [← z]; exact hn))]; exact e2), hn, TrWs.updD s g⟩
theorem TrWs.updD {H0 H : Hp} {D : Addr} {xs0 ys0 : List V} (s : H D = some (.lst xs0) ∧ H0 D ≠ none) : ∀ {fs : List Fo} {xs : List Addr}, TrWs H0 H fs xs → TrWs H0 (upd H D (.lst ys0)) fs xs
  | [], xs, e => by simp only [TrWs] at e ⊢; exact e
  | f :: fs, xs, e => by
    simp only [TrWs] at e ⊢
    obtain ⟨a, as, e, g1, g2⟩ := e
    exact ⟨a, as, e, TrW.updD s g1, TrWs.updD s g2⟩
end
theorem TrWs.snoc {H0 H : Hp} : ∀ {fs : List Fo} {xs : List Addr} {f : Fo} {x : Addr}, TrWs H0 H fs xs → TrW H0 H f x → TrWs H0 H (fs ++ [f]) (xs ++ [x])
  | [], xs, f, x, h, g => by
    simp only [TrWs] at h
    subst h
    exact ⟨x, [], rfl, g, rfl⟩
  | f' :: fs, xs, f, x, h, g => by
    simp only [TrWs] at h
    obtain ⟨a, as, rfl, g1, g2⟩ := h
    exact ⟨a, as ++ [x], rfl, g1, TrWs.snoc g2 g⟩

end
end KM
set_option Elab.async false
set_option linter.all false
set_option maxRecDepth 100000
set_option maxHeartbeats 8000000
namespace KM
open PySem PySem.Spec PyProof.Rows L2 He Sw L2H
section
variable {P : Program} {w : World} {K : PySem.W.Frag} {mg : Str → Option Value} {base : Heap}
local macro_rules | `(tactic| row_room_at ne) => `(tactic| with_reducible assumption)
local macro_rules | `(tactic| row_room_at hp) => `(tactic| (apply SameBut.use; with_reducible assumption; rotate_left; row_room_at hp; row_room_at ne))
local macro_rules | `(tactic| row_room_at hp) => `(tactic| (apply FoAt.same; rotate_left; with_reducible assumption; row_room_at hp))
local macro_rules | `(tactic| row_room_at hp) => `(tactic| (apply Sw.Same.use; with_reducible assumption; row_room_at hp))
local macro_rules | `(tactic| row_room_at hp) => `(tactic| (apply SqT.of; row_room_at hp))
local macro_rules | `(tactic| row_room_at hp) => `(tactic| (apply SqL.of; row_room_at hp))
local macro_rules | `(tactic| row_room_at hp) => `(tactic| with_reducible assumption)
local macro_rules | `(tactic| row_room_at ati) => `(tactic| first | with_reducible assumption | rfl | (apply atI_nat; rfl))
local macro_rules | `(tactic| row_room_at cc) => `(tactic| first | with_reducible assumption | omega | decide | (refine ⟨?_, ?_⟩ <;> first | decide | omega) | (refine ⟨?_, ?_, ?_⟩ <;> first | decide | omega) | (left; refine ⟨?_, ?_⟩ <;> first | decide | omega) | (right; refine ⟨?_, ?_⟩ <;> first | decide | omega))
local macro_rules | `(tactic| row_room_at rdts) => `(tactic| with_reducible apply rd_retN)
local macro_rules | `(tactic| row_room_at rdts) => `(tactic| with_reducible apply rd_cont)
local macro_rules | `(tactic| row_room_at rdts) => `(tactic| with_reducible apply rd_brk)
local macro_rules | `(tactic| row_room_at rdts) => `(tactic| with_reducible apply rd_dput)
local macro_rules | `(tactic| row_room_at rdts) => `(tactic| with_reducible apply rd_drop)
local macro_rules | `(tactic| row_room_at rdts) => `(tactic| with_reducible apply rd_for)
local macro_rules | `(tactic| row_room_at rdts) => `(tactic| with_reducible apply rd_ret)
local macro_rules | `(tactic| row_room_at rdts) => `(tactic| with_reducible apply rd_next)
local macro_rules | `(tactic| row_room_at rdts) => `(tactic| with_reducible apply rd_ifS)
local macro_rules | `(tactic| row_room_at rdts) => `(tactic| with_reducible apply rd_asg)
local macro_rules | `(tactic| row_room_at rdts) => `(tactic| with_reducible refine rd_seqN fun _ _ => ?_)
local macro_rules | `(tactic| row_room_at rdit) => `(tactic| with_reducible refine rd_iteNF (by with_unfolding_all decide +kernel) ?_)
local macro_rules | `(tactic| row_room_at rdit) => `(tactic| with_reducible refine rd_iteNT (by with_unfolding_all decide +kernel) ?_)
local macro_rules | `(tactic| row_room_at rdit) => `(tactic| with_reducible apply rd_iteN0)
local macro_rules | `(tactic| row_room_at rdit) => `(tactic| with_reducible apply rd_iteN1)
local macro_rules | `(tactic| row_room_at rdit) => `(tactic| with_reducible apply rd_ite1)
local macro_rules | `(tactic| row_room_at rdit) => `(tactic| with_reducible apply rd_ite0)
local macro_rules | `(tactic| row_room_at rdit) => `(tactic| with_reducible refine rd_iteT (by with_unfolding_all decide +kernel) ?_)
local macro_rules | `(tactic| row_room_at rdit) => `(tactic| with_reducible refine rd_iteF (by with_unfolding_all decide +kernel) ?_)
local macro_rules | `(tactic| row_room_at rdex) => `(tactic| with_reducible refine rd_ty (by with_unfolding_all row_room_at hp) ?_)
local macro_rules | `(tactic| row_room_at rdex) => `(tactic| with_reducible refine rd_itup' (by with_unfolding_all row_room_at hp) ?_)
local macro_rules | `(tactic| row_room_at rdex) => `(tactic| with_reducible refine rd_ilist' (by with_unfolding_all row_room_at hp) ?_)
local macro_rules | `(tactic| row_room_at rdex) => `(tactic| with_reducible apply rd_1B)
local macro_rules | `(tactic| row_room_at rdex) => `(tactic| with_reducible refine rd_dgetS (by with_unfolding_all row_room_at hp) (by with_unfolding_all assumption) ?_)
local macro_rules | `(tactic| row_room_at rdex) => `(tactic| with_reducible refine rd_dget' (by with_unfolding_all row_room_at hp) (by with_unfolding_all rfl) (by with_unfolding_all assumption) ?_)
local macro_rules | `(tactic| row_room_at rdex) => `(tactic| with_reducible refine rd_len (by with_unfolding_all first | exact .inl (by row_room_at hp) | exact .inr (by row_room_at hp)) ?_)
local macro_rules | `(tactic| row_room_at rdex) => `(tactic| with_reducible refine rd_lenQ (by with_unfolding_all first | exact .inl (by row_room_at hp) | exact .inr (by row_room_at hp)) ?_)
local macro_rules | `(tactic| row_room_at rdex) => `(tactic| with_reducible apply rd_2I)
local macro_rules | `(tactic| row_room_at rdex) => `(tactic| with_reducible refine rd_b62 (by with_unfolding_all first | decide | (constructor <;> omega)) ?_)
local macro_rules | `(tactic| row_room_at rdex) => `(tactic| with_reducible apply rd_1I)
local macro_rules | `(tactic| row_room_at rdex) => `(tactic| with_reducible apply rd_int1)
local macro_rules | `(tactic| row_room_at rdex) => `(tactic| with_reducible apply rd_iv)
local macro_rules | `(tactic| row_room_at rdex) => `(tactic| with_reducible refine rd_sz (by with_unfolding_all first | decide | (simp only [List.length_append, List.length_map, List.length_cons, List.length_nil, List.length_take]; omega)) ?_)
local macro_rules | `(tactic| row_room_at rdex) => `(tactic| with_reducible apply rd_bl)
local macro_rules | `(tactic| row_room_at rdhd) => `(tactic| with_reducible refine rd_append (by with_unfolding_all row_room_at hp) (by with_unfolding_all first | decide | (simp only [List.length_append, List.length_map, List.length_cons, List.length_nil]; omega)) ?_)
local macro_rules | `(tactic| row_room_at rdhd) => `(tactic| with_reducible apply rd_bm)
local macro_rules | `(tactic| row_room_at rdhd) => `(tactic| with_reducible apply rd_yes)
local macro_rules | `(tactic| row_room_at rdhd) => `(tactic| with_reducible apply rd_lc)
local macro_rules | `(tactic| row_room_at rdhd) => `(tactic| with_reducible apply rd_itup)
local macro_rules | `(tactic| row_room_at rdhd) => `(tactic| with_reducible apply rd_ilist)
local macro_rules | `(tactic| row_room_at rdhd) => `(tactic| with_reducible refine rd_dictK (by with_unfolding_all row_room_at hp) ?_)
local macro_rules | `(tactic| row_room_at rdhd) => `(tactic| with_reducible refine rd_lenK (by with_unfolding_all first | exact .inl (by row_room_at hp) | exact .inr (by row_room_at hp)) ?_)
local macro_rules | `(tactic| row_room_at rdhd) => `(tactic| with_reducible apply rd_methI)
local macro_rules | `(tactic| row_room_at rdhd) => `(tactic| with_reducible apply rd_dget)
local macro_rules | `(tactic| row_room_at rdhd) => `(tactic| with_reducible apply rd_if)
local macro_rules | `(tactic| row_room_at rdhd) => `(tactic| with_reducible apply rd_notV)
local macro_rules | `(tactic| row_room_at rdhd) => `(tactic| with_reducible apply rd_orV)
local macro_rules | `(tactic| row_room_at rdhd) => `(tactic| with_reducible apply rd_andV)
local macro_rules | `(tactic| row_room_at rdhd) => `(tactic| with_reducible apply rd_U)
local macro_rules | `(tactic| row_room_at rdhd) => `(tactic| with_reducible apply rd_un)
local macro_rules | `(tactic| row_room_at rdhd) => `(tactic| with_reducible refine rd_cat (by with_unfolding_all row_room_at hp) (by with_unfolding_all row_room_at hp) (by with_unfolding_all first | decide | (simp only [List.length_append, List.length_map, List.length_cons, List.length_nil, List.length_take]; omega)) ?_)
local macro_rules | `(tactic| row_room_at rdhd) => `(tactic| with_reducible refine rd_slL (by with_unfolding_all row_room_at hp) ?_)
local macro_rules | `(tactic| row_room_at rdhd) => `(tactic| with_reducible apply rd_nopart)
local macro_rules | `(tactic| row_room_at rdhd) => `(tactic| with_reducible apply rd_make)
local macro_rules | `(tactic| row_room_at rdhd) => `(tactic| with_reducible apply rd_kt)
local macro_rules | `(tactic| row_room_at rdhd) => `(tactic| with_reducible apply rd_rng1)
local macro_rules | `(tactic| row_room_at rdhd) => `(tactic| with_reducible refine rd_ne (by with_unfolding_all rfl) ?_)
local macro_rules | `(tactic| row_room_at rdhd) => `(tactic| with_reducible apply rd_and)
local macro_rules | `(tactic| row_room_at rdhd) => `(tactic| with_reducible apply rd_B)
local macro_rules | `(tactic| row_room_at rdhd) => `(tactic| with_reducible apply rd_not)
local macro_rules | `(tactic| row_room_at rdhd) => `(tactic| with_reducible refine rd_ixL (by with_unfolding_all row_room_at hp) (by with_unfolding_all row_room_at ati) ?_)
local macro_rules | `(tactic| row_room_at rdhd) => `(tactic| with_reducible apply rd_sl)
local macro_rules | `(tactic| row_room_at rdhd) => `(tactic| with_reducible refine rd_I (by with_unfolding_all row_room_at cc) ?_)
local macro_rules | `(tactic| row_room_at rdhd) => `(tactic| with_reducible apply rd_or)
local macro_rules | `(tactic| row_room_at rdhd) => `(tactic| with_reducible apply rd_lst)
local macro_rules | `(tactic| row_room_at rdhd) => `(tactic| with_reducible apply rd_part)
local macro_rules | `(tactic| row_room_at rdhd) => `(tactic| with_reducible apply rd_tup)
local macro_rules | `(tactic| row_room_at rdhd) => `(tactic| with_reducible apply rd_I0)
local macro_rules | `(tactic| row_room_at rdhd) => `(tactic| with_reducible apply rd_CB)
local macro_rules | `(tactic| row_room_at rdhd) => `(tactic| with_reducible refine rd_ixT (by with_unfolding_all row_room_at hp) (by with_unfolding_all row_room_at ati) ?_)
local macro_rules | `(tactic| row_room_at rdhd) => `(tactic| with_reducible refine rd_eq (by with_unfolding_all rfl) ?_)
local macro_rules | `(tactic| row_room_at rdhd) => `(tactic| with_reducible apply rd_call)
local macro_rules | `(tactic| row_room_at rdhd) => `(tactic| with_reducible apply rd_gName)
local macro_rules | `(tactic| row_room_at rdhd) => `(tactic| with_reducible apply rd_test)
local macro_rules | `(tactic| row_room_at rdhd) => `(tactic| with_reducible apply rd_cons)
local macro_rules | `(tactic| row_room_at rdhd) => `(tactic| with_reducible apply rd_consC)
local macro_rules | `(tactic| row_room_at rdhd) => `(tactic| with_reducible refine rd_consV (by with_unfolding_all rfl) ?_)
local macro_rules | `(tactic| row_room_at rdhd) => `(tactic| with_reducible apply rd_nil)
local macro_rules | `(tactic| row_room_at rdhd) => `(tactic| with_reducible apply rd_c)
local macro_rules | `(tactic| row_room_at rdhd) => `(tactic| with_reducible refine rd_var (by with_unfolding_all rfl) ?_)
local macro_rules | `(tactic| row_room_at rdhd) => `(tactic| with_reducible apply rd_op)
local macro_rules | `(tactic| row_room_at rdsz) => `(tactic| with_reducible refine rd_sz (by with_unfolding_all first | decide | (simp only [List.length_append, List.length_map, List.length_cons, List.length_nil, List.length_take]; omega)) ?_)
local macro_rules | `(tactic| row_room_at rd1) => `(tactic| with_reducible refine rd_unN (by with_reducible assumption) ?_)
local macro_rules | `(tactic| row_room_at rd1) => `(tactic| ((fail_if_success with_reducible apply g_sp); (fail_if_success with_reducible apply g_ite); row_room_at rdex))
local macro_rules | `(tactic| row_room_at rd1) => `(tactic| ((fail_if_success with_reducible apply g_sp); (fail_if_success with_reducible intro _); row_room_at rdhd))
local macro_rules | `(tactic| row_room_at rd1) => `(tactic| row_room_at rdsz)
local macro_rules | `(tactic| row_room_at rd1) => `(tactic| ((with_reducible apply g_ex); row_room_at rdex))
local macro_rules | `(tactic| row_room_at rd1) => `(tactic| ((with_reducible apply g_ite); row_room_at rdit))
local macro_rules | `(tactic| row_room_at rd1) => `(tactic| ((with_reducible apply g_ts); row_room_at rdts))
local macro_rules | `(tactic| row_room_at rd) => `(tactic| repeat row_room_at rd1)
/-! ### _law_tree -/
theorem TrWs.len {H0 H : Hp} : ∀ {fs : List Fo} {xs : List Addr}, TrWs H0 H fs xs → xs.length = fs.length
  | [], xs, h => by
    simp only [TrWs] at h
    subst h
    rfl
  | f' :: fs, xs, h => by
    simp only [TrWs] at h
    obtain ⟨a, as, rfl, g1, g2⟩ := h
    rw [List.length_cons, List.length_cons, TrWs.len g2]
theorem TrWs.get {H0 H : Hp} : ∀ {fs : List Fo} {xs : List Addr} {i : Nat} {x : Addr}, TrWs H0 H fs xs → xs[i]? = some x → ∃ f, fs[i]? = some f ∧ TrW H0 H f x
  | [], xs, i, x, h, hx => by
    simp only [TrWs] at h
    subst h
    simp at hx
  | f' :: fs, xs, 0, x, h, hx => by
    simp only [TrWs] at h
    obtain ⟨a, as, rfl, g1, g2⟩ := h
    have hx : some a = some x := hx
    injection hx with hx
    subst hx
    exact ⟨f', rfl, g1⟩
  | f' :: fs, xs, i + 1, x, h, hx => by
    simp only [TrWs] at h
    obtain ⟨a, as, rfl, g1, g2⟩ := h
    have hx : as[i]? = some x := hx
    exact TrWs.get (fs := fs) (i := i) g2 hx
theorem pts_neg (f : Fo) : (Fo.neg f).parts = 1 + f.parts := by simp [Fo.parts]
theorem pts_shl (f : Fo) (n : Int) : (Fo.shl f n).parts = 1 + f.parts := by simp [Fo.parts]
theorem pts_bin (o : B3) (f g : Fo) : (Fo.bin o f g).parts = 1 + (f.parts + g.parts) := by simp [Fo.parts]
theorem pts_sum (i : Str) (b f : Fo) : (Fo.sum i b f).parts = 1 + f.parts := by simp [Fo.parts]
theorem pts_call (z : Str) (fs : List Fo) : (Fo.call z fs).parts = 1 + Fo.partsL fs := by simp [Fo.parts]
theorem dps_neg (f : Fo) : (Fo.neg f).depth = 1 + f.depth := by simp [Fo.depth]
theorem dps_shl (f : Fo) (n : Int) : (Fo.shl f n).depth = 1 + f.depth := by simp [Fo.depth]
theorem dps_bin (o : B3) (f g : Fo) : (Fo.bin o f g).depth = 1 + max f.depth g.depth := by simp [Fo.depth]
theorem dps_sum (i : Str) (b f : Fo) : (Fo.sum i b f).depth = 1 + f.depth := by simp [Fo.depth]
theorem dps_call (z : Str) (fs : List Fo) : (Fo.call z fs).depth = 1 + Fo.depthL fs := by simp [Fo.depth]
theorem partsL_snoc : ∀ (fs : List Fo) (f : Fo), Fo.partsL (fs ++ [f]) = Fo.partsL fs + f.parts
  | [], f => by simp [Fo.partsL]
  | g :: fs, f => by simp only [List.cons_append, Fo.partsL, partsL_snoc fs f]; omega
theorem lf_sz {f : Fo} (h : f.leaf) : f.parts = 1 ∧ f.depth = 1 ∧ f.ixs = [] := by
  cases f <;> first | exact h.elim | simp [Fo.parts, Fo.depth, Fo.ixs]
theorem b3_at {r : Int} (h0 : 0 ≤ r) (h1 : r < 3) : ∃ o : B3, atI ([.str "plus", .str "minus", .str "times"] : List V) r = some (.str o.str) := by
  rcases (by omega : r = 0 ∨ r = 1 ∨ r = 2) with rfl | rfl | rfl
  · exact ⟨.plus, rfl⟩
  · exact ⟨.minus, rfl⟩
  · exact ⟨.times, rfl⟩
theorem SR.updD {H : Hp} {sr rm D : Addr} {m : Nat} {r : Int} {o : HO} (h : SR H sr rm m r) (n : D ≠ sr) (n2 : D ≠ rm) : SR (upd H D o) sr rm m r := ⟨h.S.upd n, by rw [upd_ne (fun z => n2 z.symm)]; exact h.e⟩
theorem SB2.newD {a b D : Addr} {H H' : Hp} {o : HO} (h : SB2 a b H H') (hD : H D = none) : SB2 a b H (upd H' D o) := fun x u n m e => by rw [upd_ne (ne_of_none e hD)]; exact h x u n m e
theorem Fo.preL_mem : ∀ {fs : List Fo}, Fo.PreL fs ↔ ∀ f ∈ fs, f.Pre
  | [] => by simp [Fo.PreL]
  | f :: fs => by simp [Fo.PreL, Fo.preL_mem (fs := fs)]
/-! ### _law_sum, _law_tree -/
structure Gw (H : Hp) (sr rm : Addr) (m : Nat) (r d : Int) (H' : Hp) (f : Fo) (t : Addr) : Prop where
  ok : f.Pre
  dp : (f.depth : Int) ≤ d
  p1 : r ≤ 1 → f.parts = 1
  pr : 1 ≤ r → -3 * (d - 1) ≤ r - f.parts
  tr : TrW H H' f t
  S : SR H' sr rm (m + 60 * f.parts) (r - f.parts)
  B : SB2 sr rm H H'
structure Win (H : Hp) (sr rm : Addr) (m : Nat) (r d : Int) (n : Nat) : Prop where
  dn : d ≤ n
  d1 : 1 ≤ d
  S : SR H sr rm m r
  r0 : -120 ≤ r
  d40 : d ≤ 40
  mr : (m : Int) + 60 * (r + 150) ≤ 10 ^ 9
def spTree (n : Nat) : Sp := fun vs H Q _ => ∃ (sr rm : Addr) (d : Int) (m : Nat) (r : Int), vs = [.ref sr, .int d, .ref rm] ∧ Win H sr rm m r d n ∧ ∀ f t H', Gw H sr rm m r d H' f t → Q (.ref t) H'
def spSumT (n : Nat) : Sp := fun vs H Q _ => ∃ (sr rm : Addr) (d : Int) (m : Nat) (r : Int), vs = [.ref sr, .int d, .ref rm] ∧ 2 ≤ d ∧ d ≤ 40 ∧ d - 1 ≤ n ∧ SR H sr rm m r ∧ -60 ≤ r ∧ (m : Int) + 45 + 60 * (r + 150) ≤ 10 ^ 9 ∧
  ∀ i b g t H', GoodN i → b.leaf → b.Ok → g.Pre → (g.depth : Int) ≤ d - 1 → (r ≤ 1 → g.parts = 1) → (1 ≤ r → -3 * (d - 2) ≤ r - g.parts) → TrW H H' (.sum i b g) t → SR H' sr rm (m + 45 + 60 * g.parts) (r - g.parts) → SB2 sr rm H H' → Q (.ref t) H'
theorem sc__law_sum : FnScope ["_law_stream_here", "_law_depth", "_law_room", "_law_index", "_law_below"] ["_law_stream_here", "_law_depth", "_law_room"] (defScope s__law_sum) := ⟨rfl, rfl, rfl, by decide +kernel, rfl, by decide +kernel, by decide +kernel⟩
theorem ok__law_sum (T : Txt K mg) {n n' : Nat} (hnn : 5 ≤ n') (CT : Cal P w K mg base CX0 n' (ga K "_law_tree") ["_law_stream_here", "_law_depth", "_law_room"] (spTree n)) : Cal P w K mg base CX0 (n' + 1) (ga K "_law_sum") ["_law_stream_here", "_law_depth", "_law_room"] (spSumT n) := by
  obtain ⟨fd, F⟩ := T.f__law_sum
  refine ⟨fd, ?_, F.kp, F.bindsN fun _ _ _ _ _ _ us hl => match us, hl with | [_, _, _], _ => rfl⟩
  refine F.ok sc__law_sum (fun vs H Q E h => ?_) (fun cdv A outer s H vs Q E hr h => ?_)
  · obtain ⟨_, _, _, _, _, rfl, _⟩ := h
    rfl
  have nod := sc__law_sum.nd
  have hu := hu_of hr
  refine ⟨_, PSs.nox (pss_cons (ps_set (i := 3) nod rfl (Or.inl rfl) (pe_ix ix_list (pe_lst (pa_cons pe_str (pa_cons pe_str (pa_cons pe_str (pa_cons pe_str (pa_cons pe_str (pa_cons pe_str pa_nil))))))) (pe_callC (ok__law_draw T) (hr.mono (by omega)) rfl (T.g "_law_draw") pass0 (pa_cons (pv 0) (pa_cons pe_int pa_nil))) (fun _ _ => rfl)))
  (pss_cons (ps_set (i := 4) nod rfl (Or.inl rfl) (pe_callC (ok__law_leaf T) (hr.mono (by omega)) rfl (T.g "_law_leaf") pass0 (pa_cons (pv 0) pa_nil)))
  (pss_one (ps_ret (pe_tup (pa_cons pe_str (pa_cons (pv 3) (pa_cons (pv 4) (pa_cons (pe_callC CT (hr.mono (by omega)) rfl (T.g "_law_tree") pass0 (pa_cons (pv 0) (pa_cons (pe_op op_sub (pv 1) pe_int) (pa_cons (pv 2) pa_nil)))) pa_nil))))))))), ?_⟩
  obtain ⟨sr, rm, d, m, r, rfl, d2, d40, dn, S, r0, mr, q⟩ := h
  row_room_at rd
  refine rd_new fun W H1 hK s1 eK => ?_
  replace eK : H1 W = some (.lst (sixN.map V.str)) := eK
  have nK := S.new hK
  have R1 := S.same s1
  have B1 : SB2 sr rm H H1 := SB2.of s1
  row_room_at rd
  refine ⟨sr, m, 6, rfl, R1.S, by omega, by decide, by decide, fun r' H2 r0' r1' S2 b2 => ?_⟩
  have R2 := R1.strm b2 S2
  have B2 := B1.trans (SB2.ofA b2)
  obtain ⟨x, ex, hx⟩ := at_of (xs := sixN.map V.str) r0' (by show r' < 6; omega)
  obtain ⟨i, hi, rfl⟩ := List.mem_map.mp hx
  have gi := six_good i hi
  refine rd_ixL (SqL.of (b2 _ _ nK.1 eK)) ex ?_
  row_room_at rd
  refine ⟨sr, m + 1, rfl, S2, by omega, fun b c H3 lb ob tb S3 b3 => ?_⟩
  have R3 := R2.strm b3 S3
  have B3 := B2.trans (SB2.ofA b3)
  have tb := TrW.weak (R2.dom B2) tb
  row_room_at rd
  refine ⟨sr, rm, d - 1, m + 6, r, rfl, ⟨dn, by omega, R3, by omega, by omega, by omega⟩, fun g t H6 G => ?_⟩
  have tb6 := TrW.sb2 R3 G.B tb
  row_room_at rd
  refine rd_new fun t2 H7 ht2 s7 e7 => ?_
  refine q i b g t2 H7 ⟨gi.1, by have := gi.2; omega⟩ lb ob G.ok G.dp G.p1 (fun h => by have := G.pr h; omega) ?_ ((G.S.same s7).mono (by omega)) (B3.trans (G.B.trans (SB2.of s7)))
  simp only [TrW]
  exact ⟨c, t, e7, TrW.same s7 tb6, TrW.weak (R3.dom B3) (TrW.same s7 G.tr)⟩
theorem sc__law_tree : FnScope ["_law_stream_here", "_law_depth", "_law_room", "_law_shape", "_law_many", "_law_kind", "_law_left", "_law_k"] ["_law_stream_here", "_law_depth", "_law_room"] (defScope sTree) := ⟨rfl, rfl, rfl, by decide +kernel, rfl, by decide +kernel, by decide +kernel⟩
theorem ok__law_tree (T : Txt K mg) : ∀ n, Cal P w K mg base CX0 (2*n+10) (ga K "_law_tree") ["_law_stream_here", "_law_depth", "_law_room"] (spTree n)
  | 0 => by
    obtain ⟨fd, F⟩ := T.f__law_tree
    refine ⟨fd, ⟨fun vs H Q E h => ?_, fun A outer s H args us vs Q E _ _ _ _ h => ?_⟩, F.kp, F.bindsN fun _ _ _ _ _ _ us hl => match us, hl with | [_, _, _], _ => rfl⟩
    · obtain ⟨_, _, _, _, _, rfl, _⟩ := h
      rfl
    · obtain ⟨_, _, _, _, _, _, h, _⟩ := h
      exact absurd h (fun w => by have := w.dn; have := w.d1; omega)
  | n + 1 => by
    have GX := ok__law_tree T n
    obtain ⟨fd, F⟩ := T.f__law_tree
    refine ⟨fd, ?_, F.kp, F.bindsN fun _ _ _ _ _ _ us hl => match us, hl with | [_, _, _], _ => rfl⟩
    refine F.ok sc__law_tree (fun vs H Q E h => ?_) (fun cdv A outer s H vs Q E hr h => ?_)
    · obtain ⟨_, _, _, _, _, rfl, _⟩ := h
      rfl
    have nod := sc__law_tree.nd
    have hu := hu_of hr
    refine ⟨_, PSs.nox (pss_cons (ps_asg (pe_op op_sub (pe_ix ix_list (pv 2) pe_int (fun _ _ => rfl)) pe_int) (pg_sub (pv 2) pe_int set_list))
    (pss_cons (ps_set (i := 3) nod rfl (Or.inl rfl) (pe_callC (ok__law_draw T) (hr.mono (by omega)) rfl (T.g "_law_draw") pass0 (pa_cons (pv 0) (pa_cons pe_int pa_nil))))
    (pss_cons (ps_if (PW.pt (pw_or (pt_cmpR op_le (pv 1) pe_int (nomark _)) (pw_or (pt_cmpR op_le (pe_ix ix_list (pv 2) pe_int (fun _ _ => rfl)) pe_int (nomark _)) (pw_or1 (pt_cmpR op_eq (pv 3) pe_int (nomark _))))))
      (pss_one (ps_ret (pe_callC (ok__law_leaf T) (hr.mono (by omega)) rfl (T.g "_law_leaf") pass0 (pa_cons (pv 0) pa_nil))))
      pss_nil)
    (pss_cons (ps_if (pt_cmpR op_eq (pv 3) pe_int (nomark _))
      (pss_one (ps_ret (pe_tup (pa_cons pe_str (pa_cons (pe_callC GX (hr.mono (by omega)) rfl (T.g "_law_tree") pass0 (pa_cons (pv 0) (pa_cons (pe_op op_sub (pv 1) pe_int) (pa_cons (pv 2) pa_nil)))) pa_nil)))))
      pss_nil)
    (pss_cons (ps_if (pt_cmpR op_eq (pv 3) pe_int (nomark _))
      (pss_cons (ps_set (i := 4) nod rfl (Or.inl rfl) (pe_callC (ok__law_draw T) (hr.mono (by omega)) rfl (T.g "_law_draw") pass0 (pa_cons (pv 0) (pa_cons pe_int pa_nil))))
      (pss_one (ps_ret (pe_tup (pa_cons pe_str (pa_cons (pe_callC GX (hr.mono (by omega)) rfl (T.g "_law_tree") pass0 (pa_cons (pv 0) (pa_cons (pe_op op_sub (pv 1) pe_int) (pa_cons (pv 2) pa_nil)))) (pa_cons (pv 4) pa_nil)))))))
      pss_nil)
    (pss_cons (ps_if (pt_cmpR op_lt (pv 3) pe_int (nomark _))
      (pss_one (ps_ret (pe_callC (ok__law_sum T (by omega) GX) (hr.mono (by omega)) rfl (T.g "_law_sum") pass0 (pa_cons (pv 0) (pa_cons (pv 1) (pa_cons (pv 2) pa_nil))))))
      pss_nil)
    (pss_cons (ps_if (pt_cmpR op_eq (pv 3) pe_int (nomark _))
      (pss_cons (ps_set (i := 4) nod rfl (Or.inl rfl) (pe_op op_add pe_int (pe_callC (ok__law_draw T) (hr.mono (by omega)) rfl (T.g "_law_draw") pass0 (pa_cons (pv 0) (pa_cons pe_int pa_nil)))))
      (pss_one (ps_ret (pe_tup (pa_cons pe_str (pa_cons pe_str (pa_cons (pe_lc (own := [("_law_k", 7)]) (te := (tCall (spTree n) [] E0 (tCons (tVar 0) (tCons (tOp (rI0 fun i j => .int (i - j)) (tVar 1) (tC (.int 1))) (tCons (tVar 2) tNil))))) (g := (gName 7)) (tt := tYes) rfl nod (pi_range1 rfl (T.f "range") (pa_cons (pv 4) pa_nil)) (blkOk_by (N := ["_law_stream_here", "_law_depth", "_law_room", "_law_shape", "_law_many", "_law_kind", "_law_left", "_law_k"]) (sc := defScope sTree) (by decide +kernel)) (fun _ _ _ _ _ => (pg_name (i := 7) nod rfl (Or.inl rfl))) (fun _ _ _ _ _ => pts_nil) (fun _ _ _ _ _ => (pe_callC GX (hr.mono (by omega)) rfl (T.g "_law_tree") pass0 (pa_cons (pv 0) (pa_cons (pe_op op_sub (pv 1) pe_int) (pa_cons (pv 2) pa_nil)))))) pa_nil)))))))
      pss_nil)
    (pss_cons (ps_set (i := 5) nod rfl (Or.inl rfl) (pe_ix ix_list (pe_lst (pa_cons pe_str (pa_cons pe_str (pa_cons pe_str pa_nil)))) (pe_callC (ok__law_draw T) (hr.mono (by omega)) rfl (T.g "_law_draw") pass0 (pa_cons (pv 0) (pa_cons pe_int pa_nil))) (fun _ _ => rfl)))
    (pss_cons (ps_set (i := 6) nod rfl (Or.inl rfl) (pe_callC GX (hr.mono (by omega)) rfl (T.g "_law_tree") pass0 (pa_cons (pv 0) (pa_cons (pe_op op_sub (pv 1) pe_int) (pa_cons (pv 2) pa_nil)))))
    (pss_one (ps_ret (pe_tup (pa_cons (pv 5) (pa_cons (pv 6) (pa_cons (pe_callC GX (hr.mono (by omega)) rfl (T.g "_law_tree") pass0 (pa_cons (pv 0) (pa_cons (pe_op op_sub (pv 1) pe_int) (pa_cons (pv 2) pa_nil)))) pa_nil))))))))))))))), ?_⟩
    obtain ⟨sr, rm, d, m, r, rfl, I, q⟩ := h
    obtain ⟨dn, d1, S, r0, d40, mr⟩ := I
    have er := S.e
    row_room_at rd
    refine rd_gSub ?_
    row_room_at rd
    refine rd_setL S.e rfl fun H1 b1 e1 => ?_
    replace e1 : H1 rm = some (.lst [.int (r - 1)]) := e1
    have R1 : SR H1 sr rm m (r - 1) := ⟨S.S.but b1 S.ne, e1⟩
    have B1 : SB2 sr rm H H1 := SB2.ofB b1
    row_room_at rd
    refine ⟨sr, m, 10, rfl, R1.S, by omega, by decide, by decide, fun pick H2 p0 p1 S2 b2 => ?_⟩
    have R2 := R1.strm b2 S2
    have B2 := B1.trans (SB2.ofA b2)
    have er2 : H2 rm = some (.lst [.int (r - 1)]) := R2.e
    have D2 := R2.dom B2
    have leafQ : spLeaf [.ref sr] H2 Q E0 := ⟨sr, m + 1, rfl, S2, by omega, fun f t H3 lf of tf S3 b3 => by
      obtain ⟨z1, z2, z3⟩ := lf_sz lf
      exact q f t H3 ⟨of.pre, by rw [z2]; omega, fun _ => z1, fun _ => by rw [z1]; omega, TrW.weak D2 tf, (R2.strm b3 S3).cast (by rw [z1]; omega) (by rw [z1]; rfl), B2.trans (SB2.ofA b3)⟩⟩
    row_room_at rd
    refine ite2 (fun hc => ?_) (fun hc => ?_)
    · row_room_at rd
      exact leafQ
    have d2 : 2 ≤ d := by
      by_cases z : d ≤ 1
      · exact absurd (decide_eq_true z) hc
      · omega
    row_room_at rd
    refine ite2 (fun hc => ?_) (fun hc' => ?_)
    · row_room_at rd
      exact leafQ
    have r2 : 2 ≤ r := by
      by_cases z : r - 1 ≤ 0
      · exact absurd (decide_eq_true z) hc'
      · omega
    row_room_at rd
    refine ite2 (fun hc => ?_) (fun hc' => ?_)
    · row_room_at rd
      exact leafQ
    clear leafQ hc hc'
    have Wn : ∀ {H' : Hp} {m' : Nat} {r' : Int}, SR H' sr rm m' r' → SB2 sr rm H2 H' → (m' : Int) + 60 * (r' + 150) ≤ 10 ^ 9 → -120 ≤ r' → Win H' sr rm m' r' (d - 1) n := fun R' B' h1 h2 => ⟨by omega, by omega, R', h2, by omega, h1⟩
    -- a negative
    row_room_at rd
    refine ite2 (fun _ => ?_) (fun _ => ?_)
    · row_room_at rd
      refine ⟨sr, rm, d - 1, m + 1, r - 1, rfl, Wn R2 SB2.refl (by omega) (by omega), fun f t H3 G => ?_⟩
      have gp := G.pr (by omega)
      have gd := G.dp
      row_room_at rd
      refine rd_new fun t2 H4 ht s4 e4 => ?_
      refine q (.neg f) t2 H4 ⟨G.ok, by rw [dps_neg]; omega, fun h => absurd h (by omega), fun _ => by rw [pts_neg]; omega, ?_, (G.S.same s4).cast (by rw [pts_neg]; omega) (by rw [pts_neg]; omega), (B2.trans G.B).trans (SB2.of s4)⟩
      simp only [TrW]
      exact ⟨t, e4, TrW.weak D2 (TrW.same s4 G.tr)⟩
    -- a shift
    row_room_at rd
    refine ite2 (fun _ => ?_) (fun _ => ?_)
    · row_room_at rd
      refine ⟨sr, m + 1, 65, rfl, S2, by omega, by decide, by decide, fun k H3 k0 k1 S3 b3 => ?_⟩
      have R3 := R2.strm b3 S3
      row_room_at rd
      refine ⟨sr, rm, d - 1, m + 2, r - 1, rfl, Wn R3 (SB2.ofA b3) (by omega) (by omega), fun f t H4 G => ?_⟩
      have gp := G.pr (by omega)
      have gd := G.dp
      row_room_at rd
      refine rd_new fun t2 H5 ht s5 e5 => ?_
      refine q (.shl f k) t2 H5 ⟨⟨k0, by omega, G.ok⟩, by rw [dps_shl]; omega, fun h => absurd h (by omega), fun _ => by rw [pts_shl]; omega, ?_, (G.S.same s5).cast (by rw [pts_shl]; omega) (by rw [pts_shl]; omega), ((B2.trans (SB2.ofA b3)).trans G.B).trans (SB2.of s5)⟩
      simp only [TrW]
      exact ⟨t, e5, TrW.weak (R3.dom (B2.trans (SB2.ofA b3))) (TrW.same s5 G.tr)⟩
    -- a sum
    have sumQ : ∀ {Q' : VK}, (∀ v H', Q v H' → Q' v H') → spSumT n [.ref sr, .int d, .ref rm] H2 Q' E0 := fun {Q'} hq => ⟨sr, rm, d, m + 1, r - 1, rfl, d2, d40, by omega, R2, by omega, by omega, fun i b g t H' gi lb ob og dg p1 pr tr S' B' => hq _ _ (by
      have pr := pr (by omega)
      exact q (.sum i b g) t H' ⟨⟨gi, lb, ob, og⟩, by rw [dps_sum]; omega, fun h => absurd h (by omega), fun _ => by rw [pts_sum]; omega, TrW.weak D2 tr, S'.cast (by rw [pts_sum]; omega) (by rw [pts_sum]; omega), B2.trans B'⟩)⟩
    row_room_at rd
    refine ite2 (fun _ => ?_) (fun _ => ?_)
    · row_room_at rd
      exact sumQ fun _ _ h => h
    clear sumQ
    -- a call
    row_room_at rd
    refine ite2 (fun _ => ?_) (fun _ => ?_)
    · row_room_at rd
      refine ⟨sr, m + 1, 4, rfl, S2, by omega, by decide, by decide, fun k H3 k0 k1 S3 b3 => ?_⟩
      obtain ⟨j, rfl⟩ := Int.eq_ofNat_of_zero_le k0
      have hj : j < 4 := by omega
      have R3 := R2.strm b3 S3
      have gz : GoodN "f" := ⟨by decide +kernel, by decide +kernel⟩
      row_room_at rd
      rw [show (1 + (j : Int)).toNat = j + 1 by omega]
      refine fun D hD => ?_
      have nD := R3.new hD
      have hD2 : H2 D = none := R3.dom (SB2.ofA b3) D hD
      have hD0 : H D = none := D2 D hD2
      generalize hHD : upd H3 D (.lst []) = HD
      have eD : HD D = some (.lst (([] : List Addr).map V.ref)) := by rw [← hHD]; exact upd_same
      have RD := R3.updD (o := .lst []) nD.1 nD.2
      have BD : SB2 sr rm H2 HD := by rw [← hHD]; exact (SB2.ofA b3).newD hD2
      have DD : ∀ x, HD x = none → H x = none := fun x hx => by
        have nx : x ≠ D := fun z => by rw [z, eD] at hx; cases hx
        rw [← hHD, upd_ne nx] at hx
        exact D2 x (R3.dom (SB2.ofA b3) x hx)
      rw [hHD] at RD
      clear hHD
      refine loop_it (walk_range (lo := 0) (n := j + 1)) (fun t H' => ∃ (fs : List Fo) (xs : List Addr), fs.length = t ∧ (∀ f ∈ fs, f.Pre ∧ (f.depth : Int) ≤ d - 1) ∧ 1 ≤ r - 1 - Fo.partsL fs + 3 * (d - 2) + t ∧ TrWs HD H' fs xs ∧ SR H' sr rm (m + 22 + 60 * Fo.partsL fs) (r - 1 - Fo.partsL fs) ∧ SB2 sr rm H2 H' ∧ (∀ x, H' x = none → HD x = none) ∧ H' D = some (.lst (xs.map V.ref))) ⟨[], [], rfl, (fun f hf => nomatch hf), by simp only [Fo.partsL]; omega, rfl, RD.cast (by simp only [Fo.partsL]; omega) (by simp only [Fo.partsL]; omega), BD, fun _ h => h, eD⟩ (fun _ _ _ _ => trivial) (fun t x' H5 H5' ht ⟨fs, xs, lf, all, inv, tr, R5, B5, D5, e5⟩ ⟨hH, hx⟩ => ?_) (fun H5 ⟨fs, xs, lf, all, inv, tr, R5, B5, D5, e5⟩ => ?_)
      · subst hH hx
        row_room_at rd
        refine ⟨rfl, ?_⟩
        row_room_at rd
        refine ⟨sr, rm, d - 1, m + 22 + 60 * Fo.partsL fs, r - 1 - Fo.partsL fs, rfl, Wn R5 B5 (by omega) (by omega), fun f t' H6 G => ?_⟩
        have gp := G.pr
        have gp1 := G.p1
        have e6 := G.B.use (R5.refs e5).1 (R5.refs e5).2 e5
        have n5 := R5.refs e5
        have lx : xs.length = fs.length := tr.len
        have ps := partsL_snoc fs f
        refine ⟨_, e6, by rw [List.length_map, sizeLine_eq]; omega, fs ++ [f], xs ++ [t'], by rw [List.length_append, lf]; rfl, fun g hg => ?_, ?_, ?_, (G.S.updD n5.1 n5.2).cast (by rw [ps]; omega) (by rw [ps]; omega), (B5.trans G.B).newD hD2, fun x hx => ?_, by rw [upd_same]; simp⟩
        · rcases List.mem_append.mp hg with hg | hg
          · exact all g hg
          · rw [List.mem_singleton.mp hg]
            exact ⟨G.ok, G.dp⟩
        · rw [ps]
          by_cases h : r - 1 - (Fo.partsL fs : Int) ≤ 0
          · have := gp1 (by omega)
            omega
          · have := gp (by omega)
            omega
        · have hn : HD D ≠ none := by rw [eD]; exact fun z => nomatch z
          exact TrWs.updD ⟨e6, hn⟩ ((TrWs.sb2 R5 G.B tr).snoc (TrW.weak D5 G.tr))
        · have nx : x ≠ D := fun z => by rw [z, upd_same] at hx; cases hx
          rw [upd_ne nx] at hx
          exact D5 x (G.S.dom G.B x hx)
      · row_room_at rd
        refine rd_new fun t2 H7 ht s7 e7 => ?_
        have pe := pts_call "f" fs
        refine q (.call "f" fs) t2 H7 ⟨⟨gz, by omega, by omega, Fo.preL_mem.mpr fun f hf => (all f hf).1⟩, ?_, fun h => absurd h (by omega), fun _ => by rw [pe]; omega, ?_, (R5.same s7).cast (by rw [pe]; omega) (by rw [pe]; omega), (B2.trans B5).trans (SB2.of s7)⟩
        · have hd := Fo.depthL_len (fs := fs) (n := (d - 1).toNat) fun f hf => by have := (all f hf).2; omega
          rw [dps_call]
          omega
        · simp only [TrW]
          exact ⟨D, xs, e7, s7 _ _ e5, hD0, TrWs.weak DD (TrWs.same s7 tr)⟩
    -- a plus, minus, times
    row_room_at rd
    refine rd_new fun KL H3 hKL s3 e3 => ?_
    have nK := R2.new hKL
    have R3 := R2.same s3
    row_room_at rd
    refine ⟨sr, m + 1, 3, rfl, R3.S, by omega, by decide, by decide, fun k H4 k0 k1 S4 b4 => ?_⟩
    have R4 := R3.strm b4 S4
    obtain ⟨o, eo⟩ := b3_at k0 k1
    refine rd_ixL (SqL.of (b4 _ _ nK.1 e3)) eo ?_
    have B24 : SB2 sr rm H2 H4 := (SB2.of s3).trans (SB2.ofA b4)
    row_room_at rd
    refine ⟨sr, rm, d - 1, m + 2, r - 1, rfl, Wn R4 B24 (by omega) (by omega), fun f t H5 G => ?_⟩
    have gp := G.pr (by omega)
    have gd := G.dp
    row_room_at rd
    refine ⟨sr, rm, d - 1, m + 2 + 60 * f.parts, r - 1 - f.parts, rfl, Wn G.S (B24.trans G.B) (by omega) (by omega), fun g t' H6 G' => ?_⟩
    have gp' := G'.pr
    have gd' := G'.dp
    have gp1 := G'.p1
    have D4 := R4.dom (B2.trans B24)
    row_room_at rd
    refine rd_new fun t2 H7 ht s7 e7 => ?_
    refine q (.bin o f g) t2 H7 ⟨⟨G.ok, G'.ok⟩, by rw [dps_bin]; omega, fun h => absurd h (by omega), fun _ => ?_, ?_, (G'.S.same s7).cast (by rw [pts_bin]; omega) (by rw [pts_bin]; omega), ((B2.trans B24).trans (G.B.trans G'.B)).trans (SB2.of s7)⟩
    · rw [pts_bin]
      by_cases h : r - 1 - (f.parts : Int) ≤ 1
      · have := gp1 h
        omega
      · have := gp' (by omega)
        omega
    · simp only [TrW]
      exact ⟨t, t', e7, TrW.weak D4 (TrW.same s7 (TrW.sb2 G.S G'.B G.tr)), TrW.weak (G.S.dom ((B2.trans B24).trans G.B)) (TrW.same s7 G'.tr)⟩

end
end KM
set_option Elab.async false
set_option linter.all false
set_option maxRecDepth 100000
set_option maxHeartbeats 8000000
namespace KM
open PySem PySem.Spec PyProof.Rows L2 He Sw L2H
section
variable {P : Program} {w : World} {K : PySem.W.Frag} {mg : Str → Option Value} {base : Heap}
local macro_rules | `(tactic| row_room_at ne) => `(tactic| with_reducible assumption)
local macro_rules | `(tactic| row_room_at hp) => `(tactic| (apply SameBut.use; with_reducible assumption; rotate_left; row_room_at hp; row_room_at ne))
local macro_rules | `(tactic| row_room_at hp) => `(tactic| (apply FoAt.same; rotate_left; with_reducible assumption; row_room_at hp))
local macro_rules | `(tactic| row_room_at hp) => `(tactic| (apply Sw.Same.use; with_reducible assumption; row_room_at hp))
local macro_rules | `(tactic| row_room_at hp) => `(tactic| (apply SqT.of; row_room_at hp))
local macro_rules | `(tactic| row_room_at hp) => `(tactic| (apply SqL.of; row_room_at hp))
local macro_rules | `(tactic| row_room_at hp) => `(tactic| with_reducible assumption)
local macro_rules | `(tactic| row_room_at ati) => `(tactic| first | with_reducible assumption | rfl | (apply atI_nat; rfl))
local macro_rules | `(tactic| row_room_at cc) => `(tactic| first | with_reducible assumption | omega | decide | (refine ⟨?_, ?_⟩ <;> first | decide | omega) | (refine ⟨?_, ?_, ?_⟩ <;> first | decide | omega) | (left; refine ⟨?_, ?_⟩ <;> first | decide | omega) | (right; refine ⟨?_, ?_⟩ <;> first | decide | omega))
local macro_rules | `(tactic| row_room_at rdts) => `(tactic| with_reducible apply rd_retN)
local macro_rules | `(tactic| row_room_at rdts) => `(tactic| with_reducible apply rd_cont)
local macro_rules | `(tactic| row_room_at rdts) => `(tactic| with_reducible apply rd_brk)
local macro_rules | `(tactic| row_room_at rdts) => `(tactic| with_reducible apply rd_dput)
local macro_rules | `(tactic| row_room_at rdts) => `(tactic| with_reducible apply rd_drop)
local macro_rules | `(tactic| row_room_at rdts) => `(tactic| with_reducible apply rd_for)
local macro_rules | `(tactic| row_room_at rdts) => `(tactic| with_reducible apply rd_ret)
local macro_rules | `(tactic| row_room_at rdts) => `(tactic| with_reducible apply rd_next)
local macro_rules | `(tactic| row_room_at rdts) => `(tactic| with_reducible apply rd_ifS)
local macro_rules | `(tactic| row_room_at rdts) => `(tactic| with_reducible apply rd_asg)
local macro_rules | `(tactic| row_room_at rdts) => `(tactic| with_reducible refine rd_seqN fun _ _ => ?_)
local macro_rules | `(tactic| row_room_at rdit) => `(tactic| with_reducible refine rd_iteNF (by with_unfolding_all decide +kernel) ?_)
local macro_rules | `(tactic| row_room_at rdit) => `(tactic| with_reducible refine rd_iteNT (by with_unfolding_all decide +kernel) ?_)
local macro_rules | `(tactic| row_room_at rdit) => `(tactic| with_reducible apply rd_iteN0)
local macro_rules | `(tactic| row_room_at rdit) => `(tactic| with_reducible apply rd_iteN1)
local macro_rules | `(tactic| row_room_at rdit) => `(tactic| with_reducible apply rd_ite1)
local macro_rules | `(tactic| row_room_at rdit) => `(tactic| with_reducible apply rd_ite0)
local macro_rules | `(tactic| row_room_at rdit) => `(tactic| with_reducible refine rd_iteT (by with_unfolding_all decide +kernel) ?_)
local macro_rules | `(tactic| row_room_at rdit) => `(tactic| with_reducible refine rd_iteF (by with_unfolding_all decide +kernel) ?_)
local macro_rules | `(tactic| row_room_at rdex) => `(tactic| with_reducible refine rd_szN (m := 900000) (by with_unfolding_all ((try simp only [PySem.Str.length_append]); omega)) (by with_unfolding_all decide) ?_)
local macro_rules | `(tactic| row_room_at rdex) => `(tactic| with_reducible apply rd_orI)
local macro_rules | `(tactic| row_room_at rdex) => `(tactic| with_reducible apply rd_orS)
local macro_rules | `(tactic| row_room_at rdex) => `(tactic| with_reducible apply rd_1S)
local macro_rules | `(tactic| row_room_at rdex) => `(tactic| with_reducible apply rd_2S)
local macro_rules | `(tactic| row_room_at rdex) => `(tactic| with_reducible refine rd_fld' (by with_unfolding_all row_room_at hp) (by with_unfolding_all assumption) (by with_unfolding_all assumption) (by with_unfolding_all rfl) ?_)
local macro_rules | `(tactic| row_room_at rdex) => `(tactic| with_reducible refine rd_ty (by with_unfolding_all row_room_at hp) ?_)
local macro_rules | `(tactic| row_room_at rdex) => `(tactic| with_reducible refine rd_itup' (by with_unfolding_all row_room_at hp) ?_)
local macro_rules | `(tactic| row_room_at rdex) => `(tactic| with_reducible refine rd_ilist' (by with_unfolding_all row_room_at hp) ?_)
local macro_rules | `(tactic| row_room_at rdex) => `(tactic| with_reducible apply rd_1B)
local macro_rules | `(tactic| row_room_at rdex) => `(tactic| with_reducible refine rd_dgetS (by with_unfolding_all row_room_at hp) (by with_unfolding_all assumption) ?_)
local macro_rules | `(tactic| row_room_at rdex) => `(tactic| with_reducible refine rd_dget' (by with_unfolding_all row_room_at hp) (by with_unfolding_all rfl) (by with_unfolding_all assumption) ?_)
local macro_rules | `(tactic| row_room_at rdex) => `(tactic| with_reducible refine rd_len (by with_unfolding_all first | exact .inl (by row_room_at hp) | exact .inr (by row_room_at hp)) ?_)
local macro_rules | `(tactic| row_room_at rdex) => `(tactic| with_reducible refine rd_lenQ (by with_unfolding_all first | exact .inl (by row_room_at hp) | exact .inr (by row_room_at hp)) ?_)
local macro_rules | `(tactic| row_room_at rdex) => `(tactic| with_reducible apply rd_2I)
local macro_rules | `(tactic| row_room_at rdex) => `(tactic| with_reducible refine rd_b62 (by with_unfolding_all first | decide | (constructor <;> omega)) ?_)
local macro_rules | `(tactic| row_room_at rdex) => `(tactic| with_reducible apply rd_1I)
local macro_rules | `(tactic| row_room_at rdex) => `(tactic| with_reducible apply rd_int1)
local macro_rules | `(tactic| row_room_at rdex) => `(tactic| with_reducible apply rd_iv)
local macro_rules | `(tactic| row_room_at rdex) => `(tactic| with_reducible refine rd_sz (by with_unfolding_all first | decide | (simp only [List.length_append, List.length_map, List.length_cons, List.length_nil, List.length_take]; omega)) ?_)
local macro_rules | `(tactic| row_room_at rdex) => `(tactic| with_reducible apply rd_bl)
local macro_rules | `(tactic| row_room_at rdhd) => `(tactic| with_reducible apply rd_fmtS)
local macro_rules | `(tactic| row_room_at rdhd) => `(tactic| with_reducible apply rd_js0)
local macro_rules | `(tactic| row_room_at rdhd) => `(tactic| with_reducible apply rd_js)
local macro_rules | `(tactic| row_room_at rdhd) => `(tactic| with_reducible apply rd_m1)
local macro_rules | `(tactic| row_room_at rdhd) => `(tactic| with_reducible apply rd_fld)
local macro_rules | `(tactic| row_room_at rdhd) => `(tactic| with_reducible refine rd_append (by with_unfolding_all row_room_at hp) (by with_unfolding_all first | decide | (simp only [List.length_append, List.length_map, List.length_cons, List.length_nil]; omega)) ?_)
local macro_rules | `(tactic| row_room_at rdhd) => `(tactic| with_reducible apply rd_bm)
local macro_rules | `(tactic| row_room_at rdhd) => `(tactic| with_reducible apply rd_yes)
local macro_rules | `(tactic| row_room_at rdhd) => `(tactic| with_reducible apply rd_lc)
local macro_rules | `(tactic| row_room_at rdhd) => `(tactic| with_reducible apply rd_itup)
local macro_rules | `(tactic| row_room_at rdhd) => `(tactic| with_reducible apply rd_ilist)
local macro_rules | `(tactic| row_room_at rdhd) => `(tactic| with_reducible refine rd_dictK (by with_unfolding_all row_room_at hp) ?_)
local macro_rules | `(tactic| row_room_at rdhd) => `(tactic| with_reducible refine rd_lenK (by with_unfolding_all first | exact .inl (by row_room_at hp) | exact .inr (by row_room_at hp)) ?_)
local macro_rules | `(tactic| row_room_at rdhd) => `(tactic| with_reducible apply rd_methI)
local macro_rules | `(tactic| row_room_at rdhd) => `(tactic| with_reducible apply rd_dget)
local macro_rules | `(tactic| row_room_at rdhd) => `(tactic| with_reducible apply rd_if)
local macro_rules | `(tactic| row_room_at rdhd) => `(tactic| with_reducible apply rd_notV)
local macro_rules | `(tactic| row_room_at rdhd) => `(tactic| with_reducible apply rd_orV)
local macro_rules | `(tactic| row_room_at rdhd) => `(tactic| with_reducible apply rd_andV)
local macro_rules | `(tactic| row_room_at rdhd) => `(tactic| with_reducible apply rd_U)
local macro_rules | `(tactic| row_room_at rdhd) => `(tactic| with_reducible apply rd_un)
local macro_rules | `(tactic| row_room_at rdhd) => `(tactic| with_reducible refine rd_cat (by with_unfolding_all row_room_at hp) (by with_unfolding_all row_room_at hp) (by with_unfolding_all first | decide | (simp only [List.length_append, List.length_map, List.length_cons, List.length_nil, List.length_take]; omega)) ?_)
local macro_rules | `(tactic| row_room_at rdhd) => `(tactic| with_reducible refine rd_slL (by with_unfolding_all row_room_at hp) ?_)
local macro_rules | `(tactic| row_room_at rdhd) => `(tactic| with_reducible apply rd_nopart)
local macro_rules | `(tactic| row_room_at rdhd) => `(tactic| with_reducible apply rd_make)
local macro_rules | `(tactic| row_room_at rdhd) => `(tactic| with_reducible apply rd_kt)
local macro_rules | `(tactic| row_room_at rdhd) => `(tactic| with_reducible apply rd_rng1)
local macro_rules | `(tactic| row_room_at rdhd) => `(tactic| with_reducible refine rd_ne (by with_unfolding_all rfl) ?_)
local macro_rules | `(tactic| row_room_at rdhd) => `(tactic| with_reducible apply rd_and)
local macro_rules | `(tactic| row_room_at rdhd) => `(tactic| with_reducible apply rd_B)
local macro_rules | `(tactic| row_room_at rdhd) => `(tactic| with_reducible apply rd_not)
local macro_rules | `(tactic| row_room_at rdhd) => `(tactic| with_reducible refine rd_ixL (by with_unfolding_all row_room_at hp) (by with_unfolding_all row_room_at ati) ?_)
local macro_rules | `(tactic| row_room_at rdhd) => `(tactic| with_reducible apply rd_sl)
local macro_rules | `(tactic| row_room_at rdhd) => `(tactic| with_reducible refine rd_I (by with_unfolding_all row_room_at cc) ?_)
local macro_rules | `(tactic| row_room_at rdhd) => `(tactic| with_reducible apply rd_or)
local macro_rules | `(tactic| row_room_at rdhd) => `(tactic| with_reducible apply rd_lst)
local macro_rules | `(tactic| row_room_at rdhd) => `(tactic| with_reducible apply rd_part)
local macro_rules | `(tactic| row_room_at rdhd) => `(tactic| with_reducible apply rd_tup)
local macro_rules | `(tactic| row_room_at rdhd) => `(tactic| with_reducible apply rd_I0)
local macro_rules | `(tactic| row_room_at rdhd) => `(tactic| with_reducible apply rd_CB)
local macro_rules | `(tactic| row_room_at rdhd) => `(tactic| with_reducible refine rd_ixT (by with_unfolding_all row_room_at hp) (by with_unfolding_all row_room_at ati) ?_)
local macro_rules | `(tactic| row_room_at rdhd) => `(tactic| with_reducible refine rd_eq (by with_unfolding_all rfl) ?_)
local macro_rules | `(tactic| row_room_at rdhd) => `(tactic| with_reducible apply rd_call)
local macro_rules | `(tactic| row_room_at rdhd) => `(tactic| with_reducible apply rd_gName)
local macro_rules | `(tactic| row_room_at rdhd) => `(tactic| with_reducible apply rd_test)
local macro_rules | `(tactic| row_room_at rdhd) => `(tactic| with_reducible apply rd_cons)
local macro_rules | `(tactic| row_room_at rdhd) => `(tactic| with_reducible apply rd_consC)
local macro_rules | `(tactic| row_room_at rdhd) => `(tactic| with_reducible refine rd_consV (by with_unfolding_all rfl) ?_)
local macro_rules | `(tactic| row_room_at rdhd) => `(tactic| with_reducible apply rd_nil)
local macro_rules | `(tactic| row_room_at rdhd) => `(tactic| with_reducible apply rd_c)
local macro_rules | `(tactic| row_room_at rdhd) => `(tactic| with_reducible refine rd_var (by with_unfolding_all rfl) ?_)
local macro_rules | `(tactic| row_room_at rdhd) => `(tactic| with_reducible apply rd_op)
local macro_rules | `(tactic| row_room_at rdsz) => `(tactic| with_reducible refine rd_szN (m := 900000) (by with_unfolding_all ((try simp only [PySem.Str.length_append]); omega)) (by with_unfolding_all decide) ?_)
local macro_rules | `(tactic| row_room_at rdsz) => `(tactic| with_reducible refine rd_sz (by with_unfolding_all first | decide | (simp only [List.length_append, List.length_map, List.length_cons, List.length_nil, List.length_take]; omega)) ?_)
local macro_rules | `(tactic| row_room_at rd1) => `(tactic| with_reducible refine rd_unN (by with_reducible assumption) ?_)
local macro_rules | `(tactic| row_room_at rd1) => `(tactic| ((fail_if_success with_reducible apply g_sp); (fail_if_success with_reducible apply g_ite); row_room_at rdex))
local macro_rules | `(tactic| row_room_at rd1) => `(tactic| ((fail_if_success with_reducible apply g_sp); (fail_if_success with_reducible intro _); row_room_at rdhd))
local macro_rules | `(tactic| row_room_at rd1) => `(tactic| row_room_at rdsz)
local macro_rules | `(tactic| row_room_at rd1) => `(tactic| ((with_reducible apply g_ex); row_room_at rdex))
local macro_rules | `(tactic| row_room_at rd1) => `(tactic| ((with_reducible apply g_ite); row_room_at rdit))
local macro_rules | `(tactic| row_room_at rd1) => `(tactic| ((with_reducible apply g_ts); row_room_at rdts))
local macro_rules | `(tactic| row_room_at rd) => `(tactic| repeat row_room_at rd1)
theorem pe_alt {X : Cx} {e : Expr} {t t' : TE} (a : PE X e t) (b : PE X e t') : PE X e (fun σ H Q => t σ H Q ∨ t' σ H Q) := ⟨fun pins s σ H Q I h => h.elim (a.run pins s σ H Q I) (b.run pins s σ H Q I)⟩
/-! ### the text of a formula -/
def B3.sg : B3 → Str
  | .plus => " + "
  | .minus => " - "
  | .times => " * "
def B3.s1 : B3 → Str
  | .plus => "+"
  | .minus => "-"
  | .times => "*"
mutual
def Fo.txt : Fo → Str
  | .num n => Str.ofString (toString n)
  | .nam z => z
  | .neg f => ("(- " : Str) ++ f.txt ++ (")" : Str)
  | .shl f n => ("(" : Str) ++ f.txt ++ (" << " : Str) ++ Str.ofString (toString n) ++ (")" : Str)
  | .bin o f g => ("(" : Str) ++ f.txt ++ o.sg ++ g.txt ++ (")" : Str)
  | .sum i b f => ("sum(" : Str) ++ i ++ (", " : Str) ++ b.txt ++ (", " : Str) ++ f.txt ++ (")" : Str)
  | .call z fs => z ++ ("(" : Str) ++ Txt.join ", " (Fo.txts fs) ++ (")" : Str)
def Fo.txts : List Fo → List Str
  | [] => []
  | f :: fs => f.txt :: Fo.txts fs
end
theorem Fo.txts_map : ∀ fs : List Fo, Fo.txts fs = fs.map Fo.txt
  | [] => rfl
  | f :: fs => by rw [Fo.txts, Fo.txts_map fs]; rfl
structure Lens : Prop where
  l1 : (Str.ofString "(- ").length = 3
  l2 : (Str.ofString "(").length = 1
  l3 : (Str.ofString " << ").length = 4
  l4 : (Str.ofString ")").length = 1
  l5 : (Str.ofString ", ").length = 2
  l6 : (Str.ofString "sum(").length = 4
  l7 : (Str.ofString "").length = 0
  l8 : (Str.ofString " ").length = 1
  l9 : Str.empty.length = 0
theorem lens : Lens := ⟨by decide +kernel, by decide +kernel, by decide +kernel, by decide +kernel, by decide +kernel, by decide +kernel, by decide +kernel, by decide +kernel, by decide +kernel⟩
theorem B3.sg_len (o : B3) : o.sg.length = 3 := by cases o <;> decide +kernel
theorem B3.s1_len (o : B3) : o.s1.length = 1 := by cases o <;> decide +kernel
theorem joinL_len (S : List Nat) : ∀ l : List (List Nat), (TL.joinL S l).length ≤ (l.map (·.length)).sum + l.length * S.length
  | [] => by simp [TL.joinL]
  | [a] => by simp [TL.joinL]
  | a :: b :: r => by
    have h := joinL_len S (b :: r)
    show (a ++ (S ++ TL.joinL S (b :: r))).length ≤ a.length + ((b :: r).map (·.length)).sum + (r.length + 1 + 1) * S.length
    rw [List.length_append, List.length_append, Nat.succ_mul]
    rw [List.length_cons] at h
    omega
theorem join_len (ys : List Str) : (Txt.join (", " : Str) ys).length ≤ (ys.map (·.length)).sum + ys.length * 2 := by
  rw [TL.len_tl, TL.join_eq, TL.tl_join]
  have h := joinL_len (TL.tl (Str.ofString ", ")) (ys.map TL.tl)
  have e : (TL.tl (Str.ofString ", ")).length = 2 := by decide +kernel
  have e2 : ((ys.map TL.tl).map (·.length)) = ys.map (·.length) := by
    rw [List.map_map]
    exact List.map_congr_left fun y _ => (TL.len_tl y).symm
  rw [e, e2, List.length_map] at h
  exact h
theorem int_len {n : Int} (h0 : 0 ≤ n) (h : n < 10 ^ 30) : (Str.ofString (toString n)).length ≤ 30 := by
  obtain ⟨k, rfl⟩ := Int.eq_ofNat_of_zero_le h0
  exact num_len (by omega)
theorem int_log {n : Int} (h0 : 0 ≤ n) (h : n < 10 ^ 30) : n.natAbs.log2 < 1920 := by
  obtain ⟨k, rfl⟩ := Int.eq_ofNat_of_zero_le h0
  exact log_small (by omega)
mutual
theorem Fo.txt_lenP : ∀ f : Fo, f.Pre → f.txt.length ≤ 250 * f.parts
  | .num n, h => by
    have := int_len h.1 h.2
    simp only [Fo.txt, Fo.parts]; omega
  | .nam z, h => by
    have := h.2
    simp only [Fo.txt, Fo.parts]; omega
  | .neg f, h => by
    have := Fo.txt_lenP f h
    have L := lens
    simp only [Fo.txt, Fo.parts, PySem.Str.length_append, L.l1, L.l4]; omega
  | .shl f n, h => by
    simp only [Fo.Pre] at h
    have := Fo.txt_lenP f h.2.2
    have := int_len h.1 (Int.lt_of_le_of_lt h.2.1 (by decide))
    have L := lens
    simp only [Fo.txt, Fo.parts, PySem.Str.length_append, L.l2, L.l3, L.l4]; omega
  | .bin o f g, h => by
    simp only [Fo.Pre] at h
    have := Fo.txt_lenP f h.1
    have := Fo.txt_lenP g h.2
    have := o.sg_len
    have L := lens
    simp only [Fo.txt, Fo.parts, PySem.Str.length_append, L.l2, L.l4]; omega
  | .sum i b f, h => by
    simp only [Fo.Pre] at h
    obtain ⟨gi, lb, ob, of⟩ := h
    have := Fo.txt_lenP f of
    have := gi.2
    have hb : b.txt.length ≤ 100 := by
      cases b with
      | num n => have := int_len ob.1 ob.2; simp only [Fo.txt]; omega
      | nam z => have := ob.2; simp only [Fo.txt]; omega
      | _ => exact lb.elim
    have L := lens
    simp only [Fo.txt, Fo.parts, PySem.Str.length_append, L.l6, L.l5, L.l4]; omega
  | .call z fs, h => by
    simp only [Fo.Pre] at h
    obtain ⟨gz, n1, n4, of⟩ := h
    have tl := Fo.txts_lenP fs of
    have := gz.2
    have j := join_len (Fo.txts fs)
    rw [Fo.txts_map, List.length_map] at j
    rw [Fo.txts_map] at tl
    have L := lens
    simp only [Fo.txt, Fo.parts, Fo.txts_map, PySem.Str.length_append, L.l2, L.l4]; omega
theorem Fo.txts_lenP : ∀ fs : List Fo, Fo.PreL fs → ((Fo.txts fs).map (·.length)).sum ≤ 250 * Fo.partsL fs
  | [], _ => by simp [Fo.txts]
  | f :: fs, h => by
    have h1 := Fo.txt_lenP f h.1
    have h2 := Fo.txts_lenP fs h.2
    show f.txt.length + ((Fo.txts fs).map (·.length)).sum ≤ 250 * (f.parts + Fo.partsL fs)
    omega
end
theorem Fo.txt_len (f : Fo) (ok : f.Ok) : f.txt.length ≤ 250 * f.parts := Fo.txt_lenP f ok.pre
theorem Fo.txts_len (fs : List Fo) (ok : Fo.OkL fs) : ((Fo.txts fs).map (·.length)).sum ≤ 250 * Fo.partsL fs := Fo.txts_lenP fs ok.pre
theorem txt_leP {f : Fo} (ok : f.Pre) (h : f.parts ≤ 1100) : f.txt.length ≤ 275000 := by have := Fo.txt_lenP f ok; omega
theorem SG_at {K : PySem.W.Frag} {w : World} (SG : ∃ es n, KDict K w (ga K "SIGNS") es n) (h : valsB K (ga K "SIGNS") [("plus", .str "+"), ("minus", .str "-"), ("times", .str "*")] = true) (o : B3) : KDct K w (ga K "SIGNS") o.str (.str o.s1) := by
  obtain ⟨es, n, D⟩ := SG
  cases o
  · obtain ⟨u, e, r⟩ := valsB_ok h (q := ("plus", .str "+")) (by simp)
    exact kdct_of D e r
  · obtain ⟨u, e, r⟩ := valsB_ok h (q := ("minus", .str "-")) (by simp)
    exact kdct_of D e r
  · obtain ⟨u, e, r⟩ := valsB_ok h (q := ("times", .str "*")) (by simp)
    exact kdct_of D e r

end
end KM
set_option Elab.async false
set_option linter.all false
set_option maxRecDepth 100000
set_option maxHeartbeats 8000000
namespace KM
open PySem PySem.Spec PyProof.Rows L2 He Sw L2H
section
variable {P : Program} {w : World} {K : PySem.W.Frag} {mg : Str → Option Value} {base : Heap}
/-! ### the first fault -/
inductive Ft where
  | bd (i : Str)
  | nm (i : Str)
  | mny
instance {f : Fo} : Decidable f.Fits := by unfold Fo.Fits; infer_instance
def orF : Option Ft → Option Ft → Option Ft
  | some e, _ => some e
  | none, b => b
def Fo.isN (i : Str) : Fo → Bool
  | .nam z => decide (z = i)
  | _ => false
theorem Fo.isN_iff {i : Str} {b : Fo} : b.isN i = true ↔ b = .nam i := by
  cases b <;> simp [Fo.isN]
def mnyF (f : Fo) : Option Ft := if f.Fits then none else some .mny
mutual
def Fo.fault : Fo → Option Ft
  | .num _ => none
  | .nam _ => none
  | .neg g => orF g.fault (mnyF (.neg g))
  | .shl g n => orF g.fault (mnyF (.shl g n))
  | .bin o f g => orF f.fault (orF g.fault (mnyF (.bin o f g)))
  | .sum i b g => orF g.fault (if b.isN i = true then some (.bd i) else if i ∈ g.ixs then some (.nm i) else mnyF (.sum i b g))
  | .call z fs => orF (faultL fs) (mnyF (.call z fs))
def faultL : List Fo → Option Ft
  | [] => none
  | f :: fs => orF f.fault (faultL fs)
end
theorem orF_none {a b : Option Ft} (h : orF a b = none) : a = none ∧ b = none := by
  cases a with
  | none => exact ⟨rfl, h⟩
  | some _ => cases h
theorem mny_none {f : Fo} (h : mnyF f = none) : f.Fits := by
  unfold mnyF at h
  by_cases c : f.Fits
  · exact c
  · rw [if_neg c] at h; cases h
mutual
theorem Fo.ok_of : ∀ {f : Fo}, f.Pre → f.fault = none → f.Ok ∧ f.Fits
  | .num n, h, _ => by simp only [Fo.Pre] at h; exact ⟨by simp only [Fo.Ok]; exact h, by simp only [Fo.Fits, Fo.parts, Fo.depth]; omega⟩
  | .nam z, h, _ => by simp only [Fo.Pre] at h; exact ⟨by simp only [Fo.Ok]; exact h, by simp only [Fo.Fits, Fo.parts, Fo.depth]; omega⟩
  | .neg g, h, e => by
    simp only [Fo.Pre] at h
    simp only [Fo.fault] at e
    obtain ⟨e1, e2⟩ := orF_none e
    exact ⟨by simp only [Fo.Ok]; exact (Fo.ok_of h e1).1, mny_none e2⟩
  | .shl g n, h, e => by
    simp only [Fo.Pre] at h
    simp only [Fo.fault] at e
    obtain ⟨e1, e2⟩ := orF_none e
    exact ⟨by simp only [Fo.Ok]; exact ⟨h.1, h.2.1, (Fo.ok_of h.2.2 e1).1⟩, mny_none e2⟩
  | .bin o f g, h, e => by
    simp only [Fo.Pre] at h
    simp only [Fo.fault] at e
    obtain ⟨e1, e2⟩ := orF_none e
    obtain ⟨e2, e3⟩ := orF_none e2
    exact ⟨by simp only [Fo.Ok]; exact ⟨(Fo.ok_of h.1 e1).1, (Fo.ok_of h.2 e2).1⟩, mny_none e3⟩
  | .sum i b g, h, e => by
    simp only [Fo.Pre] at h
    simp only [Fo.fault] at e
    obtain ⟨e1, e2⟩ := orF_none e
    by_cases c : b.isN i = true
    · rw [if_pos c] at e2; cases e2
    rw [if_neg c] at e2
    by_cases c2 : i ∈ g.ixs
    · rw [if_pos c2] at e2; cases e2
    rw [if_neg c2] at e2
    exact ⟨by simp only [Fo.Ok]; exact ⟨h.1, h.2.1, h.2.2.1, fun z => c (Fo.isN_iff.mpr z), c2, (Fo.ok_of h.2.2.2 e1).1⟩, mny_none e2⟩
  | .call z fs, h, e => by
    simp only [Fo.Pre] at h
    simp only [Fo.fault] at e
    obtain ⟨e1, e2⟩ := orF_none e
    exact ⟨by simp only [Fo.Ok]; exact ⟨h.1, h.2.1, h.2.2.1, Fo.okL_of h.2.2.2 e1⟩, mny_none e2⟩
theorem Fo.okL_of : ∀ {fs : List Fo}, Fo.PreL fs → faultL fs = none → Fo.OkL fs
  | [], _, _ => trivial
  | f :: fs, h, e => by
    simp only [faultL] at e
    obtain ⟨e1, e2⟩ := orF_none e
    exact ⟨(Fo.ok_of h.1 e1).1, Fo.okL_of h.2 e2⟩
end
theorem Fo.pre_kids {f : Fo} (h : f.Pre) : ∀ g ∈ f.kids, g.Pre := fun g hg => by
  cases f <;> simp only [Fo.kids, List.mem_cons, List.not_mem_nil, or_false] at hg <;> simp only [Fo.Pre] at h
  case neg => rw [hg]; exact h
  case shl => rw [hg]; exact h.2.2
  case bin => rcases hg with rfl | rfl; exact h.1; exact h.2
  case sum => rw [hg]; exact h.2.2.2
  case call => exact Fo.preL_mem.mp h.2.2.2 g hg

end
end KM
set_option Elab.async false
set_option linter.all false
set_option maxRecDepth 100000
set_option maxHeartbeats 8000000
namespace KM
open PySem PySem.Spec PyProof.Rows L2 He Sw L2H
section
variable {P : Program} {w : World} {K : PySem.W.Frag} {mg : Str → Option Value} {base : Heap}
local macro_rules | `(tactic| row_room_at ne) => `(tactic| with_reducible assumption)
local macro_rules | `(tactic| row_room_at hp) => `(tactic| (apply SameBut.use; with_reducible assumption; rotate_left; row_room_at hp; row_room_at ne))
local macro_rules | `(tactic| row_room_at hp) => `(tactic| (apply FoAt.same; rotate_left; with_reducible assumption; row_room_at hp))
local macro_rules | `(tactic| row_room_at hp) => `(tactic| (apply Sw.Same.use; with_reducible assumption; row_room_at hp))
local macro_rules | `(tactic| row_room_at hp) => `(tactic| (apply SqT.of; row_room_at hp))
local macro_rules | `(tactic| row_room_at hp) => `(tactic| (apply SqL.of; row_room_at hp))
local macro_rules | `(tactic| row_room_at hp) => `(tactic| with_reducible assumption)
local macro_rules | `(tactic| row_room_at ati) => `(tactic| first | with_reducible assumption | rfl | (apply atI_nat; rfl))
local macro_rules | `(tactic| row_room_at cc) => `(tactic| first | with_reducible assumption | omega | decide | (refine ⟨?_, ?_⟩ <;> first | decide | omega) | (refine ⟨?_, ?_, ?_⟩ <;> first | decide | omega) | (left; refine ⟨?_, ?_⟩ <;> first | decide | omega) | (right; refine ⟨?_, ?_⟩ <;> first | decide | omega))
local macro_rules | `(tactic| row_room_at rdts) => `(tactic| with_reducible apply rd_retN)
local macro_rules | `(tactic| row_room_at rdts) => `(tactic| with_reducible apply rd_cont)
local macro_rules | `(tactic| row_room_at rdts) => `(tactic| with_reducible apply rd_brk)
local macro_rules | `(tactic| row_room_at rdts) => `(tactic| with_reducible apply rd_dput)
local macro_rules | `(tactic| row_room_at rdts) => `(tactic| with_reducible apply rd_drop)
local macro_rules | `(tactic| row_room_at rdts) => `(tactic| with_reducible apply rd_for)
local macro_rules | `(tactic| row_room_at rdts) => `(tactic| with_reducible apply rd_ret)
local macro_rules | `(tactic| row_room_at rdts) => `(tactic| with_reducible apply rd_next)
local macro_rules | `(tactic| row_room_at rdts) => `(tactic| with_reducible apply rd_ifS)
local macro_rules | `(tactic| row_room_at rdts) => `(tactic| with_reducible apply rd_asg)
local macro_rules | `(tactic| row_room_at rdts) => `(tactic| with_reducible refine rd_seqN fun _ _ => ?_)
local macro_rules | `(tactic| row_room_at rdit) => `(tactic| with_reducible refine rd_iteNF (by with_unfolding_all decide +kernel) ?_)
local macro_rules | `(tactic| row_room_at rdit) => `(tactic| with_reducible refine rd_iteNT (by with_unfolding_all decide +kernel) ?_)
local macro_rules | `(tactic| row_room_at rdit) => `(tactic| with_reducible apply rd_iteN0)
local macro_rules | `(tactic| row_room_at rdit) => `(tactic| with_reducible apply rd_iteN1)
local macro_rules | `(tactic| row_room_at rdit) => `(tactic| with_reducible apply rd_ite1)
local macro_rules | `(tactic| row_room_at rdit) => `(tactic| with_reducible apply rd_ite0)
local macro_rules | `(tactic| row_room_at rdit) => `(tactic| with_reducible refine rd_iteT (by with_unfolding_all decide +kernel) ?_)
local macro_rules | `(tactic| row_room_at rdit) => `(tactic| with_reducible refine rd_iteF (by with_unfolding_all decide +kernel) ?_)
local macro_rules | `(tactic| row_room_at rdex) => `(tactic| with_reducible refine rd_szN (m := 900000) (by with_unfolding_all ((try simp only [PySem.Str.length_append]); omega)) (by with_unfolding_all decide) ?_)
local macro_rules | `(tactic| row_room_at rdex) => `(tactic| with_reducible apply rd_orI)
local macro_rules | `(tactic| row_room_at rdex) => `(tactic| with_reducible apply rd_orS)
local macro_rules | `(tactic| row_room_at rdex) => `(tactic| with_reducible apply rd_1S)
local macro_rules | `(tactic| row_room_at rdex) => `(tactic| with_reducible apply rd_2S)
local macro_rules | `(tactic| row_room_at rdex) => `(tactic| with_reducible refine rd_fld' (by with_unfolding_all row_room_at hp) (by with_unfolding_all assumption) (by with_unfolding_all assumption) (by with_unfolding_all rfl) ?_)
local macro_rules | `(tactic| row_room_at rdex) => `(tactic| with_reducible refine rd_ty (by with_unfolding_all row_room_at hp) ?_)
local macro_rules | `(tactic| row_room_at rdex) => `(tactic| with_reducible refine rd_itup' (by with_unfolding_all row_room_at hp) ?_)
local macro_rules | `(tactic| row_room_at rdex) => `(tactic| with_reducible refine rd_ilist' (by with_unfolding_all row_room_at hp) ?_)
local macro_rules | `(tactic| row_room_at rdex) => `(tactic| with_reducible apply rd_1B)
local macro_rules | `(tactic| row_room_at rdex) => `(tactic| with_reducible refine rd_dgetS (by with_unfolding_all row_room_at hp) (by with_unfolding_all assumption) ?_)
local macro_rules | `(tactic| row_room_at rdex) => `(tactic| with_reducible refine rd_dget' (by with_unfolding_all row_room_at hp) (by with_unfolding_all rfl) (by with_unfolding_all assumption) ?_)
local macro_rules | `(tactic| row_room_at rdex) => `(tactic| with_reducible refine rd_len (by with_unfolding_all first | exact .inl (by row_room_at hp) | exact .inr (by row_room_at hp)) ?_)
local macro_rules | `(tactic| row_room_at rdex) => `(tactic| with_reducible refine rd_lenQ (by with_unfolding_all first | exact .inl (by row_room_at hp) | exact .inr (by row_room_at hp)) ?_)
local macro_rules | `(tactic| row_room_at rdex) => `(tactic| with_reducible apply rd_2I)
local macro_rules | `(tactic| row_room_at rdex) => `(tactic| with_reducible refine rd_b62 (by with_unfolding_all first | decide | (constructor <;> omega)) ?_)
local macro_rules | `(tactic| row_room_at rdex) => `(tactic| with_reducible apply rd_1I)
local macro_rules | `(tactic| row_room_at rdex) => `(tactic| with_reducible apply rd_int1)
local macro_rules | `(tactic| row_room_at rdex) => `(tactic| with_reducible apply rd_iv)
local macro_rules | `(tactic| row_room_at rdex) => `(tactic| with_reducible refine rd_sz (by with_unfolding_all first | decide | (simp only [List.length_append, List.length_map, List.length_cons, List.length_nil, List.length_take]; omega)) ?_)
local macro_rules | `(tactic| row_room_at rdex) => `(tactic| with_reducible apply rd_bl)
local macro_rules | `(tactic| row_room_at rdhd) => `(tactic| with_reducible apply rd_fmtS)
local macro_rules | `(tactic| row_room_at rdhd) => `(tactic| with_reducible apply rd_js0)
local macro_rules | `(tactic| row_room_at rdhd) => `(tactic| with_reducible apply rd_js)
local macro_rules | `(tactic| row_room_at rdhd) => `(tactic| with_reducible apply rd_m1)
local macro_rules | `(tactic| row_room_at rdhd) => `(tactic| with_reducible apply rd_fld)
local macro_rules | `(tactic| row_room_at rdhd) => `(tactic| with_reducible refine rd_append (by with_unfolding_all row_room_at hp) (by with_unfolding_all first | decide | (simp only [List.length_append, List.length_map, List.length_cons, List.length_nil]; omega)) ?_)
local macro_rules | `(tactic| row_room_at rdhd) => `(tactic| with_reducible apply rd_bm)
local macro_rules | `(tactic| row_room_at rdhd) => `(tactic| with_reducible apply rd_yes)
local macro_rules | `(tactic| row_room_at rdhd) => `(tactic| with_reducible apply rd_lc)
local macro_rules | `(tactic| row_room_at rdhd) => `(tactic| with_reducible apply rd_itup)
local macro_rules | `(tactic| row_room_at rdhd) => `(tactic| with_reducible apply rd_ilist)
local macro_rules | `(tactic| row_room_at rdhd) => `(tactic| with_reducible refine rd_dictK (by with_unfolding_all row_room_at hp) ?_)
local macro_rules | `(tactic| row_room_at rdhd) => `(tactic| with_reducible refine rd_lenK (by with_unfolding_all first | exact .inl (by row_room_at hp) | exact .inr (by row_room_at hp)) ?_)
local macro_rules | `(tactic| row_room_at rdhd) => `(tactic| with_reducible apply rd_methI)
local macro_rules | `(tactic| row_room_at rdhd) => `(tactic| with_reducible apply rd_dget)
local macro_rules | `(tactic| row_room_at rdhd) => `(tactic| with_reducible apply rd_if)
local macro_rules | `(tactic| row_room_at rdhd) => `(tactic| with_reducible apply rd_notV)
local macro_rules | `(tactic| row_room_at rdhd) => `(tactic| with_reducible apply rd_orV)
local macro_rules | `(tactic| row_room_at rdhd) => `(tactic| with_reducible apply rd_andV)
local macro_rules | `(tactic| row_room_at rdhd) => `(tactic| with_reducible apply rd_U)
local macro_rules | `(tactic| row_room_at rdhd) => `(tactic| with_reducible apply rd_un)
local macro_rules | `(tactic| row_room_at rdhd) => `(tactic| with_reducible refine rd_cat (by with_unfolding_all row_room_at hp) (by with_unfolding_all row_room_at hp) (by with_unfolding_all first | decide | (simp only [List.length_append, List.length_map, List.length_cons, List.length_nil, List.length_take]; omega)) ?_)
local macro_rules | `(tactic| row_room_at rdhd) => `(tactic| with_reducible refine rd_slL (by with_unfolding_all row_room_at hp) ?_)
local macro_rules | `(tactic| row_room_at rdhd) => `(tactic| with_reducible apply rd_nopart)
local macro_rules | `(tactic| row_room_at rdhd) => `(tactic| with_reducible apply rd_make)
local macro_rules | `(tactic| row_room_at rdhd) => `(tactic| with_reducible apply rd_kt)
local macro_rules | `(tactic| row_room_at rdhd) => `(tactic| with_reducible apply rd_rng1)
local macro_rules | `(tactic| row_room_at rdhd) => `(tactic| with_reducible refine rd_ne (by with_unfolding_all rfl) ?_)
local macro_rules | `(tactic| row_room_at rdhd) => `(tactic| with_reducible apply rd_and)
local macro_rules | `(tactic| row_room_at rdhd) => `(tactic| with_reducible apply rd_B)
local macro_rules | `(tactic| row_room_at rdhd) => `(tactic| with_reducible apply rd_not)
local macro_rules | `(tactic| row_room_at rdhd) => `(tactic| with_reducible refine rd_ixL (by with_unfolding_all row_room_at hp) (by with_unfolding_all row_room_at ati) ?_)
local macro_rules | `(tactic| row_room_at rdhd) => `(tactic| with_reducible apply rd_sl)
local macro_rules | `(tactic| row_room_at rdhd) => `(tactic| with_reducible refine rd_I (by with_unfolding_all row_room_at cc) ?_)
local macro_rules | `(tactic| row_room_at rdhd) => `(tactic| with_reducible apply rd_or)
local macro_rules | `(tactic| row_room_at rdhd) => `(tactic| with_reducible apply rd_lst)
local macro_rules | `(tactic| row_room_at rdhd) => `(tactic| with_reducible apply rd_part)
local macro_rules | `(tactic| row_room_at rdhd) => `(tactic| with_reducible apply rd_tup)
local macro_rules | `(tactic| row_room_at rdhd) => `(tactic| with_reducible apply rd_I0)
local macro_rules | `(tactic| row_room_at rdhd) => `(tactic| with_reducible apply rd_CB)
local macro_rules | `(tactic| row_room_at rdhd) => `(tactic| with_reducible refine rd_ixT (by with_unfolding_all row_room_at hp) (by with_unfolding_all row_room_at ati) ?_)
local macro_rules | `(tactic| row_room_at rdhd) => `(tactic| with_reducible refine rd_eq (by with_unfolding_all rfl) ?_)
local macro_rules | `(tactic| row_room_at rdhd) => `(tactic| with_reducible apply rd_call)
local macro_rules | `(tactic| row_room_at rdhd) => `(tactic| with_reducible apply rd_gName)
local macro_rules | `(tactic| row_room_at rdhd) => `(tactic| with_reducible apply rd_test)
local macro_rules | `(tactic| row_room_at rdhd) => `(tactic| with_reducible apply rd_cons)
local macro_rules | `(tactic| row_room_at rdhd) => `(tactic| with_reducible apply rd_consC)
local macro_rules | `(tactic| row_room_at rdhd) => `(tactic| with_reducible refine rd_consV (by with_unfolding_all rfl) ?_)
local macro_rules | `(tactic| row_room_at rdhd) => `(tactic| with_reducible apply rd_nil)
local macro_rules | `(tactic| row_room_at rdhd) => `(tactic| with_reducible apply rd_c)
local macro_rules | `(tactic| row_room_at rdhd) => `(tactic| with_reducible refine rd_var (by with_unfolding_all rfl) ?_)
local macro_rules | `(tactic| row_room_at rdhd) => `(tactic| with_reducible apply rd_op)
local macro_rules | `(tactic| row_room_at rdsz) => `(tactic| with_reducible refine rd_szN (m := 900000) (by with_unfolding_all ((try simp only [PySem.Str.length_append]); omega)) (by with_unfolding_all decide) ?_)
local macro_rules | `(tactic| row_room_at rdsz) => `(tactic| with_reducible refine rd_sz (by with_unfolding_all first | decide | (simp only [List.length_append, List.length_map, List.length_cons, List.length_nil, List.length_take]; omega)) ?_)
local macro_rules | `(tactic| row_room_at rd1) => `(tactic| with_reducible refine rd_unN (by with_reducible assumption) ?_)
local macro_rules | `(tactic| row_room_at rd1) => `(tactic| ((fail_if_success with_reducible apply g_sp); (fail_if_success with_reducible apply g_ite); row_room_at rdex))
local macro_rules | `(tactic| row_room_at rd1) => `(tactic| ((fail_if_success with_reducible apply g_sp); (fail_if_success with_reducible intro _); row_room_at rdhd))
local macro_rules | `(tactic| row_room_at rd1) => `(tactic| row_room_at rdsz)
local macro_rules | `(tactic| row_room_at rd1) => `(tactic| ((with_reducible apply g_ex); row_room_at rdex))
local macro_rules | `(tactic| row_room_at rd1) => `(tactic| ((with_reducible apply g_ite); row_room_at rdit))
local macro_rules | `(tactic| row_room_at rd1) => `(tactic| ((with_reducible apply g_ts); row_room_at rdts))
local macro_rules | `(tactic| row_room_at rd) => `(tactic| repeat row_room_at rd1)
/-! ### written -/
theorem sgn (o : B3) : ((Str.ofString " ") ++ o.s1) ++ (Str.ofString " ") = o.sg := by cases o <;> decide +kernel
theorem txt_le {f : Fo} (ok : f.Ok) (h : f.parts ≤ 300) : f.txt.length ≤ 75000 := by have := Fo.txt_len f ok; omega
theorem emp_add (x : Str) : Str.empty ++ x = x := TL.ext_tl (by rw [TL.tl_append]; rfl)
theorem add_as (x y z : Str) : x ++ y ++ z = x ++ (y ++ z) := TL.ext_tl (by simp only [TL.tl_append, List.append_assoc])
def spWrit (K : PySem.W.Frag) (n : Nat) : Sp := fun vs H Q _ => ∃ (f : Fo) (a : Addr), vs = [.ref a] ∧ f.depth ≤ n ∧ f.Ok ∧ f.parts ≤ 300 ∧ FoAt K H f a ∧ ∀ H', Same H H' → Q (.str f.txt) H'
section
variable (SG : ∃ es n, KDict K w (ga K "SIGNS") es n)
include SG
omit SG in
theorem sc_written : FnScope ["formula", "things", "one"] ["formula"] (defScope s_written) := ⟨rfl, rfl, rfl, by decide +kernel, rfl, by decide +kernel, by decide +kernel⟩
theorem ok_written (T : Txt K mg) : ∀ n, Cal P w K mg base CX0 (n + 2) (ga K "written") ["formula"] (spWrit K n)
  | 0 => by
    obtain ⟨fd, F⟩ := T.f_written
    refine ⟨fd, ⟨fun vs H Q E h => ?_, fun A outer s H args us vs Q E _ _ _ _ h => ?_⟩, F.kp, F.bindsN fun _ _ _ _ _ _ us hl => match us, hl with | [_], _ => rfl⟩
    · obtain ⟨_, _, rfl, _⟩ := h
      rfl
    · obtain ⟨_, _, _, h, _⟩ := h
      exact absurd h (Nat.not_le_of_lt (Fo.depth_pos _))
  | n + 1 => by
    have GX := ok_written T n
    obtain ⟨fd, F⟩ := T.f_written
    refine ⟨fd, ?_, F.kp, F.bindsN fun _ _ _ _ _ _ us hl => match us, hl with | [_], _ => rfl⟩
    refine F.ok sc_written (fun vs H Q E h => ?_) (fun cdv A outer s H vs Q E hr h => ?_)
    · obtain ⟨_, _, rfl, _⟩ := h
      rfl
    have nod := sc_written.nd
    have hu := hu_of hr
    refine ⟨_, PSs.nox (pss_cons (ps_set (i := 1) nod rfl (Or.inl rfl) (pe_fld (pv 0) rfl))
    (pss_cons (ps_if (pt_cmpR op_in_seq (pe_fld (pv 0) rfl) (pe_tup (pa_cons pe_str (pa_cons pe_str pa_nil))) rfl)
      (pss_one (ps_ret (pe_alt (pe_callTy call_str_int rfl (T.f "str") (by decide +kernel) (pa_cons (pe_ix ix_tup (pv 1) pe_int (fun _ _ => rfl)) pa_nil)) (pe_callTy (SkE.call_str_str) rfl (T.f "str") (by decide +kernel) (pa_cons (pe_ix ix_tup (pv 1) pe_int (fun _ _ => rfl)) pa_nil)))))
      pss_nil)
    (pss_cons (ps_if (pt_cmpR op_eq (pe_fld (pv 0) rfl) pe_str (nomark _))
      (pss_one (ps_ret (pe_joined (PJ.cons pe_str (PJ.cons (pe_fmt (pe_callC GX (hr.mono (by omega)) rfl (T.g "written") pass0 (pa_cons (pe_ix ix_tup (pv 1) pe_int (fun _ _ => rfl)) pa_nil))) (PJ.cons pe_str PJ.nil))))))
      pss_nil)
    (pss_cons (ps_if (pt_cmpR op_eq (pe_fld (pv 0) rfl) pe_str (nomark _))
      (pss_one (ps_ret (pe_joined (PJ.cons pe_str (PJ.cons (pe_fmt (pe_callC GX (hr.mono (by omega)) rfl (T.g "written") pass0 (pa_cons (pe_ix ix_tup (pv 1) pe_int (fun _ _ => rfl)) pa_nil))) (PJ.cons pe_str (PJ.cons (pe_fmt (pe_ix ix_tup (pv 1) pe_int (fun _ _ => rfl))) (PJ.cons pe_str PJ.nil))))))))
      pss_nil)
    (pss_cons (ps_if (pt_cmpR op_eq (pe_fld (pv 0) rfl) pe_str (nomark _))
      (pss_one (ps_ret (pe_joined (PJ.cons pe_str (PJ.cons (pe_fmt (pe_ix ix_tup (pv 1) pe_int (fun _ _ => rfl))) (PJ.cons pe_str (PJ.cons (pe_fmt (pe_callC GX (hr.mono (by omega)) rfl (T.g "written") pass0 (pa_cons (pe_ix ix_tup (pv 1) pe_int (fun _ _ => rfl)) pa_nil))) (PJ.cons pe_str (PJ.cons (pe_fmt (pe_callC GX (hr.mono (by omega)) rfl (T.g "written") pass0 (pa_cons (pe_ix ix_tup (pv 1) pe_int (fun _ _ => rfl)) pa_nil))) (PJ.cons pe_str PJ.nil))))))))))
      pss_nil)
    (pss_cons (ps_if (pt_cmpR op_eq (pe_fld (pv 0) rfl) pe_str (nomark _))
      (pss_one (ps_ret (pe_op op_add_str (pe_op op_add_str (pe_op op_add_str (pe_ix ix_tup (pv 1) pe_int (fun _ _ => rfl)) pe_str) (pe_join pe_str (pe_lc (own := [("one", 2)]) (te := (tCall (spWrit K n) [] E0 (tCons (tVar 2) tNil))) (g := (gName 2)) (tt := tYes) rfl nod (pi_tup (pe_ix ix_tup (pv 1) pe_int (fun _ _ => rfl))) (blkOk_by (N := ["formula", "things", "one"]) (sc := defScope s_written) (by decide +kernel)) (fun _ _ _ _ _ => (pg_name (i := 2) nod rfl (Or.inl rfl))) (fun _ _ _ _ _ => pts_nil) (fun _ _ _ _ _ => (pe_callC GX (hr.mono (by omega)) rfl (T.g "written") pass0 (pa_cons (pv 2) pa_nil)))))) pe_str)))
      pss_nil)
    (pss_one (ps_ret (pe_joined (PJ.cons pe_str (PJ.cons (pe_fmt (pe_callC GX (hr.mono (by omega)) rfl (T.g "written") pass0 (pa_cons (pe_ix ix_tup (pv 1) pe_int (fun _ _ => rfl)) pa_nil))) (PJ.cons pe_str (PJ.cons (pe_fmt (pe_ix ix_kdict (pe_glob (v := .ref (ga K "SIGNS")) rfl (T.g "SIGNS") rfl) (pe_fld (pv 0) rfl) (fun _ _ => rfl))) (PJ.cons pe_str (PJ.cons (pe_fmt (pe_callC GX (hr.mono (by omega)) rfl (T.g "written") pass0 (pa_cons (pe_ix ix_tup (pv 1) pe_int (fun _ _ => rfl)) pa_nil))) (PJ.cons pe_str PJ.nil)))))))))))))))), ?_⟩
    obtain ⟨f, a, rfl, hn, ok, fp, hf, q⟩ := h
    obtain ⟨dx, t, th, xs, ha, et, sh, fk⟩ := hf.opened
    have IT := T.ins _ f.cls_mem
    have cl := IT.cl
    have nk := IT.no "kind" (by decide +kernel)
    have nt := IT.no "things" (by decide +kernel)
    obtain ⟨l1, l2, l3, l4, l5, l6, l7, l8, l9⟩ := lens
    have kid : ∀ {g : Fo} {x : Addr} {H' : Hp} {Q' : VK} {E' : XK}, g ∈ f.kids → FoAt K H g x → Same H H' → (∀ H2, Same H H2 → Q' (.str g.txt) H2) → spWrit K n [.ref x] H' Q' E' := fun {g x H' Q' E'} hg hx s k => ⟨g, x, rfl, by have := Fo.kid_depth hg; omega, Fo.ok_kids ok g hg, by have := Fo.kid_parts hg; omega, hx.same s, fun H2 s2 => k H2 (s.trans s2)⟩
    cases sh with
    | num n =>
      have il := int_len ok.1 ok.2
      have ig := int_log ok.1 ok.2
      row_room_at rd
      refine rd_new fun p H1 hp s1 e1 => ?_
      row_room_at rd
      refine ⟨p, _, rfl, .inr (SqT.of e1), rfl, rfl, ?_⟩
      row_room_at rd
      refine .inl ?_
      row_room_at rd
      exact ⟨ig, q H1 s1⟩
    | nam z =>
      row_room_at rd
      refine rd_new fun p H1 hp s1 e1 => ?_
      row_room_at rd
      refine ⟨p, _, rfl, .inr (SqT.of e1), rfl, rfl, ?_⟩
      row_room_at rd
      refine .inr ?_
      row_room_at rd
      exact ⟨z, rfl, q H1 s1⟩
    | neg g x =>
      obtain ⟨_, hg, hx⟩ := fk.get (i := 0) rfl
      injection hg with hg; subst hg
      have gk : g ∈ (Fo.neg g).kids := by simp [Fo.kids]
      have tl := txt_le (Fo.ok_kids ok g gk) (by have := Fo.kid_parts gk; omega)
      simp only [Fo.kind] at ha
      row_room_at rd
      refine rd_new fun p H1 hp s1 e1 => ?_
      row_room_at rd
      refine ⟨p, _, rfl, .inr (SqT.of e1), rfl, rfl, ?_⟩
      row_room_at rd
      refine ite2 (fun n => absurd n (by decide +kernel)) (fun _ => ?_)
      row_room_at rd
      refine kid gk hx s1 fun H2 s2 => ?_
      row_room_at rd
      have k := q H2 s2
      rw [Fo.txt] at k
      rw [emp_add]
      exact k
    | shl g n x => 
      obtain ⟨_, hg, hx⟩ := fk.get (i := 0) rfl
      injection hg with hg; subst hg
      have gk : g ∈ (Fo.shl g n).kids := by simp [Fo.kids]
      have tl := txt_le (Fo.ok_kids ok g gk) (by have := Fo.kid_parts gk; omega)
      simp only [Fo.kind] at ha
      simp only [Fo.Ok] at ok
      have il := int_len ok.1 (Int.lt_of_le_of_lt ok.2.1 (by decide))
      have ig := int_log ok.1 (Int.lt_of_le_of_lt ok.2.1 (by decide))
      row_room_at rd
      refine rd_new fun p H1 hp s1 e1 => ?_
      row_room_at rd
      refine ⟨p, _, rfl, .inr (SqT.of e1), rfl, rfl, ?_⟩
      row_room_at rd
      refine ite2 (fun n => absurd n (by decide +kernel)) (fun _ => ?_)
      row_room_at rd
      refine kid gk hx s1 fun H2 s2 => ?_
      row_room_at rd
      refine ⟨ig, _, rfl, ?_, ?_⟩
      · simp only [PySem.Str.length_append]; rw [sizeLine_eq]; omega
      row_room_at rd
      have k := q H2 s2
      rw [Fo.txt] at k
      rw [emp_add]
      exact k
    | bin o f g x y =>
      obtain ⟨_, hg, hx⟩ := fk.get (i := 0) rfl
      injection hg with hg; subst hg
      obtain ⟨_, hg, hy⟩ := fk.get (i := 1) rfl
      injection hg with hg; subst hg
      have gk : f ∈ (Fo.bin o f g).kids := by simp [Fo.kids]
      have gk2 : g ∈ (Fo.bin o f g).kids := by simp [Fo.kids]
      have tl := txt_le (Fo.ok_kids ok f gk) (by have := Fo.kid_parts gk; omega)
      have tl2 := txt_le (Fo.ok_kids ok g gk2) (by have := Fo.kid_parts gk2; omega)
      have sg1 := o.s1_len
      have D := SG_at SG T.sg o
      have e : Fo.txt (.bin o f g) = Str.empty ++ Str.ofString "(" ++ f.txt ++ Str.ofString " " ++ o.s1 ++ Str.ofString " " ++ g.txt ++ Str.ofString ")" := by
        rw [Fo.txt, ← sgn o, emp_add]
        simp only [add_as]
      rw [e] at q
      clear e
      cases o <;> (
        simp only [Fo.kind, B3.str] at ha
        row_room_at rd
        refine rd_new fun p H1 hp s1 e1 => ?_
        row_room_at rd
        refine ⟨p, _, rfl, .inr (SqT.of e1), rfl, rfl, ?_⟩
        row_room_at rd
        refine ite2 (fun n => absurd n (by decide +kernel)) (fun _ => ?_)
        row_room_at rd
        refine kid gk hx s1 fun H2 s2 => ?_
        have s12 := s2
        row_room_at rd
        refine ⟨_, _, _, rfl, rfl, D, ?_⟩
        row_room_at rd
        refine kid gk2 hy s2 fun H3 s3 => ?_
        row_room_at rd
        exact q H3 s3)
    | sum i b g y x hb =>
      obtain ⟨_, hg, hx⟩ := fk.get (i := 0) rfl
      injection hg with hg; subst hg
      have gk : g ∈ (Fo.sum i b g).kids := by simp [Fo.kids]
      have tl := txt_le (Fo.ok_kids ok g gk) (by have := Fo.kid_parts gk; omega)
      simp only [Fo.kind] at ha
      have ok' := ok
      simp only [Fo.Ok] at ok'
      obtain ⟨gi, lb, ob, _, _, _⟩ := ok'
      have gl := gi.2
      have bl := txt_le ob (by have := (lf_sz lb).1; omega)
      have dg := Fo.kid_depth gk
      have db := (lf_sz lb).2.1
      have d1 := Fo.depth_pos g
      row_room_at rd
      refine rd_new fun p H1 hp s1 e1 => ?_
      row_room_at rd
      refine ⟨p, _, rfl, .inr (SqT.of e1), rfl, rfl, ?_⟩
      row_room_at rd
      refine ite2 (fun n => absurd n (by decide +kernel)) (fun _ => ?_)
      row_room_at rd
      refine ⟨b, y, rfl, by omega, ob, by have := (lf_sz lb).1; omega, hb.same s1, fun H2 s2 => ?_⟩
      have s12 := s1.trans s2
      clear s2
      row_room_at rd
      refine kid gk hx s12 fun H3 s3 => ?_
      row_room_at rd
      have k := q H3 s3
      rw [Fo.txt] at k
      rw [emp_add]
      exact k
    | call z fs u _ e =>
      simp only [Fo.kind] at ha
      have ok' := ok
      simp only [Fo.Ok] at ok'
      obtain ⟨gz, n1, n4, of⟩ := ok'
      have gl := gz.2
      have tls := Fo.txts_len fs of
      rw [Fo.txts_map] at tls
      have pc := pts_call z fs
      have lx := fk.len
      have jl := join_len (fs.map Fo.txt)
      rw [List.length_map] at jl
      replace lx : xs.length = fs.length := lx
      row_room_at rd
      refine rd_new fun p H1 hp s1 e1 => ?_
      row_room_at rd
      refine ⟨p, _, rfl, .inr (SqT.of e1), rfl, rfl, ?_⟩
      row_room_at rd
      refine ite2 (fun n => absurd n (by decide +kernel)) (fun _ => ?_)
      row_room_at rd
      refine ⟨⟨_, rfl⟩, ?_⟩
      have eu := s1 _ _ e
      row_room_at rd
      refine fun D hD => ?_
      have up0 : ∀ {H' : Hp} {o : HO}, Same H1 H' → Same H1 (upd H' D o) := fun {H' o} s' b o' e => by rw [upd_ne (ne_of_none e hD)]; exact s' _ _ e
      refine loop_it (walk_tup (K := K) (a := u) (xs := xs.map V.ref)) (fun j H' => Same H1 H' ∧ H' D = some (.lst ((((fs.take j).map Fo.txt)).map V.str))) ⟨up0 (Same.refl _), upd_same⟩ (fun j H' _ ⟨s, _⟩ => SqT.of (s _ _ eu)) (fun j x H2 H3 hj ⟨s, eD⟩ ⟨hH, hx⟩ => ?_) (fun H2 ⟨s, eD⟩ => ?_)
      · subst hH
        obtain ⟨y, hy, rfl⟩ := map_at hx
        obtain ⟨g, hgi, hgt⟩ := fk.get hy
        have hgi : fs[j]? = some g := hgi
        have hg : g ∈ (Fo.call z fs).kids := List.mem_of_getElem? hgi
        row_room_at rd
        refine ⟨rfl, ?_⟩
        row_room_at rd
        refine ⟨g, y, rfl, by have := Fo.kid_depth hg; omega, Fo.ok_kids ok g hg, by have := Fo.kid_parts hg; omega, hgt.same (s1.trans s), fun H4 s4 => ⟨_, s4 _ _ eD, ?_, up0 (s.trans s4), ?_⟩⟩
        · rw [List.length_map, List.length_map, List.length_take]
          exact tlt (by omega)
        · rw [upd_same, take_at hgi, List.map_append, List.map_append]; rfl
      · rw [List.length_map, lx, List.take_length] at eD
        refine ⟨_, D, fs.map Fo.txt, rfl, rfl, .inl (SqL.of eD), ?_, ?_⟩
        · rw [List.length_map, l5]; omega
        row_room_at rd
        have k := q H2 (s1.trans s)
        rw [Fo.txt, Fo.txts_map] at k
        exact k
end

end
end KM
set_option Elab.async false
set_option linter.all false
set_option maxRecDepth 100000
set_option maxHeartbeats 8000000
namespace KM
open PySem PySem.Spec PyProof.Rows L2 He Sw L2H
section
variable {P : Program} {w : World} {K : PySem.W.Frag} {mg : Str → Option Value} {base : Heap}
local macro_rules | `(tactic| row_room_at ne) => `(tactic| with_reducible assumption)
local macro_rules | `(tactic| row_room_at hp) => `(tactic| (apply SameBut.use; with_reducible assumption; rotate_left; row_room_at hp; row_room_at ne))
local macro_rules | `(tactic| row_room_at hp) => `(tactic| (apply FoAt.same; rotate_left; with_reducible assumption; row_room_at hp))
local macro_rules | `(tactic| row_room_at hp) => `(tactic| (apply Sw.Same.use; with_reducible assumption; row_room_at hp))
local macro_rules | `(tactic| row_room_at hp) => `(tactic| (apply SqT.of; row_room_at hp))
local macro_rules | `(tactic| row_room_at hp) => `(tactic| (apply SqL.of; row_room_at hp))
local macro_rules | `(tactic| row_room_at hp) => `(tactic| with_reducible assumption)
local macro_rules | `(tactic| row_room_at ati) => `(tactic| first | with_reducible assumption | rfl | (apply atI_nat; rfl))
local macro_rules | `(tactic| row_room_at cc) => `(tactic| first | with_reducible assumption | omega | decide | (refine ⟨?_, ?_⟩ <;> first | decide | omega) | (refine ⟨?_, ?_, ?_⟩ <;> first | decide | omega) | (left; refine ⟨?_, ?_⟩ <;> first | decide | omega) | (right; refine ⟨?_, ?_⟩ <;> first | decide | omega))
local macro_rules | `(tactic| row_room_at rdts) => `(tactic| with_reducible apply rd_retN)
local macro_rules | `(tactic| row_room_at rdts) => `(tactic| with_reducible apply rd_cont)
local macro_rules | `(tactic| row_room_at rdts) => `(tactic| with_reducible apply rd_brk)
local macro_rules | `(tactic| row_room_at rdts) => `(tactic| with_reducible apply rd_dput)
local macro_rules | `(tactic| row_room_at rdts) => `(tactic| with_reducible apply rd_drop)
local macro_rules | `(tactic| row_room_at rdts) => `(tactic| with_reducible apply rd_for)
local macro_rules | `(tactic| row_room_at rdts) => `(tactic| with_reducible apply rd_ret)
local macro_rules | `(tactic| row_room_at rdts) => `(tactic| with_reducible apply rd_next)
local macro_rules | `(tactic| row_room_at rdts) => `(tactic| with_reducible apply rd_ifS)
local macro_rules | `(tactic| row_room_at rdts) => `(tactic| with_reducible apply rd_asg)
local macro_rules | `(tactic| row_room_at rdts) => `(tactic| with_reducible refine rd_seqN fun _ _ => ?_)
local macro_rules | `(tactic| row_room_at rdit) => `(tactic| with_reducible refine rd_iteNF (by with_unfolding_all decide +kernel) ?_)
local macro_rules | `(tactic| row_room_at rdit) => `(tactic| with_reducible refine rd_iteNT (by with_unfolding_all decide +kernel) ?_)
local macro_rules | `(tactic| row_room_at rdit) => `(tactic| with_reducible apply rd_iteN0)
local macro_rules | `(tactic| row_room_at rdit) => `(tactic| with_reducible apply rd_iteN1)
local macro_rules | `(tactic| row_room_at rdit) => `(tactic| with_reducible apply rd_ite1)
local macro_rules | `(tactic| row_room_at rdit) => `(tactic| with_reducible apply rd_ite0)
local macro_rules | `(tactic| row_room_at rdit) => `(tactic| with_reducible refine rd_iteT (by with_unfolding_all decide +kernel) ?_)
local macro_rules | `(tactic| row_room_at rdit) => `(tactic| with_reducible refine rd_iteF (by with_unfolding_all decide +kernel) ?_)
local macro_rules | `(tactic| row_room_at rdex) => `(tactic| with_reducible refine rd_szN (m := 900000) (by with_unfolding_all ((try simp only [PySem.Str.length_append]); omega)) (by with_unfolding_all decide) ?_)
local macro_rules | `(tactic| row_room_at rdex) => `(tactic| with_reducible apply rd_orI)
local macro_rules | `(tactic| row_room_at rdex) => `(tactic| with_reducible apply rd_orS)
local macro_rules | `(tactic| row_room_at rdex) => `(tactic| with_reducible apply rd_1S)
local macro_rules | `(tactic| row_room_at rdex) => `(tactic| with_reducible apply rd_2S)
local macro_rules | `(tactic| row_room_at rdex) => `(tactic| with_reducible refine rd_fld' (by with_unfolding_all row_room_at hp) (by with_unfolding_all assumption) (by with_unfolding_all assumption) (by with_unfolding_all rfl) ?_)
local macro_rules | `(tactic| row_room_at rdex) => `(tactic| with_reducible refine rd_ty (by with_unfolding_all row_room_at hp) ?_)
local macro_rules | `(tactic| row_room_at rdex) => `(tactic| with_reducible refine rd_itup' (by with_unfolding_all row_room_at hp) ?_)
local macro_rules | `(tactic| row_room_at rdex) => `(tactic| with_reducible refine rd_ilist' (by with_unfolding_all row_room_at hp) ?_)
local macro_rules | `(tactic| row_room_at rdex) => `(tactic| with_reducible apply rd_1B)
local macro_rules | `(tactic| row_room_at rdex) => `(tactic| with_reducible refine rd_dgetS (by with_unfolding_all row_room_at hp) (by with_unfolding_all assumption) ?_)
local macro_rules | `(tactic| row_room_at rdex) => `(tactic| with_reducible refine rd_dget' (by with_unfolding_all row_room_at hp) (by with_unfolding_all rfl) (by with_unfolding_all assumption) ?_)
local macro_rules | `(tactic| row_room_at rdex) => `(tactic| with_reducible refine rd_len (by with_unfolding_all first | exact .inl (by row_room_at hp) | exact .inr (by row_room_at hp)) ?_)
local macro_rules | `(tactic| row_room_at rdex) => `(tactic| with_reducible refine rd_lenQ (by with_unfolding_all first | exact .inl (by row_room_at hp) | exact .inr (by row_room_at hp)) ?_)
local macro_rules | `(tactic| row_room_at rdex) => `(tactic| with_reducible apply rd_2I)
local macro_rules | `(tactic| row_room_at rdex) => `(tactic| with_reducible refine rd_b62 (by with_unfolding_all first | decide | (constructor <;> omega)) ?_)
local macro_rules | `(tactic| row_room_at rdex) => `(tactic| with_reducible apply rd_1I)
local macro_rules | `(tactic| row_room_at rdex) => `(tactic| with_reducible apply rd_int1)
local macro_rules | `(tactic| row_room_at rdex) => `(tactic| with_reducible apply rd_iv)
local macro_rules | `(tactic| row_room_at rdex) => `(tactic| with_reducible refine rd_sz (by with_unfolding_all first | decide | (simp only [List.length_append, List.length_map, List.length_cons, List.length_nil, List.length_take]; omega)) ?_)
local macro_rules | `(tactic| row_room_at rdex) => `(tactic| with_reducible apply rd_bl)
local macro_rules | `(tactic| row_room_at rdhd) => `(tactic| with_reducible apply rd_fmtS)
local macro_rules | `(tactic| row_room_at rdhd) => `(tactic| with_reducible apply rd_js0)
local macro_rules | `(tactic| row_room_at rdhd) => `(tactic| with_reducible apply rd_js)
local macro_rules | `(tactic| row_room_at rdhd) => `(tactic| with_reducible apply rd_m1)
local macro_rules | `(tactic| row_room_at rdhd) => `(tactic| with_reducible apply rd_fld)
local macro_rules | `(tactic| row_room_at rdhd) => `(tactic| with_reducible refine rd_append (by with_unfolding_all row_room_at hp) (by with_unfolding_all first | decide | (simp only [List.length_append, List.length_map, List.length_cons, List.length_nil]; omega)) ?_)
local macro_rules | `(tactic| row_room_at rdhd) => `(tactic| with_reducible apply rd_bm)
local macro_rules | `(tactic| row_room_at rdhd) => `(tactic| with_reducible apply rd_yes)
local macro_rules | `(tactic| row_room_at rdhd) => `(tactic| with_reducible apply rd_lc)
local macro_rules | `(tactic| row_room_at rdhd) => `(tactic| with_reducible apply rd_itup)
local macro_rules | `(tactic| row_room_at rdhd) => `(tactic| with_reducible apply rd_ilist)
local macro_rules | `(tactic| row_room_at rdhd) => `(tactic| with_reducible refine rd_dictK (by with_unfolding_all row_room_at hp) ?_)
local macro_rules | `(tactic| row_room_at rdhd) => `(tactic| with_reducible refine rd_lenK (by with_unfolding_all first | exact .inl (by row_room_at hp) | exact .inr (by row_room_at hp)) ?_)
local macro_rules | `(tactic| row_room_at rdhd) => `(tactic| with_reducible apply rd_methI)
local macro_rules | `(tactic| row_room_at rdhd) => `(tactic| with_reducible apply rd_dget)
local macro_rules | `(tactic| row_room_at rdhd) => `(tactic| with_reducible apply rd_if)
local macro_rules | `(tactic| row_room_at rdhd) => `(tactic| with_reducible apply rd_notV)
local macro_rules | `(tactic| row_room_at rdhd) => `(tactic| with_reducible apply rd_orV)
local macro_rules | `(tactic| row_room_at rdhd) => `(tactic| with_reducible apply rd_andV)
local macro_rules | `(tactic| row_room_at rdhd) => `(tactic| with_reducible apply rd_U)
local macro_rules | `(tactic| row_room_at rdhd) => `(tactic| with_reducible apply rd_un)
local macro_rules | `(tactic| row_room_at rdhd) => `(tactic| with_reducible refine rd_cat (by with_unfolding_all row_room_at hp) (by with_unfolding_all row_room_at hp) (by with_unfolding_all first | decide | (simp only [List.length_append, List.length_map, List.length_cons, List.length_nil, List.length_take]; omega)) ?_)
local macro_rules | `(tactic| row_room_at rdhd) => `(tactic| with_reducible refine rd_slL (by with_unfolding_all row_room_at hp) ?_)
local macro_rules | `(tactic| row_room_at rdhd) => `(tactic| with_reducible apply rd_nopart)
local macro_rules | `(tactic| row_room_at rdhd) => `(tactic| with_reducible apply rd_make)
local macro_rules | `(tactic| row_room_at rdhd) => `(tactic| with_reducible apply rd_kt)
local macro_rules | `(tactic| row_room_at rdhd) => `(tactic| with_reducible apply rd_rng1)
local macro_rules | `(tactic| row_room_at rdhd) => `(tactic| with_reducible refine rd_ne (by with_unfolding_all rfl) ?_)
local macro_rules | `(tactic| row_room_at rdhd) => `(tactic| with_reducible apply rd_and)
local macro_rules | `(tactic| row_room_at rdhd) => `(tactic| with_reducible apply rd_B)
local macro_rules | `(tactic| row_room_at rdhd) => `(tactic| with_reducible apply rd_not)
local macro_rules | `(tactic| row_room_at rdhd) => `(tactic| with_reducible refine rd_ixL (by with_unfolding_all row_room_at hp) (by with_unfolding_all row_room_at ati) ?_)
local macro_rules | `(tactic| row_room_at rdhd) => `(tactic| with_reducible apply rd_sl)
local macro_rules | `(tactic| row_room_at rdhd) => `(tactic| with_reducible refine rd_I (by with_unfolding_all row_room_at cc) ?_)
local macro_rules | `(tactic| row_room_at rdhd) => `(tactic| with_reducible apply rd_or)
local macro_rules | `(tactic| row_room_at rdhd) => `(tactic| with_reducible apply rd_lst)
local macro_rules | `(tactic| row_room_at rdhd) => `(tactic| with_reducible apply rd_part)
local macro_rules | `(tactic| row_room_at rdhd) => `(tactic| with_reducible apply rd_tup)
local macro_rules | `(tactic| row_room_at rdhd) => `(tactic| with_reducible apply rd_I0)
local macro_rules | `(tactic| row_room_at rdhd) => `(tactic| with_reducible apply rd_CB)
local macro_rules | `(tactic| row_room_at rdhd) => `(tactic| with_reducible refine rd_ixT (by with_unfolding_all row_room_at hp) (by with_unfolding_all row_room_at ati) ?_)
local macro_rules | `(tactic| row_room_at rdhd) => `(tactic| with_reducible refine rd_eq (by with_unfolding_all rfl) ?_)
local macro_rules | `(tactic| row_room_at rdhd) => `(tactic| with_reducible apply rd_call)
local macro_rules | `(tactic| row_room_at rdhd) => `(tactic| with_reducible apply rd_gName)
local macro_rules | `(tactic| row_room_at rdhd) => `(tactic| with_reducible apply rd_test)
local macro_rules | `(tactic| row_room_at rdhd) => `(tactic| with_reducible apply rd_cons)
local macro_rules | `(tactic| row_room_at rdhd) => `(tactic| with_reducible apply rd_consC)
local macro_rules | `(tactic| row_room_at rdhd) => `(tactic| with_reducible refine rd_consV (by with_unfolding_all rfl) ?_)
local macro_rules | `(tactic| row_room_at rdhd) => `(tactic| with_reducible apply rd_nil)
local macro_rules | `(tactic| row_room_at rdhd) => `(tactic| with_reducible apply rd_c)
local macro_rules | `(tactic| row_room_at rdhd) => `(tactic| with_reducible refine rd_var (by with_unfolding_all rfl) ?_)
local macro_rules | `(tactic| row_room_at rdhd) => `(tactic| with_reducible apply rd_op)
local macro_rules | `(tactic| row_room_at rdsz) => `(tactic| with_reducible refine rd_szN (m := 900000) (by with_unfolding_all ((try simp only [PySem.Str.length_append]); omega)) (by with_unfolding_all decide) ?_)
local macro_rules | `(tactic| row_room_at rdsz) => `(tactic| with_reducible refine rd_sz (by with_unfolding_all first | decide | (simp only [List.length_append, List.length_map, List.length_cons, List.length_nil, List.length_take]; omega)) ?_)
local macro_rules | `(tactic| row_room_at rd1) => `(tactic| with_reducible refine rd_unN (by with_reducible assumption) ?_)
local macro_rules | `(tactic| row_room_at rd1) => `(tactic| ((fail_if_success with_reducible apply g_sp); (fail_if_success with_reducible apply g_ite); row_room_at rdex))
local macro_rules | `(tactic| row_room_at rd1) => `(tactic| ((fail_if_success with_reducible apply g_sp); (fail_if_success with_reducible intro _); row_room_at rdhd))
local macro_rules | `(tactic| row_room_at rd1) => `(tactic| row_room_at rdsz)
local macro_rules | `(tactic| row_room_at rd1) => `(tactic| ((with_reducible apply g_ex); row_room_at rdex))
local macro_rules | `(tactic| row_room_at rd1) => `(tactic| ((with_reducible apply g_ite); row_room_at rdit))
local macro_rules | `(tactic| row_room_at rd1) => `(tactic| ((with_reducible apply g_ts); row_room_at rdts))
local macro_rules | `(tactic| row_room_at rd) => `(tactic| repeat row_room_at rd1)
/-! ### _law_text -/
def spText (n : Nat) : Sp := fun vs H Q _ => ∃ (f : Fo) (t : Addr) (H0 : Hp), vs = [.ref t] ∧ f.depth ≤ n ∧ f.Pre ∧ f.parts ≤ 1100 ∧ TrW H0 H f t ∧ ∀ H', Same H H' → Q (.str f.txt) H'
theorem sc__law_text : FnScope ["_law_tree_here", "_law_kind", "_law_signs", "_law_thing"] ["_law_tree_here"] (defScope s__law_text) := ⟨rfl, rfl, rfl, by decide +kernel, rfl, by decide +kernel, by decide +kernel⟩
theorem ok__law_text (T : Txt K mg) : ∀ n, Cal P w K mg base CX0 (n + 2) (ga K "_law_text") ["_law_tree_here"] (spText n)
  | 0 => by
    obtain ⟨fd, F⟩ := T.f__law_text
    refine ⟨fd, ⟨fun vs H Q E h => ?_, fun A outer s H args us vs Q E _ _ _ _ h => ?_⟩, F.kp, F.bindsN fun _ _ _ _ _ _ us hl => match us, hl with | [_], _ => rfl⟩
    · obtain ⟨_, _, _, rfl, _⟩ := h
      rfl
    · obtain ⟨_, _, _, _, h, _⟩ := h
      exact absurd h (Nat.not_le_of_lt (Fo.depth_pos _))
  | n + 1 => by
    have GX := ok__law_text T n
    obtain ⟨fd, F⟩ := T.f__law_text
    refine ⟨fd, ?_, F.kp, F.bindsN fun _ _ _ _ _ _ us hl => match us, hl with | [_], _ => rfl⟩
    refine F.ok sc__law_text (fun vs H Q E h => ?_) (fun cdv A outer s H vs Q E hr h => ?_)
    · obtain ⟨_, _, _, rfl, _⟩ := h
      rfl
    have nod := sc__law_text.nd
    have hu := hu_of hr
    refine ⟨_, PSs.nox (pss_cons (ps_set (i := 1) nod rfl (Or.inl rfl) (pe_ix ix_tup (pv 0) pe_int (fun _ _ => rfl)))
    (pss_cons (ps_if (pt_cmpR op_eq (pv 1) pe_str (nomark _))
      (pss_one (ps_ret (pe_alt (pe_callTy call_str_int rfl (T.f "str") (by decide +kernel) (pa_cons (pe_ix ix_tup (pv 0) pe_int (fun _ _ => rfl)) pa_nil)) (pe_callTy (SkE.call_str_str) rfl (T.f "str") (by decide +kernel) (pa_cons (pe_ix ix_tup (pv 0) pe_int (fun _ _ => rfl)) pa_nil)))))
      pss_nil)
    (pss_cons (ps_if (pt_cmpR op_eq (pv 1) pe_str (nomark _))
      (pss_one (ps_ret (pe_ix ix_tup (pv 0) pe_int (fun _ _ => rfl))))
      pss_nil)
    (pss_cons (ps_if (pt_cmpR op_eq (pv 1) pe_str (nomark _))
      (pss_one (ps_ret (pe_op op_add_str (pe_op op_add_str pe_str (pe_callC GX (hr.mono (by omega)) rfl (T.g "_law_text") pass0 (pa_cons (pe_ix ix_tup (pv 0) pe_int (fun _ _ => rfl)) pa_nil))) pe_str)))
      pss_nil)
    (pss_cons (ps_if (pt_cmpR op_eq (pv 1) pe_str (nomark _))
      (pss_one (ps_ret (pe_op op_add_str (pe_op op_add_str (pe_op op_add_str (pe_op op_add_str pe_str (pe_callC GX (hr.mono (by omega)) rfl (T.g "_law_text") pass0 (pa_cons (pe_ix ix_tup (pv 0) pe_int (fun _ _ => rfl)) pa_nil))) pe_str) (pe_alt (pe_callTy call_str_int rfl (T.f "str") (by decide +kernel) (pa_cons (pe_ix ix_tup (pv 0) pe_int (fun _ _ => rfl)) pa_nil)) (pe_callTy (SkE.call_str_str) rfl (T.f "str") (by decide +kernel) (pa_cons (pe_ix ix_tup (pv 0) pe_int (fun _ _ => rfl)) pa_nil)))) pe_str)))
      pss_nil)
    (pss_cons (ps_if (pt_cmpR op_eq (pv 1) pe_str (nomark _))
      (pss_one (ps_ret (pe_op op_add_str (pe_op op_add_str (pe_op op_add_str (pe_op op_add_str (pe_op op_add_str (pe_op op_add_str pe_str (pe_ix ix_tup (pv 0) pe_int (fun _ _ => rfl))) pe_str) (pe_callC GX (hr.mono (by omega)) rfl (T.g "_law_text") pass0 (pa_cons (pe_ix ix_tup (pv 0) pe_int (fun _ _ => rfl)) pa_nil))) pe_str) (pe_callC GX (hr.mono (by omega)) rfl (T.g "_law_text") pass0 (pa_cons (pe_ix ix_tup (pv 0) pe_int (fun _ _ => rfl)) pa_nil))) pe_str)))
      pss_nil)
    (pss_cons (ps_if (pt_cmpR op_eq (pv 1) pe_str (nomark _))
      (pss_one (ps_ret (pe_op op_add_str (pe_op op_add_str (pe_op op_add_str (pe_ix ix_tup (pv 0) pe_int (fun _ _ => rfl)) pe_str) (pe_join pe_str (pe_lc (own := [("_law_thing", 3)]) (te := (tCall (spText n) [] E0 (tCons (tVar 3) tNil))) (g := (gName 3)) (tt := tYes) rfl nod (pi_list (pe_ix ix_tup (pv 0) pe_int (fun _ _ => rfl))) (blkOk_by (N := ["_law_tree_here", "_law_kind", "_law_signs", "_law_thing"]) (sc := defScope s__law_text) (by decide +kernel)) (fun _ _ _ _ _ => (pg_name (i := 3) nod rfl (Or.inl rfl))) (fun _ _ _ _ _ => pts_nil) (fun _ _ _ _ _ => (pe_callC GX (hr.mono (by omega)) rfl (T.g "_law_text") pass0 (pa_cons (pv 3) pa_nil)))))) pe_str)))
      pss_nil)
    (pss_cons (ps_set (i := 2) nod rfl (Or.inl rfl) (pe_disp (pps_cons pe_str pe_str (pps_cons pe_str pe_str (pps_cons pe_str pe_str pps_nil))) (by rfl) (by rfl) (fun z => by cases z) (by decide)))
    (pss_one (ps_ret (pe_op op_add_str (pe_op op_add_str (pe_op op_add_str (pe_op op_add_str pe_str (pe_callC GX (hr.mono (by omega)) rfl (T.g "_law_text") pass0 (pa_cons (pe_ix ix_tup (pv 0) pe_int (fun _ _ => rfl)) pa_nil))) (pe_dget hu (pv 2) (pv 1) (fun _ _ => rfl))) (pe_callC GX (hr.mono (by omega)) rfl (T.g "_law_text") pass0 (pa_cons (pe_ix ix_tup (pv 0) pe_int (fun _ _ => rfl)) pa_nil))) pe_str))))))))))), ?_⟩
    obtain ⟨f, t, H0, rfl, hn, ok, fp, ht, q⟩ := h
    obtain ⟨l1, l2, l3, l4, l5, l6, l7, l8, l9⟩ := lens
    have kid : ∀ {g : Fo} {x : Addr} {H' : Hp} {Q' : VK} {E' : XK}, g ∈ f.kids → TrW H0 H g x → Same H H' → (∀ H2, Same H H2 → Q' (.str g.txt) H2) → spText n [.ref x] H' Q' E' := fun {g x H' Q' E'} hg hx s k => ⟨g, x, H0, rfl, by have := Fo.kid_depth hg; omega, Fo.pre_kids ok g hg, by have := Fo.kid_parts hg; omega, TrW.same s hx, fun H2 s2 => k H2 (s.trans s2)⟩
    cases f with
    | num n =>
      have il := int_len ok.1 ok.2
      have ig := int_log ok.1 ok.2
      simp only [TrW] at ht
      row_room_at rd
      refine .inl ?_
      row_room_at rd
      exact ⟨ig, q H (Same.refl _)⟩
    | nam z =>
      simp only [TrW] at ht
      row_room_at rd
      exact q H (Same.refl _)
    | neg g =>
      simp only [TrW] at ht
      obtain ⟨x, e, hx⟩ := ht
      have gk : g ∈ (Fo.neg g).kids := by simp [Fo.kids]
      have tl := txt_leP (Fo.pre_kids ok g gk) (by have := Fo.kid_parts gk; omega)
      row_room_at rd
      refine kid gk hx (Same.refl _) fun H2 s2 => ?_
      row_room_at rd
      exact q H2 s2
    | shl g n =>
      simp only [TrW] at ht
      obtain ⟨x, e, hx⟩ := ht
      have gk : g ∈ (Fo.shl g n).kids := by simp [Fo.kids]
      have tl := txt_leP (Fo.pre_kids ok g gk) (by have := Fo.kid_parts gk; omega)
      simp only [Fo.Pre] at ok
      have il := int_len ok.1 (Int.lt_of_le_of_lt ok.2.1 (by decide))
      have ig := int_log ok.1 (Int.lt_of_le_of_lt ok.2.1 (by decide))
      row_room_at rd
      refine kid gk hx (Same.refl _) fun H2 s2 => ?_
      row_room_at rd
      refine .inl ?_
      row_room_at rd
      refine ⟨ig, ?_⟩
      row_room_at rd
      exact q H2 s2
    | sum i b g =>
      simp only [TrW] at ht
      obtain ⟨y, x, e, hb, hx⟩ := ht
      have gk : g ∈ (Fo.sum i b g).kids := by simp [Fo.kids]
      have tl := txt_leP (Fo.pre_kids ok g gk) (by have := Fo.kid_parts gk; omega)
      have ok' := ok
      simp only [Fo.Pre] at ok'
      obtain ⟨gi, lb, ob, _⟩ := ok'
      have gl := gi.2
      have bl := txt_leP ob.pre (by have := (lf_sz lb).1; omega)
      have dg := Fo.kid_depth gk
      have db := (lf_sz lb).2.1
      have d1 := Fo.depth_pos g
      row_room_at rd
      refine ⟨b, y, H0, rfl, by omega, ob.pre, by have := (lf_sz lb).1; omega, hb, fun H2 s2 => ?_⟩
      row_room_at rd
      refine kid gk hx s2 fun H3 s3 => ?_
      row_room_at rd
      exact q H3 s3
    | call z fs =>
      simp only [TrW] at ht
      obtain ⟨u, xs, e, eu, _, hx⟩ := ht
      have ok' := ok
      simp only [Fo.Pre] at ok'
      obtain ⟨gz, n1, n4, of⟩ := ok'
      have gl := gz.2
      have tls := Fo.txts_lenP fs of
      rw [Fo.txts_map] at tls
      have pc := pts_call z fs
      have lx := hx.len
      have jl := join_len (fs.map Fo.txt)
      rw [List.length_map] at jl
      row_room_at rd
      refine ⟨⟨_, rfl⟩, ?_⟩
      row_room_at rd
      refine fun D hD => ?_
      have up0 : ∀ {H' : Hp} {o : HO}, Same H H' → Same H (upd H' D o) := fun {H' o} s' b o' e => by rw [upd_ne (ne_of_none e hD)]; exact s' _ _ e
      refine loop_it (walk_list (K := K) (a := u) (xs := xs.map V.ref)) (fun j H' => Same H H' ∧ H' D = some (.lst ((((fs.take j).map Fo.txt)).map V.str))) ⟨up0 (Same.refl _), upd_same⟩ (fun j H' _ ⟨s, _⟩ => SqL.of (s _ _ eu)) (fun j x H2 H3 hj ⟨s, eD⟩ ⟨hH, hx'⟩ => ?_) (fun H2 ⟨s, eD⟩ => ?_)
      · subst hH
        obtain ⟨y, hy, rfl⟩ := map_at hx'
        obtain ⟨g, hgi, hgt⟩ := hx.get hy
        have hg : g ∈ (Fo.call z fs).kids := List.mem_of_getElem? hgi
        row_room_at rd
        refine ⟨rfl, ?_⟩
        row_room_at rd
        refine ⟨g, y, H0, rfl, by have := Fo.kid_depth hg; omega, Fo.pre_kids ok g hg, by have := Fo.kid_parts hg; omega, TrW.same s hgt, fun H4 s4 => ⟨_, s4 _ _ eD, ?_, up0 (s.trans s4), ?_⟩⟩
        · rw [List.length_map, List.length_map, List.length_take]
          exact tlt (by omega)
        · rw [upd_same, take_at hgi, List.map_append, List.map_append]; rfl
      · rw [List.length_map, lx, List.take_length] at eD
        refine ⟨_, D, fs.map Fo.txt, rfl, rfl, .inl (SqL.of eD), ?_, ?_⟩
        · rw [List.length_map, l5]; omega
        row_room_at rd
        have k := q H2 s
        rw [Fo.txt, Fo.txts_map] at k
        exact k
    | bin o f g =>
      simp only [TrW] at ht
      obtain ⟨x, y, e, hx, hy⟩ := ht
      have gk : f ∈ (Fo.bin o f g).kids := by simp [Fo.kids]
      have gk2 : g ∈ (Fo.bin o f g).kids := by simp [Fo.kids]
      have tl := txt_leP (Fo.pre_kids ok f gk) (by have := Fo.kid_parts gk; omega)
      have tl2 := txt_leP (Fo.pre_kids ok g gk2) (by have := Fo.kid_parts gk2; omega)
      have sg1 := o.sg_len
      have vo : valV (mergeK [] [((.inr "plus" : Key), V.str " + "), (.inr "minus", .str " - "), (.inr "times", .str " * ")]) (.inr o.str) = some (.str o.sg) := by cases o <;> rfl
      cases o <;> (
        simp only [B3.str] at e vo
        row_room_at rd
        refine rd_disp fun p H1 hp s1 e1 => ?_
        refine ⟨e1, [(.inr "plus", .str " + "), (.inr "minus", .str " - "), (.inr "times", .str " * ")], rfl, by decide, ?_⟩
        have e2 : (upd H1 p (.dK (mergeK [] [((.inr "plus" : Key), V.str " + "), (.inr "minus", .str " - "), (.inr "times", .str " * ")]))) p = some (.dK (mergeK [] [((.inr "plus" : Key), V.str " + "), (.inr "minus", .str " - "), (.inr "times", .str " * ")])) := upd_same
        have s2 : Same H (upd H1 p (.dK (mergeK [] [((.inr "plus" : Key), V.str " + "), (.inr "minus", .str " - "), (.inr "times", .str " * ")]))) := fun b o h => by rw [upd_ne (ne_of_none h hp)]; exact s1 _ _ h
        generalize mergeK [] [((.inr "plus" : Key), V.str " + "), (.inr "minus", .str " - "), (.inr "times", .str " * ")] = kvs at e2 s2 vo ⊢
        generalize upd H1 p (.dK kvs) = H2 at e2 s2 ⊢
        clear e1 s1
        row_room_at rd
        refine ⟨f, x, H0, rfl, by have := Fo.kid_depth gk; omega, Fo.pre_kids ok f gk, by have := Fo.kid_parts gk; omega, TrW.same s2 hx, fun H3 s23 => ?_⟩
        have e3 := s23 _ _ e2
        have s3 := s2.trans s23
        clear s23
        row_room_at rd
        refine ⟨p, _, rfl, .inl ⟨_, .inr _, .inl e3, rfl, vo.symm⟩, ?_⟩
        row_room_at rd
        refine kid gk2 hy s3 fun H4 s4 => ?_
        row_room_at rd
        exact q H4 s4)

end
end KM
set_option Elab.async false
set_option linter.all false
set_option maxRecDepth 100000
set_option maxHeartbeats 8000000
namespace KM
open PySem PySem.Spec PyProof.Rows L2 He Sw L2H
section
variable {P : Program} {w : World} {K : PySem.W.Frag} {mg : Str → Option Value} {base : Heap}
/-! ### the reader of texts, without a heap: L the signs of the text -/
/-- the place behind these signs, or the first place where they do not stand -/
def sgAt (L : List Nat) : Nat → List Nat → Except Nat Nat
  | p, [] => .ok p
  | p, s :: S => if L[p]? = some s then sgAt L (p + 1) S else .error p
/-- the end of at most k signs of which P holds -/
def runE (P : Nat → Bool) (L : List Nat) : Nat → Nat → Nat
  | 0, p => p
  | k + 1, p => match L[p]? with
    | some c => if P c = true then runE P L k (p + 1) else p
    | none => p
def isL (c : Nat) : Bool := decide (97 ≤ c) && decide (c < 123)
def isD (c : Nat) : Bool := decide (48 ≤ c) && decide (c < 58)
def subL (L : List Nat) (a b : Nat) : List Nat := (L.drop a).take (b - a)
def letE (L : List Nat) (p : Nat) : Nat := runE isL L 8 p
def pName (L : List Nat) (p : Nat) : Except Nat (Str × Nat) := if isNmS (mk (subL L p (letE L p))) = true then .ok (mk (subL L p (letE L p)), letE L p) else .error (letE L p)
def numE (L : List Nat) (p : Nat) : Nat := if L[p]? = some 48 then p + 1 else runE isD L 29 (p + 1)
def pNum (L : List Nat) (p : Nat) : Int × Nat := ((NumText.digitsVal (subL L p (numE L p)) : Nat), numE L p)
def pLeaf (L : List Nat) (p : Nat) : Except Nat (Fo × Nat) :=
  if (L[p]?.map isD).getD false = true then .ok (.num (pNum L p).1, (pNum L p).2)
  else match pName L p with
    | .ok (z, e) => .ok (.nam z, e)
    | .error e => .error e
def shE (L : List Nat) (p : Nat) : Nat → Nat → Nat
  | 0, e => e
  | k + 1, e => if e < L.length ∧ subL L p (e + 1) ∈ (List.range 65).map TL.numL then shE L p k (e + 1) else e
def pShift (L : List Nat) (p : Nat) : Except Nat (Int × Nat) := if shE L p 3 p = p then .error p else .ok ((NumText.digitsVal (subL L p (shE L p 3 p)) : Nat), shE L p 3 p)
def b3Of : Nat → Option B3
  | 43 => some .plus
  | 45 => some .minus
  | 42 => some .times
  | _ => none
mutual
/-- a formula at p, its depth n at most -/
def pTree (L : List Nat) : Nat → Nat → Except Nat (Fo × Nat)
  | 0, _ => .error (L.length + 1)
  | n + 1, p =>
    if L[p]? = some 40 then
      if L[p + 1]? = some 45 then do
        let a ← sgAt L (p + 1) [45, 32]
        let (f, e) ← pTree L n a
        let e ← sgAt L e [41]
        .ok (.neg f, e)
      else do
        let (f, e) ← pTree L n (p + 1)
        let e ← sgAt L e [32]
        if L[e]? = some 60 then do
          let a ← sgAt L e [60, 60, 32]
          let (k, e) ← pShift L a
          let e ← sgAt L e [41]
          .ok (.shl f k, e)
        else match (L[e]?.bind b3Of) with
          | none => .error e
          | some o => do
            let a ← sgAt L (e + 1) [32]
            let (g, e) ← pTree L n a
            let e ← sgAt L e [41]
            .ok (.bin o f g, e)
    else if (L[p]?.map isD).getD false = true then .ok (.num (pNum L p).1, (pNum L p).2)
    else if L[letE L p]? = some 40 ∧ mk (subL L p (letE L p)) = "sum" then do
      let (i, e) ← pName L (letE L p + 1)
      let a ← sgAt L e [44, 32]
      let (b, e) ← pLeaf L a
      let a ← sgAt L e [44, 32]
      let (f, e) ← pTree L n a
      let e ← sgAt L e [41]
      .ok (.sum i b f, e)
    else if L[letE L p]? = some 40 ∧ isNmS (mk (subL L p (letE L p))) = true then do
      let (f, e) ← pTree L n (letE L p + 1)
      let (fs, e) ← pMore L n 3 e
      let e ← sgAt L e [41]
      .ok (.call (mk (subL L p (letE L p))) (f :: fs), e)
    else match pName L p with
      | .ok (z, e) => .ok (.nam z, e)
      | .error e => .error e
/-- the further things of a call, k at most -/
def pMore (L : List Nat) : Nat → Nat → Nat → Except Nat (List Fo × Nat)
  | _, 0, p => .ok ([], p)
  | n, k + 1, p =>
    if L[p]? = some 44 then do
      let a ← sgAt L p [44, 32]
      let (f, e) ← pTree L n a
      let (fs, e) ← pMore L n k e
      .ok (f :: fs, e)
    else .ok ([], p)
end
/-- what may stand behind a formula -/
def Stop (R : List Nat) : Prop := ∀ c, R.head? = some c → c = 41 ∨ c = 32 ∨ c = 44
theorem at_app (A R : List Nat) (i : Nat) : (A ++ R)[A.length + i]? = R[i]? := by
  rw [List.getElem?_append_right (by omega)]
  congr 1
  omega
theorem sgAt_ok (A : List Nat) : ∀ (S R : List Nat), sgAt (A ++ (S ++ R)) A.length S = .ok (A.length + S.length) := by
  intro S
  induction S generalizing A with
  | nil => intro R; rfl
  | cons s S ih =>
    intro R
    have h := ih (A ++ [s]) R
    have e : A ++ [s] ++ (S ++ R) = A ++ (s :: S ++ R) := by simp
    rw [e, List.length_append] at h
    show (if (A ++ (s :: S ++ R))[A.length]? = some s then _ else _) = _
    rw [if_pos (by have := at_app A (s :: S ++ R) 0; simpa using this)]
    rw [show A.length + [s].length = A.length + 1 from rfl] at h
    rw [h]
    simp
    omega
theorem runE_app {P : Nat → Bool} (A : List Nat) : ∀ (W R : List Nat) (k : Nat), (∀ c ∈ W, P c = true) → W.length ≤ k → (W.length = k ∨ ∀ c, R.head? = some c → P c = false) → runE P (A ++ (W ++ R)) k A.length = A.length + W.length := by
  intro W
  induction W generalizing A with
  | nil =>
    intro R k _ _ h
    cases k with
    | zero => rfl
    | succ k =>
      unfold runE
      have e := at_app A ([] ++ R) 0
      rw [Nat.add_zero] at e
      rw [e]
      cases R with
      | nil => rfl
      | cons c R =>
        have hc : P c = false := by
          rcases h with h | h
          · cases h
          · exact h c rfl
        show (if P c = true then _ else _) = _
        rw [if_neg (by rw [hc]; decide)]
        rfl
  | cons c W ih =>
    intro R k hP hk h
    cases k with
    | zero => exact absurd hk (by simp)
    | succ k =>
      have h2 := ih (A ++ [c]) R k (fun x hx => hP x (List.mem_cons_of_mem _ hx)) (by simpa using hk) (by rcases h with h | h; exact .inl (by simpa using h); exact .inr h)
      have e : A ++ [c] ++ (W ++ R) = A ++ (c :: W ++ R) := by simp
      rw [e, List.length_append] at h2
      unfold runE
      have e0 := at_app A (c :: W ++ R) 0
      rw [Nat.add_zero] at e0
      rw [e0]
      show (if P c = true then runE P (A ++ (c :: W ++ R)) k (A.length + 1) else _) = _
      rw [if_pos (hP c List.mem_cons_self)]
      rw [show A.length + [c].length = A.length + 1 from rfl] at h2
      rw [h2, List.length_cons]
      omega
theorem subL_app (A W R : List Nat) : subL (A ++ (W ++ R)) A.length (A.length + W.length) = W := by
  unfold subL
  simp

end
end KM
set_option Elab.async false
set_option linter.all false
set_option maxRecDepth 100000
set_option maxHeartbeats 8000000
namespace KM
open PySem PySem.Spec PyProof.Rows L2 He Sw L2H
section
variable {P : Program} {w : World} {K : PySem.W.Frag} {mg : Str → Option Value} {base : Heap}
/-! ### what is written is read as it was -/
theorem low_of {z : Str} (h : isNmS z = true) : low z = true ∧ 1 ≤ z.length ∧ z.length ≤ 8 := by
  unfold isNmS at h
  simp only [Bool.and_eq_true, decide_eq_true_eq] at h
  exact ⟨h.2.2.2, by omega, by omega⟩
theorem LET_low : ∀ c ∈ LET.cps.toList, isL c = true := by decide +kernel
theorem low_isL {z : Str} (h : low z = true) : ∀ c ∈ TL.tl z, isL c = true := by
  intro c hc
  unfold low at h
  have h2 := List.all_eq_true.mp h c hc
  exact LET_low c (of_decide_eq_true h2)
theorem isL_not {c : Nat} (h : isL c = true) : c ≠ 40 ∧ c ≠ 45 ∧ c ≠ 41 ∧ c ≠ 32 ∧ c ≠ 44 ∧ isD c = false := by
  unfold isL at h
  simp only [Bool.and_eq_true, decide_eq_true_eq] at h
  refine ⟨by omega, by omega, by omega, by omega, by omega, ?_⟩
  unfold isD
  rw [decide_eq_false (by omega : ¬ c < 58), Bool.and_false]
theorem isD_not {c : Nat} (h : isD c = true) : c ≠ 40 ∧ c ≠ 45 := by
  unfold isD at h
  simp only [Bool.and_eq_true, decide_eq_true_eq] at h
  exact ⟨by omega, by omega⟩
theorem stop_not {R : List Nat} (s : Stop R) : ∀ c, R.head? = some c → isL c = false ∧ isD c = false ∧ c ≠ 40 := fun c h => by
  rcases s c h with rfl | rfl | rfl <;> exact ⟨by decide, by decide, by decide⟩
theorem numL_isD (n : Nat) : ∀ c ∈ TL.numL n, isD c = true := fun c hc => by
  have h := TL.numL_digits n c hc
  unfold isD
  rw [decide_eq_true h.1, decide_eq_true (by have := h.2; omega : c < 58)]
  rfl
theorem numL_head : ∀ (n : Nat), n ≠ 0 → ∀ c, (TL.numL n).head? = some c → c ≠ 48 := by
  intro n
  induction n using Nat.strongRecOn with
  | _ n ih =>
    intro h0 c hc
    by_cases h : n < 10
    · rw [TL.numL_lt h] at hc
      injection hc with hc
      omega
    · rw [TL.numL_step (by omega)] at hc
      cases e : TL.numL (n / 10) with
      | nil => exact absurd e (TL.numL_ne _)
      | cons d r =>
        rw [e] at hc
        injection hc with hc
        subst hc
        exact ih (n / 10) (by omega) (by omega) d (by rw [e]; rfl)
theorem at_head (A W R : List Nat) (c : Nat) (h : W.head? = some c) : (A ++ (W ++ R))[A.length]? = some c := by
  have e := at_app A (W ++ R) 0
  rw [Nat.add_zero] at e
  rw [e]
  cases W with
  | nil => cases h
  | cons d r => injection h with h; subst h; rfl
theorem at_stop (A W R : List Nat) : (A ++ (W ++ R))[A.length + W.length]? = R.head? := by
  have e := at_app (A ++ W) R 0
  rw [Nat.add_zero, List.length_append] at e
  rw [show A ++ (W ++ R) = A ++ W ++ R by simp, e]
  cases R <;> rfl
theorem pNum_ok (A R : List Nat) {n : Nat} (h : n < 10 ^ 30) (s : ∀ c, R.head? = some c → isD c = false) : pNum (A ++ (TL.numL n ++ R)) A.length = ((n : Int), A.length + (TL.numL n).length) := by
  have e : numE (A ++ (TL.numL n ++ R)) A.length = A.length + (TL.numL n).length := by
    unfold numE
    cases ew : TL.numL n with
    | nil => exact absurd ew (TL.numL_ne _)
    | cons c W =>
      rw [at_head A (c :: W) R c rfl]
      by_cases h0 : n = 0
      · subst h0
        rw [TL.numL_lt (by decide)] at ew
        injection ew with e1 e2
        subst e1 e2
        rw [if_pos rfl]
        rfl
      · have hc := numL_head n h0 c (by rw [ew]; rfl)
        rw [if_neg (fun z => hc (by injection z))]
        have len := TL.numL_len (k := 30) (by decide) h
        rw [ew, List.length_cons] at len
        have r := runE_app (P := isD) (A ++ [c]) W R 29 (fun x hx => numL_isD n x (by rw [ew]; exact List.mem_cons_of_mem _ hx)) (by omega) (.inr fun x hx => s x hx)
        rw [show A ++ [c] ++ (W ++ R) = A ++ (c :: W ++ R) by simp, List.length_append] at r
        rw [show A.length + [c].length = A.length + 1 from rfl] at r
        rw [r, List.length_cons]
        omega
  unfold pNum
  rw [e, subL_app, TL.numL_val]
theorem letE_ok (A R : List Nat) {z : Str} (g : isNmS z = true) (s : ∀ c, R.head? = some c → isL c = false) : letE (A ++ (TL.tl z ++ R)) A.length = A.length + (TL.tl z).length := by
  obtain ⟨lo, l1, l8⟩ := low_of g
  rw [TL.len_tl] at l8
  exact runE_app A (TL.tl z) R 8 (low_isL lo) l8 (.inr s)
theorem mk_of (z : Str) : mk (TL.tl z) = z := TL.mk_tl z
theorem pName_ok (A R : List Nat) {z : Str} (g : isNmS z = true) (s : ∀ c, R.head? = some c → isL c = false) : pName (A ++ (TL.tl z ++ R)) A.length = .ok (z, A.length + (TL.tl z).length) := by
  unfold pName
  rw [letE_ok A R g s, subL_app, mk_of, if_pos g]
theorem nm_head {z : Str} (g : isNmS z = true) : ∃ c, (TL.tl z).head? = some c ∧ isL c = true := by
  obtain ⟨lo, l1, l8⟩ := low_of g
  rw [TL.len_tl] at l1
  have il := low_isL lo
  cases e : TL.tl z with
  | nil => rw [e] at l1; cases l1
  | cons c W => exact ⟨c, rfl, il c (by rw [e]; exact List.mem_cons_self)⟩

end
end KM
set_option Elab.async false
set_option linter.all false
set_option maxRecDepth 100000
set_option maxHeartbeats 8000000
namespace KM
open PySem PySem.Spec PyProof.Rows L2 He Sw L2H
section
variable {P : Program} {w : World} {K : PySem.W.Frag} {mg : Str → Option Value} {base : Heap}
/-! ### shifts -/
theorem subL_take (A X : List Nat) (k : Nat) : subL (A ++ X) A.length (A.length + k) = X.take k := by
  unfold subL
  simp
theorem sh_facts : ∀ n : _root_.Fin 65, (TL.numL n.val).take 1 ∈ (List.range 65).map TL.numL ∧ TL.numL n.val ∈ (List.range 65).map TL.numL ∧ (TL.numL n.val ++ [41]) ∉ (List.range 65).map TL.numL ∧ ((TL.numL n.val).length = 1 ∨ (TL.numL n.val).length = 2) := by decide +kernel
theorem pShift_ok (A R : List Nat) {n : Nat} (h : n ≤ 64) : pShift (A ++ (TL.numL n ++ 41 :: R)) A.length = .ok ((n : Int), A.length + (TL.numL n).length) := by
  obtain ⟨f1, f2, f3, f4⟩ := sh_facts ⟨n, by omega⟩
  have val := TL.numL_val n
  have e : shE (A ++ (TL.numL n ++ 41 :: R)) A.length 3 A.length = A.length + (TL.numL n).length := by
    generalize hW : TL.numL n = W at f1 f2 f3 f4
    have len : (A ++ (W ++ 41 :: R)).length = A.length + (W.length + (R.length + 1)) := by simp
    rcases f4 with l | l
    · obtain ⟨a, rfl⟩ : ∃ a, W = [a] := by
        match W, l with
        | [a], _ => exact ⟨a, rfl⟩
      unfold shE
      rw [if_pos ⟨by rw [len]; omega, by rw [subL_take]; exact f1⟩]
      unfold shE
      rw [if_neg (fun z => f3 (by have := z.2; rw [Nat.add_assoc, subL_take] at this; exact this))]
      rfl
    · obtain ⟨a, b, rfl⟩ : ∃ a b, W = [a, b] := by
        match W, l with
        | [a, b], _ => exact ⟨a, b, rfl⟩
      unfold shE
      rw [if_pos ⟨by rw [len]; omega, by rw [subL_take]; exact f1⟩]
      unfold shE
      rw [if_pos ⟨by rw [len, l]; omega, by rw [Nat.add_assoc, subL_take]; exact f2⟩]
      unfold shE
      rw [if_neg (fun z => f3 (by have := z.2; rw [Nat.add_assoc, Nat.add_assoc, subL_take] at this; exact this))]
      rfl
  unfold pShift
  rw [e, if_neg (by have := List.length_pos_iff.mpr (TL.numL_ne n); omega), subL_app, val]
/-! ### the signs of a text -/
theorem tl1 : TL.tl (Str.ofString "(- ") = [40, 45, 32] := by decide +kernel
theorem tl2 : TL.tl (Str.ofString "(") = [40] := by decide +kernel
theorem tl3 : TL.tl (Str.ofString " << ") = [32, 60, 60, 32] := by decide +kernel
theorem tl4 : TL.tl (Str.ofString ")") = [41] := by decide +kernel
theorem tl5 : TL.tl (Str.ofString ", ") = [44, 32] := by decide +kernel
theorem tl6 : TL.tl (Str.ofString "sum(") = [115, 117, 109, 40] := by decide +kernel
def B3.sgn : B3 → Nat
  | .plus => 43
  | .minus => 45
  | .times => 42
theorem B3.sg_tl (o : B3) : TL.tl o.sg = [32, o.sgn, 32] := by cases o <;> decide +kernel
theorem b3_sgn (o : B3) : b3Of o.sgn = some o ∧ o.sgn ≠ 60 := by cases o <;> exact ⟨rfl, by decide⟩
/-- ", " ahead of each -/
def moreL : List Fo → List Nat
  | [] => []
  | f :: fs => [44, 32] ++ (TL.tl f.txt ++ moreL fs)
theorem join_more (f : Fo) (fs : List Fo) : TL.tl (Txt.join (Str.ofString ", ") (Fo.txts (f :: fs))) = TL.tl f.txt ++ moreL fs := by
  rw [TL.join_eq, TL.tl_join, tl5]
  induction fs generalizing f with
  | nil => simp [Fo.txts, TL.joinL, moreL]
  | cons g gs ih =>
    have h := ih g
    show TL.tl f.txt ++ ([44, 32] ++ TL.joinL [44, 32] ((Fo.txts (g :: gs)).map TL.tl)) = _
    rw [h]
    rfl
/-- a text's first sign is no minus -/
theorem txt_headP : ∀ f : Fo, f.Pre → ∃ c, (TL.tl f.txt).head? = some c ∧ c ≠ 45 := by
  intro f ok
  cases f with
  | num n =>
    simp only [Fo.Pre] at ok
    obtain ⟨k, rfl⟩ := Int.eq_ofNat_of_zero_le ok.1
    rw [Fo.txt, show TL.tl (Str.ofString (toString ((k : Nat) : Int))) = TL.numL k from TL.tl_num k]
    cases e : TL.numL k with
    | nil => exact absurd e (TL.numL_ne _)
    | cons c r => exact ⟨c, rfl, (isD_not (numL_isD k c (by rw [e]; exact List.mem_cons_self))).2⟩
  | nam z =>
    simp only [Fo.Pre] at ok
    obtain ⟨c, h1, h2⟩ := nm_head ok.1
    exact ⟨c, h1, (isL_not h2).2.1⟩
  | neg f => exact ⟨40, by rw [Fo.txt, TL.tl_append, TL.tl_append, tl1]; rfl, by decide⟩
  | shl f n => exact ⟨40, by simp only [Fo.txt, TL.tl_append, tl2]; rfl, by decide⟩
  | bin o f g => exact ⟨40, by simp only [Fo.txt, TL.tl_append, tl2]; rfl, by decide⟩
  | sum i b f => exact ⟨115, by simp only [Fo.txt, TL.tl_append, tl6]; rfl, by decide⟩
  | call z fs =>
    simp only [Fo.Pre] at ok
    obtain ⟨c, h1, h2⟩ := nm_head ok.1.1
    refine ⟨c, ?_, (isL_not h2).2.1⟩
    simp only [Fo.txt, TL.tl_append]
    cases e : TL.tl z with
    | nil => rw [e] at h1; cases h1
    | cons d r => rw [e] at h1; exact h1
theorem txt_head (f : Fo) (ok : f.Ok) : ∃ c, (TL.tl f.txt).head? = some c ∧ c ≠ 45 := txt_headP f ok.pre

end
end KM
set_option Elab.async false
set_option linter.all false
set_option maxRecDepth 100000
set_option maxHeartbeats 8000000
namespace KM
open PySem PySem.Spec PyProof.Rows L2 He Sw L2H
section
variable {P : Program} {w : World} {K : PySem.W.Frag} {mg : Str → Option Value} {base : Heap}
/-! ### whole texts -/
structure At (L : List Nat) (p : Nat) (X : List Nat) : Prop where
  of ::
  d : L.drop p = X
  l : p ≤ L.length
theorem At.split {L W R : List Nat} {p : Nat} (h : At L p (W ++ R)) : ∃ A, L = A ++ (W ++ R) ∧ A.length = p := ⟨L.take p, by rw [← h.d, List.take_append_drop], by rw [List.length_take]; have := h.l; omega⟩
theorem At.next {L R : List Nat} {p : Nat} (W : List Nat) (h : At L p (W ++ R)) : At L (p + W.length) R := by
  obtain ⟨A, rfl, rfl⟩ := h.split
  exact ⟨by simp, by simp⟩
theorem At.cons {L R : List Nat} {p c : Nat} (h : At L p (c :: R)) : At L (p + 1) R := h.next [c]
theorem At.head {L X : List Nat} {p : Nat} (h : At L p X) : L[p]? = X.head? := by
  rw [← h.d, List.head?_drop]
theorem At.sg {L R : List Nat} {p : Nat} (S : List Nat) (h : At L p (S ++ R)) : sgAt L p S = .ok (p + S.length) := by
  obtain ⟨A, rfl, rfl⟩ := h.split
  exact sgAt_ok A S R
theorem At.num {L R : List Nat} {p n : Nat} (h : At L p (TL.numL n ++ R)) (hn : n < 10 ^ 30) (s : Stop R) : pNum L p = ((n : Int), p + (TL.numL n).length) := by
  obtain ⟨A, rfl, rfl⟩ := h.split
  exact pNum_ok A R hn fun c hc => (stop_not s c hc).2.1
theorem At.nm {L R : List Nat} {p : Nat} {z : Str} (h : At L p (TL.tl z ++ R)) (g : isNmS z = true) (s : ∀ c, R.head? = some c → isL c = false) : letE L p = p + (TL.tl z).length ∧ mk (subL L p (p + (TL.tl z).length)) = z ∧ pName L p = .ok (z, p + (TL.tl z).length) := by
  obtain ⟨A, rfl, rfl⟩ := h.split
  exact ⟨letE_ok A R g s, by rw [subL_app]; exact mk_of z, pName_ok A R g s⟩
theorem At.sh {L R : List Nat} {p n : Nat} (h : At L p (TL.numL n ++ 41 :: R)) (hn : n ≤ 64) : pShift L p = .ok ((n : Int), p + (TL.numL n).length) := by
  obtain ⟨A, rfl, rfl⟩ := h.split
  exact pShift_ok A R hn
theorem stop41 (R : List Nat) : Stop (41 :: R) := fun c h => by injection h with h; exact .inl h.symm
theorem stop32 (R : List Nat) : Stop (32 :: R) := fun c h => by injection h with h; exact .inr (.inl h.symm)
theorem stop44 (R : List Nat) : Stop (44 :: R) := fun c h => by injection h with h; exact .inr (.inr h.symm)
theorem tl_num' {n : Int} (h : 0 ≤ n) : ∃ k : Nat, n = k ∧ TL.tl (Fo.txt (.num n)) = TL.numL k := by
  obtain ⟨k, rfl⟩ := Int.eq_ofNat_of_zero_le h
  exact ⟨k, rfl, TL.tl_num k⟩
theorem pLeaf_ok {f : Fo} (lf : f.leaf) (ok : f.Ok) {L R : List Nat} {p : Nat} (h : At L p (TL.tl f.txt ++ R)) (s : Stop R) : pLeaf L p = .ok (f, p + (TL.tl f.txt).length) := by
  cases f with
  | num n =>
    obtain ⟨k, rfl, e⟩ := tl_num' ok.1
    rw [e] at h ⊢
    have hh := h.head
    have hn := h.num (by have := ok.2; omega) s
    unfold pLeaf
    cases ew : TL.numL k with
    | nil => exact absurd ew (TL.numL_ne _)
    | cons c W =>
      rw [ew] at hh
      rw [if_pos (by rw [hh]; exact numL_isD k c (by rw [ew]; exact List.mem_cons_self)), hn, ew]
  | nam z =>
    rw [show (Fo.nam z).txt = z from rfl] at h ⊢
    obtain ⟨c, h1, h2⟩ := nm_head ok.1
    obtain ⟨_, _, h3⟩ := h.nm ok.1 fun c hc => (stop_not s c hc).1
    have hh := h.head
    unfold pLeaf
    cases e : TL.tl z with
    | nil => rw [e] at h1; cases h1
    | cons d W =>
      rw [e] at h1 hh
      injection h1 with h1
      subst h1
      rw [if_neg (by rw [hh]; show ¬ (isD d = true); rw [(isL_not h2).2.2.2.2.2]; decide), h3, e]
  | _ => exact lf.elim
mutual
theorem pTree_okP : ∀ f : Fo, f.Pre → ∀ {L R : List Nat} {p n : Nat}, f.depth ≤ n → At L p (TL.tl f.txt ++ R) → (f.leaf → Stop R) → pTree L n p = .ok (f, p + (TL.tl f.txt).length)
  | f, ok, L, R, p, 0, hn, _, _ => absurd hn (Nat.not_le_of_lt (Fo.depth_pos f))
  | .num i, ok, L, R, p, n + 1, hn, h, s => by
    simp only [Fo.Pre] at ok
    have lf := pLeaf_ok (f := .num i) trivial ok h (s trivial)
    obtain ⟨k, rfl, e⟩ := tl_num' ok.1
    rw [e] at h
    have hh := h.head
    cases ew : TL.numL k with
    | nil => exact absurd ew (TL.numL_ne _)
    | cons c W =>
      rw [ew] at hh
      have hd : isD c = true := numL_isD k c (by rw [ew]; exact List.mem_cons_self)
      have hh : L[p]? = some c := hh
      unfold pLeaf at lf
      rw [pTree, if_neg (by rw [hh]; exact fun z => (isD_not hd).1 (by injection z))]
      rw [if_pos (by rw [hh]; exact hd)] at lf ⊢
      exact lf
  | .nam z, ok, L, R, p, n + 1, hn, h, s => by
    simp only [Fo.Pre] at ok
    rw [show (Fo.nam z).txt = z from rfl] at h ⊢
    obtain ⟨c, h1, h2⟩ := nm_head ok.1
    obtain ⟨l1, l2, l3⟩ := h.nm ok.1 fun c hc => (stop_not (s trivial) c hc).1
    have hh : L[p]? = some c := by
      rw [h.head]
      cases e : TL.tl z with
      | nil => rw [e] at h1; cases h1
      | cons d W => rw [e] at h1; exact h1
    have hn2 := (h.next (TL.tl z)).head
    have no : ¬ L[p + (TL.tl z).length]? = some 40 := fun z' => (stop_not (s trivial) 40 (hn2.symm.trans z')).2.2 rfl
    rw [pTree, if_neg (by rw [hh]; exact fun z => (isL_not h2).1 (by injection z)), if_neg (by rw [hh]; show ¬ (isD c = true); rw [(isL_not h2).2.2.2.2.2]; decide), l1, if_neg (fun z => no z.1), if_neg (fun z => no z.1), l3]
  | .neg f, ok, L, R, p, n + 1, hn, h, s => by
    simp only [Fo.Pre] at ok
    rw [dps_neg] at hn
    have e : TL.tl (Fo.neg f).txt = [40] ++ ([45, 32] ++ (TL.tl f.txt ++ [41])) := by simp only [Fo.txt, TL.tl_append, tl1, tl4]; simp
    rw [e] at h ⊢
    have h : At L p ([40] ++ ([45, 32] ++ (TL.tl f.txt ++ ([41] ++ R)))) := by simpa using h
    have a1 := h.next [40]
    have a2 := a1.next [45, 32]
    have t := pTree_okP f ok (n := n) (by omega) a2 (fun _ => stop41 _)
    have a3 := a2.next (TL.tl f.txt)
    have s1 := a1.sg [45, 32]
    have s2 := a3.sg [41]
    have h0 : L[p]? = some 40 := h.head
    have h1 : L[p + 1]? = some 45 := a1.head
    rw [pTree, if_pos h0, if_pos h1]
    show (do let a ← sgAt L (p + [40].length) [45, 32]; _) = _
    rw [s1]
    show (do let (f, e) ← pTree L n _; _) = _
    rw [t]
    show (do let e ← sgAt L _ [41]; _) = _
    rw [s2]
    show Except.ok _ = Except.ok _
    simp
    omega
  | .shl f i, ok, L, R, p, n + 1, hn, h, s => by
    rw [dps_shl] at hn
    simp only [Fo.Pre] at ok
    obtain ⟨k, rfl⟩ := Int.eq_ofNat_of_zero_le ok.1
    have e : TL.tl (Fo.shl f (k : Int)).txt = [40] ++ (TL.tl f.txt ++ ([32] ++ ([60, 60, 32] ++ (TL.numL k ++ [41])))) := by simp only [Fo.txt, TL.tl_append, tl2, tl3, tl4, show TL.tl (Str.ofString (toString ((k : Nat) : Int))) = TL.numL k from TL.tl_num k]; simp
    rw [e] at h ⊢
    have h : At L p ([40] ++ (TL.tl f.txt ++ ([32] ++ ([60, 60, 32] ++ (TL.numL k ++ (41 :: R)))))) := by simpa using h
    have a1 := h.next [40]
    have t := pTree_okP f ok.2.2 (n := n) (by omega) a1 (fun _ => stop32 _)
    have a2 := a1.next (TL.tl f.txt)
    have s1 := a2.sg [32]
    have a3 := a2.next [32]
    have s2 := a3.sg [60, 60, 32]
    have a4 := a3.next [60, 60, 32]
    have t2 := a4.sh (by omega)
    have a5 := a4.next (TL.numL k)
    have s3 := At.sg (R := R) [41] a5
    have h0 : L[p]? = some 40 := h.head
    have h1 : ¬ L[p + 1]? = some 45 := by
      obtain ⟨c, hc, nc⟩ := txt_headP f ok.2.2
      have hh : L[p + 1]? = (TL.tl f.txt ++ _).head? := a1.head
      rw [hh]
      cases ef : TL.tl f.txt with
      | nil => rw [ef] at hc; cases hc
      | cons d r => rw [ef] at hc; injection hc with hc; subst hc; exact fun z => nc (by injection z)
    have h2 : L[p + [40].length + (TL.tl f.txt).length + [32].length]? = some 60 := a3.head
    rw [pTree, if_pos h0, if_neg h1]
    show (do let (f, e) ← pTree L n (p + [40].length); _) = _
    rw [t]
    show (do let e ← sgAt L _ [32]; _) = _
    rw [s1]
    show (if L[p + [40].length + (TL.tl f.txt).length + [32].length]? = some 60 then _ else _) = _
    rw [if_pos h2]
    show (do let a ← sgAt L _ [60, 60, 32]; _) = _
    rw [s2]
    show (do let (k, e) ← pShift L _; _) = _
    rw [t2]
    show (do let e ← sgAt L _ [41]; _) = _
    rw [s3]
    show Except.ok _ = Except.ok _
    simp
    omega
  | .bin o f g, ok, L, R, p, n + 1, hn, h, s => by
    rw [dps_bin] at hn
    simp only [Fo.Pre] at ok
    have e : TL.tl (Fo.bin o f g).txt = [40] ++ (TL.tl f.txt ++ ([32] ++ ([o.sgn] ++ ([32] ++ (TL.tl g.txt ++ [41]))))) := by simp only [Fo.txt, TL.tl_append, tl2, tl4, o.sg_tl]; simp
    rw [e] at h ⊢
    have h : At L p ([40] ++ (TL.tl f.txt ++ ([32] ++ ([o.sgn] ++ ([32] ++ (TL.tl g.txt ++ ([41] ++ R))))))) := by simpa using h
    have a1 := h.next [40]
    have t := pTree_okP f ok.1 (n := n) (by omega) a1 (fun _ => stop32 _)
    have a2 := a1.next (TL.tl f.txt)
    have s1 := a2.sg [32]
    have a3 := a2.next [32]
    have a4 := a3.next [o.sgn]
    have s2 := a4.sg [32]
    have a5 := a4.next [32]
    have t2 := pTree_okP g ok.2 (n := n) (by omega) a5 (fun _ => stop41 _)
    have a6 := a5.next (TL.tl g.txt)
    have s3 := a6.sg [41]
    have h0 : L[p]? = some 40 := h.head
    have h1 : ¬ L[p + 1]? = some 45 := by
      obtain ⟨c, hc, nc⟩ := txt_headP f ok.1
      have hh : L[p + 1]? = (TL.tl f.txt ++ _).head? := a1.head
      rw [hh]
      cases ef : TL.tl f.txt with
      | nil => rw [ef] at hc; cases hc
      | cons d r => rw [ef] at hc; injection hc with hc; subst hc; exact fun z => nc (by injection z)
    have h2 : L[p + [40].length + (TL.tl f.txt).length + [32].length]? = some o.sgn := a3.head
    obtain ⟨b1, b2⟩ := b3_sgn o
    rw [pTree, if_pos h0, if_neg h1]
    show (do let (f, e) ← pTree L n (p + [40].length); _) = _
    rw [t]
    show (do let e ← sgAt L _ [32]; _) = _
    rw [s1]
    show (if L[p + [40].length + (TL.tl f.txt).length + [32].length]? = some 60 then _ else _) = _
    rw [if_neg (by rw [h2]; exact fun z => b2 (by injection z)), h2]
    show (match b3Of o.sgn with | none => _ | some o => _) = _
    rw [b1]
    show (do let a ← sgAt L (p + [40].length + (TL.tl f.txt).length + [32].length + [o.sgn].length) [32]; _) = _
    rw [s2]
    show (do let (g, e) ← pTree L n _; _) = _
    rw [t2]
    show (do let e ← sgAt L _ [41]; _) = _
    rw [s3]
    show Except.ok _ = Except.ok _
    simp
    omega
  | .sum i b f, ok, L, R, p, n + 1, hn, h, s => by
    rw [dps_sum] at hn
    simp only [Fo.Pre] at ok
    obtain ⟨gi, lb, ob, of⟩ := ok
    have e : TL.tl (Fo.sum i b f).txt = [115, 117, 109] ++ ([40] ++ (TL.tl i ++ ([44, 32] ++ (TL.tl b.txt ++ ([44, 32] ++ (TL.tl f.txt ++ [41])))))) := by simp only [Fo.txt, TL.tl_append, tl6, tl5, tl4]; simp
    rw [e] at h ⊢
    have h : At L p ([115, 117, 109] ++ ([40] ++ (TL.tl i ++ ([44, 32] ++ (TL.tl b.txt ++ ([44, 32] ++ (TL.tl f.txt ++ ([41] ++ R)))))))) := by simpa using h
    have a1 := h.next [115, 117, 109]
    have a2 := a1.next [40]
    obtain ⟨_, _, t1⟩ := a2.nm gi.1 (fun c hc => by injection hc with hc; subst hc; decide)
    have a3 := a2.next (TL.tl i)
    have s1 := a3.sg [44, 32]
    have a4 := a3.next [44, 32]
    have t2 := pLeaf_ok lb ob a4 (stop44 _)
    have a5 := a4.next (TL.tl b.txt)
    have s2 := a5.sg [44, 32]
    have a6 := a5.next [44, 32]
    have t3 := pTree_okP f of (n := n) (by omega) a6 (fun _ => stop41 _)
    have a7 := a6.next (TL.tl f.txt)
    have s3 := a7.sg [41]
    have h0 : L[p]? = some 115 := h.head
    have h1 : L[p + [115, 117, 109].length]? = some 40 := a1.head
    have le : letE L p = p + [115, 117, 109].length ∧ mk (subL L p (p + [115, 117, 109].length)) = "sum" := by
      obtain ⟨A, rfl, rfl⟩ := h.split
      exact ⟨runE_app A [115, 117, 109] _ 8 (by decide) (by decide) (.inr fun c hc => by injection hc with hc; subst hc; decide), by rw [subL_app]; decide +kernel⟩
    rw [pTree, if_neg (by rw [h0]; decide), if_neg (by rw [h0]; decide), le.1, if_pos ⟨h1, le.2⟩]
    show (do let (i, e) ← pName L (p + [115, 117, 109].length + [40].length); _) = _
    rw [t1]
    show (do let a ← sgAt L _ [44, 32]; _) = _
    rw [s1]
    show (do let (b, e) ← pLeaf L _; _) = _
    rw [t2]
    show (do let a ← sgAt L _ [44, 32]; _) = _
    rw [s2]
    show (do let (f, e) ← pTree L n _; _) = _
    rw [t3]
    show (do let e ← sgAt L _ [41]; _) = _
    rw [s3]
    show Except.ok _ = Except.ok _
    simp
    omega
  | .call z [], ok, L, R, p, n + 1, hn, h, s => by
    simp only [Fo.Pre] at ok
    exact absurd ok.2.1 (by decide)
  | .call z (f :: fs), ok, L, R, p, n + 1, hn, h, s => by
    rw [dps_call] at hn
    simp only [Fo.Pre] at ok
    obtain ⟨gz, _, n4, of⟩ := ok
    rw [Fo.depthL] at hn
    have e : TL.tl (Fo.call z (f :: fs)).txt = TL.tl z ++ ([40] ++ (TL.tl f.txt ++ (moreL fs ++ [41]))) := by rw [Fo.txt, TL.tl_append, TL.tl_append, TL.tl_append, join_more, tl2, tl4]; simp
    rw [e] at h ⊢
    have h : At L p (TL.tl z ++ ([40] ++ (TL.tl f.txt ++ (moreL fs ++ (41 :: R))))) := by simpa using h
    obtain ⟨l1, l2, _⟩ := h.nm gz.1 (fun c hc => by injection hc with hc; subst hc; decide)
    have a1 := h.next (TL.tl z)
    have a2 := a1.next [40]
    have st : Stop (moreL fs ++ (41 :: R)) := by
      cases fs with
      | nil => exact stop41 R
      | cons g gs => exact stop44 _
    have t1 := pTree_okP f of.1 (n := n) (by omega) a2 (fun _ => st)
    have a3 := a2.next (TL.tl f.txt)
    have t2 := pMore_okP fs of.2 (n := n) (k := 3) (by omega) (by rw [List.length_cons] at n4; omega) a3
    have a4 := a3.next (moreL fs)
    have s3 := At.sg (R := R) [41] a4
    obtain ⟨c, h1, h2⟩ := nm_head gz.1
    have hh : L[p]? = some c := by
      rw [h.head]
      cases e : TL.tl z with
      | nil => rw [e] at h1; cases h1
      | cons d W => rw [e] at h1; exact h1
    have h3 : L[p + (TL.tl z).length]? = some 40 := a1.head
    have ns : ¬ z = "sum" := fun e => by
      have g := gz.1
      rw [e] at g
      exact absurd g (by decide +kernel)
    rw [pTree, if_neg (by rw [hh]; exact fun z => (isL_not h2).1 (by injection z)), if_neg (by rw [hh]; show ¬ (isD c = true); rw [(isL_not h2).2.2.2.2.2]; decide), l1, if_neg (fun q => ns (l2.symm.trans q.2)), if_pos ⟨h3, by rw [l2]; exact gz.1⟩]
    show (do let (f, e) ← pTree L n (p + (TL.tl z).length + [40].length); _) = _
    rw [t1]
    show (do let (fs, e) ← pMore L n 3 _; _) = _
    rw [t2]
    show (do let e ← sgAt L _ [41]; _) = _
    rw [s3, l2]
    show Except.ok _ = Except.ok _
    simp
    omega
theorem pMore_okP : ∀ fs : List Fo, Fo.PreL fs → ∀ {L R : List Nat} {p n k : Nat}, Fo.depthL fs ≤ n → fs.length ≤ k → At L p (moreL fs ++ 41 :: R) → pMore L n k p = .ok (fs, p + (moreL fs).length)
  | [], ok, L, R, p, n, k, _, _, h => by
    have hh : L[p]? = some 41 := h.head
    cases k with
    | zero => rw [pMore]; rfl
    | succ k => rw [pMore, if_neg (by rw [hh]; decide)]; rfl
  | f :: fs, ok, L, R, p, n, 0, hn, hk, h => absurd hk (by simp)
  | f :: fs, ok, L, R, p, n, k + 1, hn, hk, h => by
    rw [Fo.depthL] at hn
    have h : At L p ([44, 32] ++ (TL.tl f.txt ++ (moreL fs ++ 41 :: R))) := by
      have h' := h
      rw [moreL] at h'
      simpa using h'
    have s1 := h.sg [44, 32]
    have a1 := h.next [44, 32]
    have st : Stop (moreL fs ++ (41 :: R)) := by
      cases fs with
      | nil => exact stop41 R
      | cons g gs => exact stop44 _
    have t1 := pTree_okP f ok.1 (n := n) (by omega) a1 (fun _ => st)
    have a2 := a1.next (TL.tl f.txt)
    have t2 := pMore_okP fs ok.2 (n := n) (k := k) (by omega) (by rw [List.length_cons] at hk; omega) a2
    have h0 : L[p]? = some 44 := h.head
    rw [pMore, if_pos h0]
    show (do let a ← sgAt L p [44, 32]; _) = _
    rw [s1]
    show (do let (f, e) ← pTree L n _; _) = _
    rw [t1]
    show (do let (fs, e) ← pMore L n k _; _) = _
    rw [t2]
    show Except.ok _ = Except.ok _
    rw [moreL]
    simp
    omega
end
theorem pTree_ok (f : Fo) (ok : f.Ok) {L R : List Nat} {p n : Nat} (hn : f.depth ≤ n) (h : At L p (TL.tl f.txt ++ R)) (s : f.leaf → Stop R) : pTree L n p = .ok (f, p + (TL.tl f.txt).length) := pTree_okP f ok.pre hn h s
theorem at0 (L : List Nat) : At L 0 (L ++ []) := ⟨by simp, Nat.zero_le _⟩
theorem stop0 : Stop [] := fun _ h => nomatch h
theorem pTree_txt {f : Fo} (ok : f.Ok) {n : Nat} (hn : f.depth ≤ n) : pTree (TL.tl f.txt) n 0 = .ok (f, (TL.tl f.txt).length) := by
  have h := pTree_ok f ok hn (at0 (TL.tl f.txt)) (fun _ => stop0)
  rw [Nat.zero_add] at h
  exact h
/-- unlike formulas are written unlike -/
theorem txt_inj {f g : Fo} (hf : f.Ok) (hg : g.Ok) (e : f.txt = g.txt) : f = g := by
  have h1 := pTree_txt hf (n := f.depth + g.depth) (by omega)
  have h2 := pTree_txt hg (n := f.depth + g.depth) (by omega)
  rw [e] at h1
  have h := h1.symm.trans h2
  injection h with h
  injection h with h _

end
end KM
set_option Elab.async false
set_option linter.all false
set_option maxRecDepth 100000
set_option maxHeartbeats 2000000
/-! A dict of the top with text keys: which keys it has. -/
namespace Sw
open PySem PySem.Spec PyProof.Rows L2 He
/-- at d: a dict of the top with just these keys -/
def KeysAt (K : PySem.W.Frag) (w : World) (d : Addr) (ks : List Str) : Prop := dicW K d = some (keysIn w.params ks)
theorem KeysAt.kd {K : PySem.W.Frag} {w : World} {d : Addr} {ks : List Str} (h : KeysAt K w d ks) : ∃ es n, KDict K w d es n := dicW_ok h
theorem keyOf_all {P : Params} : ∀ {l : List DictEntry} {ks : List Str}, l.map He.keyOf = keysIn P ks → ∀ e ∈ l, ∃ k t, k ∈ ks ∧ e.key = .str k t
  | [], _, _, e, he => nomatch he
  | e :: r, [], h, _, _ => by cases h
  | e :: r, k :: ks, h, x, hx => by
    have h1 : He.keyOf e :: r.map He.keyOf = some (k, PyData.keyHash P k) :: keysIn P ks := h
    injection h1 with h2 h3
    rcases List.mem_cons.mp hx with rfl | hx
    · unfold He.keyOf at h2
      split at h2
      · rename_i x t q
        obtain ⟨h5, _⟩ := Prod.mk.inj (Option.some.inj h2)
        exact ⟨x, t, by rw [h5]; exact List.mem_cons_self, q⟩
      · cases h2
    · obtain ⟨k', t, hk, e'⟩ := keyOf_all h3 x hx
      exact ⟨k', t, List.mem_cons_of_mem _ hk, e'⟩
theorem KeysAt.miss {K : PySem.W.Frag} {w : World} {d : Addr} {ks : List Str} {x : Str} (h : KeysAt K w d ks) (hx : x ∉ ks) : PySem.W.nsIn K d x = some none := by
  unfold KeysAt dicW at h
  cases q : K.lookup d with
  | none => rw [q] at h; cases h
  | some o =>
    obtain ⟨oc, od, dt, osl⟩ := o
    rw [q] at h
    cases oc with
    | type c =>
      cases od with
      | none =>
        cases dt with
        | dict es n =>
          have h1 : (match decide (c = "dict") && (osl.isEmpty && !(d == sysModules)) with
            | true => some (es.toList.map He.keyOf)
            | false => none) = some (keysIn w.params ks) := h
          cases z : decide (c = "dict") && (osl.isEmpty && !(d == sysModules)) with
          | false => rw [z] at h1; cases h1
          | true =>
            rw [z] at h1
            have al := keyOf_all (Option.some.inj h1)
            unfold PySem.W.nsIn
            rw [q]
            have e1 : es.toList.find? (·.key.isStr x) = none := List.find?_eq_none.mpr fun e he => by
              obtain ⟨k, t, hk, ek⟩ := al e he
              rw [ek]
              intro c
              have : k = x := by simpa [Value.isStr] using c
              exact hx (this ▸ hk)
            have e2 : es.toList.any (·.refKey) = false := by
              rw [List.any_eq_false]
              intro e he c
              obtain ⟨k, t, hk, ek⟩ := al e he
              simp [DictEntry.refKey, ek] at c
            show (match es.toList.find? (·.key.isStr x) with
              | some e => some (some e.val)
              | none => if es.toList.any (·.refKey) then none else some none) = _
            rw [e1, e2]
            rfl
        | _ => cases h
      | some _ => cases h
    | _ => cases h
theorem SaysX.keys {fa : List Fb} {fn : List DefD} {ts : List Tab} {w : World} {K : PySem.W.Frag} (c : SaysX fa fn ts w K) (i : Nat) {t : Tab} (h : ts[i]? = some t := by rfl) : KeysAt K w (t.1 K) t.2 := by
  have e : ts.map (fun t => dicW K (t.1 K)) = ts.map fun t => some (keysIn w.params t.2) := congrArg (fun z : AlT => z.2) c
  have e2 : (ts.map fun t => dicW K (t.1 K))[i]? = (ts.map fun t => some (keysIn w.params t.2))[i]? := by rw [e]
  rw [List.getElem?_map, List.getElem?_map, h] at e2
  exact Option.some.inj e2
end Sw
set_option Elab.async false
set_option linter.all false
set_option maxRecDepth 100000
set_option maxHeartbeats 4000000
namespace Sw
open PySem PySem.Spec PyProof.Rows L2 PySem.W
section
variable {prog : Program} {w : World} {K : Frag} {A : Around} {s : Shared} {E : Value → Shared → Prop} {x C f : Addr} {ox : Obj} {od : Option Obj}
/-- an own operator whose right side is a value of a built-in type, on the heap or not -/
theorem own_binB {op : Operator} {T : String} {u : Value} {Q : Value → Shared → Prop} (X : K.In s.heap) (Ia : W.InstAt s.heap x ox C od) (Lu : Looks (model prog w) s.heap (typeOf u) (.type T)) (B : BinT K op.info.2 C f T)
    (h : wpAny (model prog w) A (call (.ref f) [.ref x, u]) (W.CmpBack Q) E s) : wpAny (model prog w) A (binaryOp op (.ref x) u) Q E s := by
  obtain ⟨fo, ro, sT, rT⟩ := B.sT
  have hsub := B.sub
  have fC := B.fC
  have sC := B.sC
  have sF := B.sF
  have rC := B.rC
  obtain ⟨cd, rest, hcd, hm⟩ := ksp_first fC
  rcases hi : op.info with ⟨sym, nm'⟩
  rw [hi] at sC rC sT rT
  dsimp only at sC rC sT rT
  obtain ⟨hp, gg, dr, t, os⟩ := s
  have one := ksp_try (s := ⟨hp, gg, dr, t, os⟩) X Ia sC sF h
  have Lx : Looks (model prog w) hp (typeOf (.ref x)) (.ref C) := Ia.type
  have Lu : Looks (model prog w) hp (typeOf u) (.type T) := Lu
  have La : Looks (model prog w) hp (fillsNumberSlot (.ref C) nm') true := fills_K X hcd hm sC
  have Lb := ksp_fillsT (M := model prog w) (nm := nm') X sT rT
  have Lc : Looks (model prog w) hp (isSubtype (.type T) (.ref C)) false := looks_subIn X hsub
  have Ld : Looks (model prog w) hp (numberSlotInPython (.ref C) nm') true := ksp_inPy X sC rC (.inl rfl)
  have Le : Looks (model prog w) hp (numberSlotInPython (.type T) nm') false := Looks.of_pure rfl
  have Lf : Looks (model prog w) hp (typeLookup (.type T) (dunderR nm')) ro := looks_findIn X rT
  have hne : (Value.ref C == Value.type T) = false := Bool.eq_false_iff.mpr fun q => nomatch beq_iff_eq.mp q
  simp only [binaryOp, hi]
  refine wpAny_holding (wpAny_bind ?_)
  unfold binaryOp1
  refine wpAny_bind (Lx.at (wpAny_bind (Lu.at (wpAny_bind (La.at ?_)))))
  simp only [hne, Bool.false_eq_true, if_false]
  generalize ((fo.isSome && !isSeqSlot fo) || (ro.isSome && !isSeqSlot ro)) = right at Lb
  have fin : ∀ {m : Option Value → Sem Value}, (∀ v s', Q v s' → wpAny (model prog w) A (m (some v)) Q E s') → wpAny (model prog w) A (tryMethod (.ref x) (PySem.dunder nm') u >>= m) Q E ⟨hp, gg, dr, t, os⟩ := fun {m} hm =>
    wpAny_bind (wpAny_mono one (fun r s' ⟨v, e, q⟩ => by rw [e]; exact hm v s' q) fun _ _ e => e)
  cases right <;> (ksp_lk; refine wpAny_mono one (fun r s' ⟨v, e, q⟩ => ?_) (fun _ _ e => e); subst e; ksp_lk; exact q)
end
end Sw
namespace Sw
open PySem PySem.Spec PyProof.Rows L2
section
variable {X : Cx} {CX : CXT} {k : Nat} {f : Addr} {ps : List Str} {sp : Sp} {E : XK}
/-- x op y, y of a built-in type -/
def rOwnB (K : PySem.W.Frag) (nm : String) (f : Addr) (sp : Sp) (E : XK) : R2 := fun x y H Q => ∃ (a C dx : Addr) (fs : List (Str × V)) (T : String), x = .ref a ∧ H a = some (.ins C dx fs) ∧ TyX K H y (.type T) ∧ BinT K nm C f T ∧ sp [.ref a, y] H (QRef Q) E
theorem op_ownBC {op : Operator} (F : Cal X.prog X.w X.K X.mg X.base CX k f ps sp) (hr : Room k X.A) (hx : Passes CX X E) : OpR X (binaryOp op) (rOwnB X.K op.info.2 f sp E) := by
  obtain ⟨fd, F, hk, hb⟩ := F
  intro pins s σ H x y v u Q I rx ry h
  obtain ⟨a, C, dx, fs, T, rfl, ea, ty, P, q⟩ := h
  obtain rfl : v = Value.ref a := rx
  obtain ⟨mA, O, _⟩ := ins_get I.hok ea
  obtain ⟨oda, Ia, _⟩ := O.look
  obtain ⟨Pr, kx, pr, _⟩ := kit_of I ry ty
  exact own_binB I.kIn Ia (kx.ty _ _ I.kIn pr) P (run_back (vs := [.ref a, y]) F hr hb hx I (.cons rfl (.cons ry .nil)) q)
end
end Sw
set_option Elab.async false
set_option linter.all false
set_option maxRecDepth 100000
set_option maxHeartbeats 8000000
namespace KM
open PySem PySem.Spec PyProof.Rows L2 He Sw L2H
section
variable {P : Program} {w : World} {K : PySem.W.Frag} {mg : Str → Option Value} {base : Heap}
local macro_rules | `(tactic| row_room_at ne) => `(tactic| with_reducible assumption)
local macro_rules | `(tactic| row_room_at hp) => `(tactic| (apply SameBut.use; with_reducible assumption; rotate_left; row_room_at hp; row_room_at ne))
local macro_rules | `(tactic| row_room_at hp) => `(tactic| (apply FoAt.same; rotate_left; with_reducible assumption; row_room_at hp))
local macro_rules | `(tactic| row_room_at hp) => `(tactic| (apply Sw.Same.use; with_reducible assumption; row_room_at hp))
local macro_rules | `(tactic| row_room_at hp) => `(tactic| (apply SqT.of; row_room_at hp))
local macro_rules | `(tactic| row_room_at hp) => `(tactic| (apply SqL.of; row_room_at hp))
local macro_rules | `(tactic| row_room_at hp) => `(tactic| with_reducible assumption)
local macro_rules | `(tactic| row_room_at ati) => `(tactic| first | with_reducible assumption | rfl | (apply atI_nat; rfl))
local macro_rules | `(tactic| row_room_at cc) => `(tactic| first | with_reducible assumption | omega | decide | (refine ⟨?_, ?_⟩ <;> first | decide | omega) | (refine ⟨?_, ?_, ?_⟩ <;> first | decide | omega) | (left; refine ⟨?_, ?_⟩ <;> first | decide | omega) | (right; refine ⟨?_, ?_⟩ <;> first | decide | omega))
local macro_rules | `(tactic| row_room_at rdts) => `(tactic| with_reducible apply rd_retN)
local macro_rules | `(tactic| row_room_at rdts) => `(tactic| with_reducible apply rd_cont)
local macro_rules | `(tactic| row_room_at rdts) => `(tactic| with_reducible apply rd_brk)
local macro_rules | `(tactic| row_room_at rdts) => `(tactic| with_reducible apply rd_dput)
local macro_rules | `(tactic| row_room_at rdts) => `(tactic| with_reducible apply rd_drop)
local macro_rules | `(tactic| row_room_at rdts) => `(tactic| with_reducible apply rd_for)
local macro_rules | `(tactic| row_room_at rdts) => `(tactic| with_reducible apply rd_ret)
local macro_rules | `(tactic| row_room_at rdts) => `(tactic| with_reducible apply rd_next)
local macro_rules | `(tactic| row_room_at rdts) => `(tactic| with_reducible apply rd_ifS)
local macro_rules | `(tactic| row_room_at rdts) => `(tactic| with_reducible apply rd_asg)
local macro_rules | `(tactic| row_room_at rdts) => `(tactic| with_reducible refine rd_seqN fun _ _ => ?_)
local macro_rules | `(tactic| row_room_at rdit) => `(tactic| with_reducible refine rd_iteNF (by with_unfolding_all decide +kernel) ?_)
local macro_rules | `(tactic| row_room_at rdit) => `(tactic| with_reducible refine rd_iteNT (by with_unfolding_all decide +kernel) ?_)
local macro_rules | `(tactic| row_room_at rdit) => `(tactic| with_reducible apply rd_iteN0)
local macro_rules | `(tactic| row_room_at rdit) => `(tactic| with_reducible apply rd_iteN1)
local macro_rules | `(tactic| row_room_at rdit) => `(tactic| with_reducible apply rd_ite1)
local macro_rules | `(tactic| row_room_at rdit) => `(tactic| with_reducible apply rd_ite0)
local macro_rules | `(tactic| row_room_at rdit) => `(tactic| with_reducible refine rd_iteT (by with_unfolding_all decide +kernel) ?_)
local macro_rules | `(tactic| row_room_at rdit) => `(tactic| with_reducible refine rd_iteF (by with_unfolding_all decide +kernel) ?_)
local macro_rules | `(tactic| row_room_at rdex) => `(tactic| with_reducible apply rd_inS)
local macro_rules | `(tactic| row_room_at rdex) => `(tactic| with_reducible apply rd_min2)
local macro_rules | `(tactic| row_room_at rdex) => `(tactic| with_reducible apply rd_1S)
local macro_rules | `(tactic| row_room_at rdex) => `(tactic| with_reducible apply rd_2S)
local macro_rules | `(tactic| row_room_at rdex) => `(tactic| with_reducible refine rd_fld' (by with_unfolding_all row_room_at hp) (by with_unfolding_all assumption) (by with_unfolding_all assumption) (by with_unfolding_all rfl) ?_)
local macro_rules | `(tactic| row_room_at rdex) => `(tactic| with_reducible refine rd_ty (by with_unfolding_all row_room_at hp) ?_)
local macro_rules | `(tactic| row_room_at rdex) => `(tactic| with_reducible refine rd_itup' (by with_unfolding_all row_room_at hp) ?_)
local macro_rules | `(tactic| row_room_at rdex) => `(tactic| with_reducible refine rd_ilist' (by with_unfolding_all row_room_at hp) ?_)
local macro_rules | `(tactic| row_room_at rdex) => `(tactic| with_reducible apply rd_1B)
local macro_rules | `(tactic| row_room_at rdex) => `(tactic| with_reducible refine rd_dgetS (by with_unfolding_all row_room_at hp) (by with_unfolding_all assumption) ?_)
local macro_rules | `(tactic| row_room_at rdex) => `(tactic| with_reducible refine rd_dget' (by with_unfolding_all row_room_at hp) (by with_unfolding_all rfl) (by with_unfolding_all assumption) ?_)
local macro_rules | `(tactic| row_room_at rdex) => `(tactic| with_reducible refine rd_len (by with_unfolding_all first | exact .inl (by row_room_at hp) | exact .inr (by row_room_at hp)) ?_)
local macro_rules | `(tactic| row_room_at rdex) => `(tactic| with_reducible refine rd_lenQ (by with_unfolding_all first | exact .inl (by row_room_at hp) | exact .inr (by row_room_at hp)) ?_)
local macro_rules | `(tactic| row_room_at rdex) => `(tactic| with_reducible apply rd_2I)
local macro_rules | `(tactic| row_room_at rdex) => `(tactic| with_reducible refine rd_b62 (by with_unfolding_all first | decide | (constructor <;> omega)) ?_)
local macro_rules | `(tactic| row_room_at rdex) => `(tactic| with_reducible refine rd_lenS (by with_unfolding_all omega) ?_)
local macro_rules | `(tactic| row_room_at rdex) => `(tactic| with_reducible apply rd_1I)
local macro_rules | `(tactic| row_room_at rdex) => `(tactic| with_reducible apply rd_int1)
local macro_rules | `(tactic| row_room_at rdex) => `(tactic| with_reducible apply rd_iv)
local macro_rules | `(tactic| row_room_at rdex) => `(tactic| with_reducible refine rd_sz (by with_unfolding_all first | decide | (simp only [List.length_append, List.length_map, List.length_cons, List.length_nil, List.length_take]; omega)) ?_)
local macro_rules | `(tactic| row_room_at rdex) => `(tactic| with_reducible apply rd_bl)
local macro_rules | `(tactic| row_room_at rdhd) => `(tactic| with_reducible apply rd_m1)
local macro_rules | `(tactic| row_room_at rdhd) => `(tactic| with_reducible apply rd_fld)
local macro_rules | `(tactic| row_room_at rdhd) => `(tactic| with_reducible refine rd_append (by with_unfolding_all row_room_at hp) (by with_unfolding_all first | decide | (simp only [List.length_append, List.length_map, List.length_cons, List.length_nil]; omega)) ?_)
local macro_rules | `(tactic| row_room_at rdhd) => `(tactic| with_reducible apply rd_bm)
local macro_rules | `(tactic| row_room_at rdhd) => `(tactic| with_reducible apply rd_yes)
local macro_rules | `(tactic| row_room_at rdhd) => `(tactic| with_reducible apply rd_lc)
local macro_rules | `(tactic| row_room_at rdhd) => `(tactic| with_reducible apply rd_itup)
local macro_rules | `(tactic| row_room_at rdhd) => `(tactic| with_reducible apply rd_ilist)
local macro_rules | `(tactic| row_room_at rdhd) => `(tactic| with_reducible refine rd_dictK (by with_unfolding_all row_room_at hp) ?_)
local macro_rules | `(tactic| row_room_at rdhd) => `(tactic| with_reducible refine rd_lenK (by with_unfolding_all first | exact .inl (by row_room_at hp) | exact .inr (by row_room_at hp)) ?_)
local macro_rules | `(tactic| row_room_at rdhd) => `(tactic| with_reducible apply rd_methI)
local macro_rules | `(tactic| row_room_at rdhd) => `(tactic| with_reducible apply rd_dget)
local macro_rules | `(tactic| row_room_at rdhd) => `(tactic| with_reducible apply rd_if)
local macro_rules | `(tactic| row_room_at rdhd) => `(tactic| with_reducible apply rd_notV)
local macro_rules | `(tactic| row_room_at rdhd) => `(tactic| with_reducible apply rd_orV)
local macro_rules | `(tactic| row_room_at rdhd) => `(tactic| with_reducible apply rd_andV)
local macro_rules | `(tactic| row_room_at rdhd) => `(tactic| with_reducible apply rd_U)
local macro_rules | `(tactic| row_room_at rdhd) => `(tactic| with_reducible apply rd_un)
local macro_rules | `(tactic| row_room_at rdhd) => `(tactic| with_reducible refine rd_cat (by with_unfolding_all row_room_at hp) (by with_unfolding_all row_room_at hp) (by with_unfolding_all first | decide | (simp only [List.length_append, List.length_map, List.length_cons, List.length_nil, List.length_take]; omega)) ?_)
local macro_rules | `(tactic| row_room_at rdhd) => `(tactic| with_reducible refine rd_slL (by with_unfolding_all row_room_at hp) ?_)
local macro_rules | `(tactic| row_room_at rdhd) => `(tactic| with_reducible apply rd_nopart)
local macro_rules | `(tactic| row_room_at rdhd) => `(tactic| with_reducible apply rd_make)
local macro_rules | `(tactic| row_room_at rdhd) => `(tactic| with_reducible apply rd_kt)
local macro_rules | `(tactic| row_room_at rdhd) => `(tactic| with_reducible apply rd_rng1)
local macro_rules | `(tactic| row_room_at rdhd) => `(tactic| with_reducible refine rd_ne (by with_unfolding_all rfl) ?_)
local macro_rules | `(tactic| row_room_at rdhd) => `(tactic| with_reducible apply rd_and)
local macro_rules | `(tactic| row_room_at rdhd) => `(tactic| with_reducible apply rd_B)
local macro_rules | `(tactic| row_room_at rdhd) => `(tactic| with_reducible apply rd_not)
local macro_rules | `(tactic| row_room_at rdhd) => `(tactic| with_reducible refine rd_ixL (by with_unfolding_all row_room_at hp) (by with_unfolding_all row_room_at ati) ?_)
local macro_rules | `(tactic| row_room_at rdhd) => `(tactic| with_reducible apply rd_gNil)
local macro_rules | `(tactic| row_room_at rdhd) => `(tactic| with_reducible refine rd_gTup (by with_unfolding_all (apply SqT.of; row_room_at hp)) (by with_unfolding_all rfl) ?_)
local macro_rules | `(tactic| row_room_at rdhd) => `(tactic| with_reducible apply rd_sl)
local macro_rules | `(tactic| row_room_at rdhd) => `(tactic| with_reducible refine rd_I (by with_unfolding_all row_room_at cc) ?_)
local macro_rules | `(tactic| row_room_at rdhd) => `(tactic| with_reducible apply rd_or)
local macro_rules | `(tactic| row_room_at rdhd) => `(tactic| with_reducible apply rd_lst)
local macro_rules | `(tactic| row_room_at rdhd) => `(tactic| with_reducible apply rd_gCons)
local macro_rules | `(tactic| row_room_at rdhd) => `(tactic| with_reducible apply rd_part)
local macro_rules | `(tactic| row_room_at rdhd) => `(tactic| with_reducible apply rd_tup)
local macro_rules | `(tactic| row_room_at rdhd) => `(tactic| with_reducible apply rd_I0)
local macro_rules | `(tactic| row_room_at rdhd) => `(tactic| with_reducible apply rd_CB)
local macro_rules | `(tactic| row_room_at rdhd) => `(tactic| with_reducible refine rd_ixT (by with_unfolding_all row_room_at hp) (by with_unfolding_all row_room_at ati) ?_)
local macro_rules | `(tactic| row_room_at rdhd) => `(tactic| with_reducible refine rd_eq (by with_unfolding_all rfl) ?_)
local macro_rules | `(tactic| row_room_at rdhd) => `(tactic| with_reducible apply rd_call)
local macro_rules | `(tactic| row_room_at rdhd) => `(tactic| with_reducible apply rd_gName)
local macro_rules | `(tactic| row_room_at rdhd) => `(tactic| with_reducible apply rd_test)
local macro_rules | `(tactic| row_room_at rdhd) => `(tactic| with_reducible apply rd_cons)
local macro_rules | `(tactic| row_room_at rdhd) => `(tactic| with_reducible apply rd_consC)
local macro_rules | `(tactic| row_room_at rdhd) => `(tactic| with_reducible refine rd_consV (by with_unfolding_all rfl) ?_)
local macro_rules | `(tactic| row_room_at rdhd) => `(tactic| with_reducible apply rd_nil)
local macro_rules | `(tactic| row_room_at rdhd) => `(tactic| with_reducible apply rd_c)
local macro_rules | `(tactic| row_room_at rdhd) => `(tactic| with_reducible refine rd_var (by with_unfolding_all rfl) ?_)
local macro_rules | `(tactic| row_room_at rdhd) => `(tactic| with_reducible apply rd_op)
local macro_rules | `(tactic| row_room_at rdsz) => `(tactic| with_reducible refine rd_sz (by with_unfolding_all first | decide | (simp only [List.length_append, List.length_map, List.length_cons, List.length_nil, List.length_take]; omega)) ?_)
local macro_rules | `(tactic| row_room_at rd1) => `(tactic| with_reducible refine rd_unN (by with_reducible assumption) ?_)
local macro_rules | `(tactic| row_room_at rd1) => `(tactic| ((fail_if_success with_reducible apply g_sp); (fail_if_success with_reducible apply g_ite); row_room_at rdex))
local macro_rules | `(tactic| row_room_at rd1) => `(tactic| ((fail_if_success with_reducible apply g_sp); (fail_if_success with_reducible intro _); row_room_at rdhd))
local macro_rules | `(tactic| row_room_at rd1) => `(tactic| row_room_at rdsz)
local macro_rules | `(tactic| row_room_at rd1) => `(tactic| ((with_reducible apply g_ex); row_room_at rdex))
local macro_rules | `(tactic| row_room_at rd1) => `(tactic| ((with_reducible apply g_ite); row_room_at rdit))
local macro_rules | `(tactic| row_room_at rd1) => `(tactic| ((with_reducible apply g_ts); row_room_at rdts))
local macro_rules | `(tactic| row_room_at rd) => `(tactic| repeat row_room_at rd1)
theorem scSE : FnScope ["self", "value"] ["self", "value"] (defScope s_SameError___init__) := ⟨rfl, rfl, rfl, by decide +kernel, rfl, by decide +kernel, by decide +kernel⟩
theorem ok_SE {fd : FuncData} (T : Txt K mg) (F : FnM K "SameError" "SameError.__init__" s_SameError___init__ [.non] fd) : FnOk P w K mg base CX0 1 (ma K (ga K "SameError") "__init__") fd ["self", "value"] (spEInit K) := by
  refine F.ok scSE spEInit_len (fun cdv A outer s H vs Q E hr h => ?_)
  obtain ⟨a, C, v, rfl, ha, TC, k⟩ := h
  refine ⟨_, pss_cons (ps_expr (pe_veinit rfl (T.f "ValueError") T.veI (pa_cons (pv 0) (pa_cons (pe_exn (pv 0)) pa_nil)))) (pss_one (ps_ost (pv 0) (pv 1))), ?_⟩
  obtain ⟨z, hz⟩ := TC.n
  refine ⟨_, rfl, _, rfl, a, C, z, rfl, ha, TC.e, hz, a, C, _, rfl, (by show 1 ≤ 1000; decide), TC.o, ha, ?_⟩
  exact ⟨_, rfl, _, rfl, a, C, rfl, TC.o, TC.nv, .inl ⟨ha, fun dx h1 h2 => k dx h1 h2⟩⟩
theorem binds_SE {fd : FuncData} (F : FnM K "SameError" "SameError.__init__" s_SameError___init__ [.non] fd) : Binds K fd ["self", "value"] [] := by
  obtain ⟨ds, hv, hb⟩ := F.binds1 (ps := ["self", "value"]) 2 1 (by simp) rfl (fun _ _ _ _ _ _ _ us its hu hi => match us, hu, its, hi with | [_, _], _, [_], _ => ⟨_, rfl, rfl⟩)
  cases hv
  exact hb
theorem f_SE (T : Txt K mg) : ∃ fd, FnM K "SameError" "SameError.__init__" s_SameError___init__ [.non] fd := T.dd 0 _ rfl
theorem c_SE (T : Txt K mg) : Cal P w K mg base CX0 1 (ma K (ga K "SameError") "__init__") ["self", "value"] (spEInit K) := by
  obtain ⟨fd, F⟩ := f_SE T
  exact ⟨fd, ok_SE T F, F.kp, binds_SE F⟩
theorem sc_BadText___init__ : FnScope ["self", "value"] ["self", "value"] (defScope s_BadText___init__) := ⟨rfl, rfl, rfl, by decide +kernel, rfl, by decide +kernel, by decide +kernel⟩
theorem ok_BadText___init__ (T : Txt K mg) : Cal P w K mg base CX0 2 (ma K (ga K "BadText") "__init__") ["self", "value"] (spEInit K) := by
  obtain ⟨fd, F⟩ := T.f_BadText___init__
  refine ⟨fd, ?_, F.kp, F.bindsN fun _ _ _ _ _ _ us hl => match us, hl with | [_, _], _ => rfl⟩
  refine F.ok sc_BadText___init__ spEInit_len (fun cdv A outer s H vs Q E hr h => ?_)
  obtain ⟨a, C, v, rfl, ha, TC, k⟩ := h
  refine ⟨_, pss_one (ps_expr (pe_clfnC (x := "SameError") (c_SE T) T.seI (hr.mono (by omega)) rfl (T.g "SameError") pass0 (pa_cons (pv 0) (pa_cons (pv 1) pa_nil)))), ?_⟩
  exact ⟨_, rfl, _, rfl, a, C, v, rfl, ha, TC, k⟩
/-- C is raised with the value v -/
def RaisesC (K : PySem.W.Frag) (C : Str) (H : Hp) (v : V) (E : XK) : Prop := ∀ H' d, Same H H' → H d = none → H' d = some (.xd [("value", v)]) → E (.ref (ga K C)) (some d) H'
theorem RaisesC.same {C : Str} {H H' : Hp} {v : V} {E : XK} (h : RaisesC K C H v E) (s : Same H H') : RaisesC K C H' v E := fun H2 d s2 hd e => h H2 d (s.trans s2) (none_back s hd) e
theorem pe_gs {X : Cx} {x : Str} {p : Pos} {n : Str} (hg : Gl X x) (h : ∃ t, X.mg x = some (.str n t)) (hd : (x == ("__debug__" : Str)) = false := by decide) : PE X (.Name x p) (tC (.str n)) := by
  obtain ⟨t, h⟩ := h
  exact pe_glob (v := .str n) hg h ⟨t, rfl⟩ hd
/-! ### signs of a text -/
/-- the sign at p, or nothing -/
def ch (L : List Nat) (p : Nat) : Str := match L[p]? with
  | some c => ⟨#[c]⟩
  | none => ⟨#[]⟩
theorem ch_some {L : List Nat} {p c : Nat} (h : L[p]? = some c) : ch L p = ⟨#[c]⟩ := by unfold ch; rw [h]
theorem ch_none {L : List Nat} {p : Nat} (h : L[p]? = none) : ch L p = ⟨#[]⟩ := by unfold ch; rw [h]
theorem ch_eq {L : List Nat} {p c : Nat} : decide (V.str (ch L p) = V.str ⟨#[c]⟩) = decide (L[p]? = some c) := by
  cases h : L[p]? with
  | none => rw [ch_none h]; simp
  | some d => rw [ch_some h]; simp
theorem cut_sub (z : Str) {a b : Nat} (h : a ≤ b) : cutS z (some (a : Int)) (some (b : Int)) = mk (subL (TL.tl z) a b) := by
  unfold cutS subL
  rw [HT.sIx_nat, HT.sIx_nat, show z.cps.toList = TL.tl z from rfl, TL.len_tl]
  by_cases hb : b ≤ (TL.tl z).length
  · rw [Nat.min_eq_left hb, Nat.min_eq_left (by omega : a ≤ _)]; rfl
  · by_cases ha : a ≤ (TL.tl z).length
    · rw [Nat.min_eq_left ha, Nat.min_eq_right (by omega)]
      refine congrArg (fun l : List Nat => (⟨l.toArray⟩ : Str)) ?_
      rw [List.take_of_length_le (by rw [List.length_drop]; omega), List.take_of_length_le (by rw [List.length_drop]; omega)]
    · rw [Nat.min_eq_right (by omega : (TL.tl z).length ≤ a), Nat.min_eq_right (by omega : (TL.tl z).length ≤ b)]
      refine congrArg (fun l : List Nat => (⟨l.toArray⟩ : Str)) ?_
      rw [List.drop_of_length_le (Nat.le_refl _), List.drop_of_length_le (by omega)]; simp
theorem cut_one (z : Str) (p : Nat) : cutS z (some (p : Int)) (some ((p : Int) + 1)) = ch (TL.tl z) p := by
  have h := cut_sub z (Nat.le_succ p)
  rw [show ((p : Int) + 1) = ((p.succ : Nat) : Int) by omega, h]
  unfold subL ch
  cases e : (TL.tl z)[p]? with
  | none =>
    rw [List.drop_of_length_le (by rw [List.getElem?_eq_none_iff] at e; exact e)]; simp [mk]
  | some c =>
    obtain ⟨hp, rfl⟩ := List.getElem?_eq_some_iff.mp e
    rw [List.drop_eq_getElem_cons hp, show p.succ - p = 1 by omega]; simp [mk]
theorem chE {L : List Nat} {p c : Nat} {s : Str} (hs : s = ⟨#[c]⟩) : decide (V.str (ch L p) = V.str s) = decide (L[p]? = some c) := by rw [hs, ch_eq]
theorem rd_one {z : Str} {a b : Int} {H : Hp} {Q : VK} (p : Nat) (ha : a = p) (hb : b = (p : Int) + 1) (hz : z.length ≤ 300000) (q : Q (.str (ch (TL.tl z) p)) H) : rSlS (.str z) (some a) (some b) H Q := by
  subst ha hb
  exact rd_slS (by omega) (by rw [cut_one]; exact q)
theorem rd_sub {z : Str} {a b : Int} {H : Hp} {Q : VK} (p e : Nat) (ha : a = p) (hb : b = e) (h : p ≤ e) (hz : z.length ≤ 300000) (q : Q (.str (mk (subL (TL.tl z) p e))) H) : rSlS (.str z) (some a) (some b) H Q := by
  subst ha hb
  exact rd_slS (by omega) (by rw [cut_sub z h]; exact q)
theorem at_cps {z : Str} {p c : Nat} (h : (TL.tl z)[p]? = some c) : z.cps[p]? = some c := by rw [← h]; exact (Array.getElem?_toList ..).symm
theorem rd_at {z : Str} {i : Int} {c : Nat} {R : Nat → Prop} (p : Nat) (hi : i = p) (hz : z.length ≤ 300000) (hc : (TL.tl z)[p]? = some c) (q : R c) : ∃ z' i' c', V.str z = .str z' ∧ V.int i = .int i' ∧ 0 ≤ i' ∧ i' < 2 ^ 63 ∧ i' < z'.length ∧ z'.cps[i'.toNat]? = some c' ∧ R c' := by
  subst hi
  have hc := at_cps hc
  have hp : p < z.length := (Array.getElem?_eq_some_iff.mp hc).1
  exact ⟨z, p, c, rfl, rfl, by omega, by omega, by omega, hc, q⟩
theorem sgAt_le {L : List Nat} : ∀ {S : List Nat} {p e : Nat}, sgAt L p S = .ok e → p ≤ L.length → e = p + S.length ∧ e ≤ L.length
  | [], p, e, h, hp => by injection h with h; subst h; exact ⟨rfl, hp⟩
  | s :: S, p, e, h, hp => by
    unfold sgAt at h
    split at h
    · rename_i h1
      have hl : p < L.length := by
        rcases Nat.lt_or_ge p L.length with l | l
        · exact l
        · rw [List.getElem?_eq_none_iff.mpr l] at h1; cases h1
      obtain ⟨h2, h3⟩ := sgAt_le h hl
      exact ⟨by rw [h2, List.length_cons]; omega, h3⟩
    · cases h
theorem sgAt_drop {L : List Nat} {p : Nat} {S : List Nat} : ∀ (i : Nat), i ≤ S.length → (∀ j < i, L[p + j]? = S[j]?) → sgAt L p S = sgAt L (p + i) (S.drop i) := by
  intro i
  induction i with
  | zero => intro _ _; rfl
  | succ i ih =>
    intro hi h
    have hS : i < S.length := by omega
    rw [ih (by omega) fun j hj => h j (by omega), List.drop_eq_getElem_cons hS]
    show (if L[p + i]? = some S[i] then _ else _) = _
    rw [if_pos (by rw [h i (by omega), List.getElem?_eq_getElem hS])]
    rfl
def spAfter (K : PySem.W.Frag) : Sp := fun vs H Q E => ∃ (z : Str) (p : Nat) (s : Str), vs = [.str z, .int p, .str s] ∧ p ≤ z.length ∧ z.length ≤ 300000 ∧ s.length ≤ 10 ∧
  (∀ e H', sgAt (TL.tl z) p (TL.tl s) = .ok e → e ≤ z.length → Same H H' → Q (.int e) H') ∧ (∀ q, sgAt (TL.tl z) p (TL.tl s) = .error q → RaisesC K "BadText" H (.int q) E)
theorem scE_after : FnScope ["text", "at", "signs", "place", "sign"] ["text", "at", "signs"] (defScope s_after) := ⟨rfl, rfl, rfl, by decide +kernel, rfl, by decide +kernel, by decide +kernel⟩
theorem okE_after (T : Txt K mg) : Cal P w K mg base (L2N.CX P w) (5) (ga K "after") ["text", "at", "signs"] (spAfter K) := by
  obtain ⟨fd, F⟩ := T.f_after
  obtain ⟨fdB_BadText, GB_BadText, kB_BadText, bB_BadText⟩ := ok_BadText___init__ (P := P) (w := w) (base := base) T
  have TB_BadText := T.err "BadText" (by decide +kernel)
  refine ⟨fd, ?_, F.kp, F.bindsN fun _ _ _ _ _ _ us hl => match us, hl with | [_, _, _], _ => rfl⟩
  refine F.ok scE_after (fun vs H Q E h => ?_) (fun cdv A outer s H vs Q E hr h => ?_)
  · obtain ⟨_, _, _, rfl, _⟩ := h
    rfl
  have nod := scE_after.nd
  have hu := hu_of hr
  refine ⟨_, (pss_cons (ps_for PassesOwn.leaving rfl (pi_enumK rfl (T.f "enumerate") (pa_cons (pv 2) pa_nil) (pk_cons (pv 1) pk_nil)) (pg_tup rfl (pgs_cons (pg_name (i := 3) nod rfl (Or.inl rfl)) (pgs_cons (pg_name (i := 4) nod rfl (Or.inl rfl)) pgs_nil)))
    (pss_one (ps_if (pt_cmpR op_ne (pe_slice sl_str (pv 0) (po_some (pv 3)) (po_some (pe_op op_add (pv 3) pe_int))) (pv 4) (nomark _))
      (pss_one (L2N.ps_raise rfl (L2N.takes_of rfl rfl rfl rfl) (pmkN_oex (x := "BadText") TB_BadText.o TB_BadText.ini TB_BadText.inT GB_BadText (hr.mono (by omega)) bB_BadText .nil pass0 rfl (T.g "BadText") (pa_cons (pv 3) pa_nil))))
      pss_nil)))
  (pss_one (ps_ret (pe_op op_add (pv 1) (pe_callB call_len_str rfl (T.f "len") (by decide +kernel) (pa_cons (pv 2) pa_nil)))))), ?_⟩
  obtain ⟨z, p, s, rfl, hp, hz, hs, q, r⟩ := h
  row_room_at rd
  refine rd_enumK ?_
  row_room_at rd
  refine ⟨s, p, rfl, rfl, by omega, by omega, ?_⟩
  have lz := TL.len_tl z
  have ls : s.cps.size = (TL.tl s).length := TL.len_tl s
  refine for_it (walk_enumK (x := s) (k := (p : Int))) (fun i σ H' => Same H H' ∧ (∀ j < i, (TL.tl z)[p + j]? = (TL.tl s)[j]?) ∧ ∃ u v, σ = [some (.str z), some (.int p), some (.str s), u, v]) ⟨Same.refl _, fun j hj => absurd hj (Nat.not_lt_zero _), none, none, rfl⟩ (fun _ _ _ _ _ => trivial) (fun i x σ H1 H2 hi hp' hy => ?_) (fun σ H1 hp' => ?_)
  · obtain ⟨s1, al, u, v, rfl⟩ := hp'
    obtain ⟨A, c, rfl, hA, rfl, hc⟩ := hy
    have hc : (TL.tl s)[i]? = some c := by rw [← hc]; exact Array.getElem?_toList ..
    have e2 : (upd H1 A (.tup [V.int ((p : Int) + (i : Nat)), .str ⟨#[c]⟩])) A = some (.tup [V.int ((p : Int) + (i : Nat)), .str ⟨#[c]⟩]) := upd_same
    have s2 : Same H (upd H1 A (.tup [V.int ((p : Int) + (i : Nat)), .str ⟨#[c]⟩])) := s1.trans (upd_new hA)
    generalize upd H1 A (.tup [V.int ((p : Int) + (i : Nat)), .str ⟨#[c]⟩]) = H2 at e2 s2 ⊢
    have hS : i < (TL.tl s).length := by
      rcases Nat.lt_or_ge i (TL.tl s).length with l | l
      · exact l
      · rw [List.getElem?_eq_none_iff.mpr l] at hc; cases hc
    refine rd_gTup (SqT.of e2) rfl ?_
    row_room_at rd
    refine rd_one (p + i) (by omega) (by omega) hz ?_
    row_room_at rd
    rw [ch_eq]
    by_cases h : (TL.tl z)[p + i]? = some c
    · rw [decide_eq_true h]
      row_room_at rd
      exact ⟨s2, fun j hj => by rcases Nat.lt_succ_iff_lt_or_eq.mp hj with h' | rfl; exact al j h'; rw [h, hc], _, _, rfl⟩
    · rw [decide_eq_false h]
      row_room_at rd
      have e := sgAt_drop i (Nat.le_of_lt hS) al
      rw [List.drop_eq_getElem_cons hS] at e
      have e' : sgAt (TL.tl z) p (TL.tl s) = .error (p + i) := by
        rw [e]
        show (if (TL.tl z)[p + i]? = some _ then _ else _) = _
        rw [if_neg]
        intro h'
        rw [List.getElem?_eq_getElem hS] at hc
        exact h (by rw [h', hc])
      refine rd_mkO ?_
      row_room_at rd
      exact ⟨by show 1 ≤ 1000; decide, err_made TB_BadText fun H3 d s3 hd hx => r (p + i) e' H3 d (s2.trans s3) (none_back s2 hd) (by rw [hx]; simp)⟩
  · obtain ⟨s1, al, u, v, rfl⟩ := hp'
    have e := sgAt_drop (TL.tl s).length (Nat.le_refl _) (by rw [← ls]; exact al)
    rw [List.drop_length] at e
    obtain ⟨_, e2⟩ := sgAt_le e (by omega)
    row_room_at rd
    have k := q _ H1 e (by omega) s1
    rw [show ((p + (TL.tl s).length : Nat) : Int) = (p : Int) + (s.length : Nat) by rw [TL.len_tl s]; omega] at k
    exact k
/-! ### letters_at -/
theorem LET_isL (c : Nat) : decide (c ∈ LET.cps.toList) = isL c := by
  have e : LET.cps.toList = (List.range 26).map (97 + ·) := by decide +kernel
  rw [e, Bool.eq_iff_iff, decide_eq_true_iff]
  unfold isL
  rw [Bool.and_eq_true, decide_eq_true_iff, decide_eq_true_iff, List.mem_map]
  constructor
  · rintro ⟨i, hi, rfl⟩
    have := List.mem_range.mp hi
    omega
  · rintro ⟨h1, h2⟩
    exact ⟨c - 97, List.mem_range.mpr (by omega), by omega⟩
theorem runE_le {P : Nat → Bool} {L : List Nat} : ∀ {k p : Nat}, p ≤ runE P L k p ∧ runE P L k p ≤ p + k
  | 0, p => ⟨Nat.le_refl _, Nat.le_refl _⟩
  | k + 1, p => by
    unfold runE
    split
    · split
      · have := @runE_le P L k (p + 1); omega
      · omega
    · omega
theorem runE_len {P : Nat → Bool} {L : List Nat} : ∀ {k p : Nat}, p ≤ L.length → runE P L k p ≤ L.length
  | 0, p, h => h
  | k + 1, p, h => by
    unfold runE
    split
    · rename_i c hc
      split
      · exact runE_len (by obtain ⟨hp, _⟩ := List.getElem?_eq_some_iff.mp hc; omega)
      · exact h
    · exact h
def spLets : Sp := fun vs H Q _ => ∃ (z : Str) (p : Nat), vs = [.str z, .int p] ∧ p ≤ z.length ∧ z.length ≤ 300000 ∧ ∀ u H', letE (TL.tl z) p ≤ z.length → Same H H' → H' u = some (.tup [.str (mk (subL (TL.tl z) p (letE (TL.tl z) p))), .int (letE (TL.tl z) p)]) → Q (.ref u) H'
theorem sc_letters_at : FnScope ["text", "at", "end"] ["text", "at"] (defScope s_letters_at) := ⟨rfl, rfl, rfl, by decide +kernel, rfl, by decide +kernel, by decide +kernel⟩
theorem ok_letters_at (T : Txt K mg) : Cal P w K mg base CX0 (2) (ga K "letters_at") ["text", "at"] spLets := by
  obtain ⟨fd, F⟩ := T.f_letters_at
  refine ⟨fd, ?_, F.kp, F.bindsN fun _ _ _ _ _ _ us hl => match us, hl with | [_, _], _ => rfl⟩
  refine F.ok sc_letters_at (fun vs H Q E h => ?_) (fun cdv A outer s H vs Q E hr h => ?_)
  · obtain ⟨_, _, rfl, _⟩ := h
    rfl
  have nod := sc_letters_at.nd
  have hu := hu_of hr
  refine ⟨_, PSs.nox (pss_cons (ps_set (i := 2) nod rfl (Or.inl rfl) (pv 1))
  (pss_cons (ps_while PassesOwn.never (PW.pt (pw_and (pt_cmpR op_lt (pv 2) (pe_callB (call_min2 rfl) rfl (T.f "min") (by decide +kernel) (pa_cons (pe_op op_add (pv 1) (pe_gi (n := 8) rfl T.mLet)) (pa_cons (pe_callB call_len_str rfl (T.f "len") (by decide +kernel) (pa_cons (pv 0) pa_nil)) pa_nil))) (nomark _)) (pw_and1 (pt_cmpR op_in_sign (pe_item_str (pv 0) (pv 2) (fun _ _ => rfl)) (pe_gs (n := LET) rfl T.let_) rfl))))
    (pss_one (ps_set (i := 2) nod rfl (Or.inl rfl) (pe_op op_add (pv 2) pe_int))))
  (pss_one (ps_ret (pe_tup (pa_cons (pe_slice sl_str (pv 0) (po_some (pv 1)) (po_some (pv 2))) (pa_cons (pv 2) pa_nil))))))), ?_⟩
  obtain ⟨z, p, rfl, hp, hz, q⟩ := h
  have lz := TL.len_tl z
  row_room_at rd
  refine ⟨fun m σ H' => ∃ e : Nat, m = p + 8 - e ∧ p ≤ e ∧ e ≤ p + 8 ∧ e ≤ z.length ∧ runE isL (TL.tl z) (p + 8 - e) e = letE (TL.tl z) p ∧ H' = H ∧ σ = [some (.str z), some (.int p), some (.int e)], ⟨8, p, by omega, Nat.le_refl _, by omega, hp, by rw [show p + 8 - p = 8 by omega]; rfl, rfl, rfl⟩, ?_⟩
  rintro m σ H1 ⟨e, rfl, h1, h2, h3, h4, rfl, rfl⟩
  row_room_at rd
  by_cases hc : e < p + 8 ∧ e < z.length
  · have hi : (e : Int) < (if ((z.length : Nat) : Int) < (p : Int) + 8 then ((z.length : Nat) : Int) else (p : Int) + 8) := by split <;> omega
    rw [decide_eq_true hi]
    row_room_at rd
    obtain ⟨c, hx⟩ : ∃ c, (TL.tl z)[e]? = some c := ⟨_, List.getElem?_eq_getElem (by omega)⟩
    refine rd_at e rfl hz hx ?_
    row_room_at rd
    rw [LET_isL]
    have st : runE isL (TL.tl z) (p + 8 - e) e = if isL c = true then runE isL (TL.tl z) (p + 8 - (e + 1)) (e + 1) else e := by
      rw [show p + 8 - e = (p + 8 - (e + 1)) + 1 by omega]
      show (match (TL.tl z)[e]? with
        | some c => if isL c = true then runE isL (TL.tl z) (p + 8 - (e + 1)) (e + 1) else e
        | none => e) = _
      rw [hx]
    by_cases il : isL c = true
    · rw [il]
      rw [if_pos il] at st
      refine ite2 (fun _ => ⟨_, fun _ _ h => h, ?_⟩) (fun h => absurd rfl h)
      row_room_at rd
      exact ⟨p + 8 - (e + 1), by omega, e + 1, rfl, by omega, by omega, by omega, by rw [← st]; exact h4, rfl, rfl⟩
    · rw [Bool.eq_false_iff.mpr il]
      rw [if_neg il] at st
      refine ite2 (fun h => absurd h (by decide)) (fun _ => ?_)
      row_room_at rd
      have ee : letE (TL.tl z) p = e := by rw [← h4, st]
      refine rd_sub p e rfl rfl h1 hz ?_
      row_room_at rd
      refine rd_new fun u H' hu s' eu => ?_
      exact q u H' (by omega) s' (by rw [ee]; exact eu)
  · have hi : ¬ ((e : Int) < (if ((z.length : Nat) : Int) < (p : Int) + 8 then ((z.length : Nat) : Int) else (p : Int) + 8)) := by split <;> omega
    rw [decide_eq_false hi]
    row_room_at rd
    have ee : letE (TL.tl z) p = e := by
      rw [← h4]
      rcases Nat.lt_or_ge e z.length with l | l
      · rw [show p + 8 - e = 0 by omega]; rfl
      · cases hk : p + 8 - e with
        | zero => rfl
        | succ k =>
          show (match (TL.tl z)[e]? with
            | some c => if isL c = true then runE isL (TL.tl z) k (e + 1) else e
            | none => e) = e
          rw [List.getElem?_eq_none_iff.mpr (by omega)]
    refine rd_sub p e rfl rfl h1 hz ?_
    row_room_at rd
    refine rd_new fun u H' hu s' eu => ?_
    exact q u H' (by omega) s' (by rw [ee]; exact eu)
/-! ### name_at -/
def spRd (K : PySem.W.Frag) {α : Type} (F : List Nat → Nat → Except Nat (α × Nat)) (G : Hp → Hp → α → V → Prop) : Sp := fun vs H Q E => ∃ (z : Str) (p : Nat), vs = [.str z, .int p] ∧ p ≤ z.length ∧ z.length ≤ 300000 ∧
  (∀ a e u v H', F (TL.tl z) p = .ok (a, e) → e ≤ z.length → Same H H' → H' u = some (.tup [v, .int e]) → G H H' a v → Q (.ref u) H') ∧ (∀ q, F (TL.tl z) p = .error q → RaisesC K "BadText" H (.int q) E)
theorem ok_is_name (T : Txt K mg) : Cal P w K mg base CX0 1 (ga K "is_name") ["thing"] spIsName := by
  obtain ⟨fd, F⟩ := T.f_is_name
  exact ⟨fd, ok_isName T F, F.kp, F.bindsN fun _ _ _ _ _ _ us hl => match us, hl with | [_], _ => rfl⟩
theorem letE_le {L : List Nat} {p : Nat} : p ≤ letE L p ∧ letE L p ≤ p + 8 := runE_le
theorem mk_len8 {L : List Nat} {a b : Nat} (h : b ≤ a + 8) : (mk (subL L a b)).length ≤ 8 := by
  rw [mk_len]
  unfold subL
  rw [List.length_take]
  omega
def NmG (H H' : Hp) (w : Str) (v : V) : Prop := isNmS w = true ∧ w.length ≤ 8 ∧ ∃ t, v = .ref t ∧ H' t = some (.tup [.str "name", .str w])
theorem scE_name_at : FnScope ["text", "at", "word", "end"] ["text", "at"] (defScope s_name_at) := ⟨rfl, rfl, rfl, by decide +kernel, rfl, by decide +kernel, by decide +kernel⟩
theorem okE_name_at (T : Txt K mg) : Cal P w K mg base (L2N.CX P w) (6) (ga K "name_at") ["text", "at"] (spRd K pName NmG) := by
  obtain ⟨fd, F⟩ := T.f_name_at
  obtain ⟨fdB_BadText, GB_BadText, kB_BadText, bB_BadText⟩ := ok_BadText___init__ (P := P) (w := w) (base := base) T
  have TB_BadText := T.err "BadText" (by decide +kernel)
  refine ⟨fd, ?_, F.kp, F.bindsN fun _ _ _ _ _ _ us hl => match us, hl with | [_, _], _ => rfl⟩
  refine F.ok scE_name_at (fun vs H Q E h => ?_) (fun cdv A outer s H vs Q E hr h => ?_)
  · obtain ⟨_, _, rfl, _⟩ := h
    rfl
  have nod := scE_name_at.nd
  have hu := hu_of hr
  refine ⟨_, (pss_cons (ps_asg (pe_callC (ok_letters_at T) (hr.mono (by omega)) rfl (T.g "letters_at") pass0 (pa_cons (pv 0) (pa_cons (pv 1) pa_nil))) (pg_tup rfl (pgs_cons (pg_name (i := 2) nod rfl (Or.inl rfl)) (pgs_cons (pg_name (i := 3) nod rfl (Or.inl rfl)) pgs_nil))))
  (pss_cons (ps_if (pt_not (pt_val (pe_callC (ok_is_name T) (hr.mono (by omega)) rfl (T.g "is_name") pass0 (pa_cons (pv 2) pa_nil))))
    (pss_one (L2N.ps_raise rfl (L2N.takes_of rfl rfl rfl rfl) (pmkN_oex (x := "BadText") TB_BadText.o TB_BadText.ini TB_BadText.inT GB_BadText (hr.mono (by omega)) bB_BadText .nil pass0 rfl (T.g "BadText") (pa_cons (pv 3) pa_nil))))
    pss_nil)
  (pss_one (ps_ret (pe_tup (pa_cons (pe_tup (pa_cons pe_str (pa_cons (pv 2) pa_nil))) (pa_cons (pv 3) pa_nil))))))), ?_⟩
  obtain ⟨z, p, rfl, hp, hz, q, r⟩ := h
  row_room_at rd
  refine ⟨z, p, rfl, hp, hz, fun u H1 hl s1 e1 => ?_⟩
  have l8 := mk_len8 (L := TL.tl z) (letE_le (L := TL.tl z) (p := p)).2
  row_room_at rd
  generalize hw : mk (subL (TL.tl z) p (letE (TL.tl z) p)) = W at e1 l8 ⊢
  refine ⟨_, _, rfl, .str W (by omega), fun H2 s2 => ?_⟩
  have s02 := s1.trans s2
  clear e1 s1 s2
  have pe : pName (TL.tl z) p = if isNmS W = true then .ok (W, letE (TL.tl z) p) else .error (letE (TL.tl z) p) := by unfold pName; rw [hw]
  show ∃ k, V.bl (isNmS W) = .bl k ∧ _
  row_room_at rd
  cases g : isNmS W with
  | true =>
    rw [if_pos g] at pe
    row_room_at rd
    refine rd_new fun t H3 ht s3 e3 => ?_
    row_room_at rd
    refine rd_new fun u H4 hu s4 e4 => ?_
    exact q _ _ u _ H4 pe hl (s02.trans (s3.trans s4)) e4 ⟨g, l8, t, rfl, s4 _ _ e3⟩
  | false =>
    rw [if_neg (by rw [g]; decide)] at pe
    row_room_at rd
    refine rd_mkO ?_
    row_room_at rd
    exact ⟨by show 1 ≤ 1000; decide, err_made TB_BadText fun H3 d s3 hd hx => r _ pe H3 d (s02.trans s3) (none_back s02 hd) hx⟩

end
end KM
set_option Elab.async false
set_option linter.all false
set_option maxRecDepth 100000
set_option maxHeartbeats 8000000
namespace KM
open PySem PySem.Spec PyProof.Rows L2 He Sw L2H
section
variable {P : Program} {w : World} {K : PySem.W.Frag} {mg : Str → Option Value} {base : Heap}
local macro_rules | `(tactic| row_room_at ne) => `(tactic| with_reducible assumption)
local macro_rules | `(tactic| row_room_at hp) => `(tactic| (apply SameBut.use; with_reducible assumption; rotate_left; row_room_at hp; row_room_at ne))
local macro_rules | `(tactic| row_room_at hp) => `(tactic| (apply FoAt.same; rotate_left; with_reducible assumption; row_room_at hp))
local macro_rules | `(tactic| row_room_at hp) => `(tactic| (apply Sw.Same.use; with_reducible assumption; row_room_at hp))
local macro_rules | `(tactic| row_room_at hp) => `(tactic| (apply SqT.of; row_room_at hp))
local macro_rules | `(tactic| row_room_at hp) => `(tactic| (apply SqL.of; row_room_at hp))
local macro_rules | `(tactic| row_room_at hp) => `(tactic| with_reducible assumption)
local macro_rules | `(tactic| row_room_at ati) => `(tactic| first | with_reducible assumption | rfl | (apply atI_nat; rfl))
local macro_rules | `(tactic| row_room_at cc) => `(tactic| first | with_reducible assumption | omega | decide | (refine ⟨?_, ?_⟩ <;> first | decide | omega) | (refine ⟨?_, ?_, ?_⟩ <;> first | decide | omega) | (left; refine ⟨?_, ?_⟩ <;> first | decide | omega) | (right; refine ⟨?_, ?_⟩ <;> first | decide | omega))
local macro_rules | `(tactic| row_room_at rdts) => `(tactic| with_reducible apply rd_retN)
local macro_rules | `(tactic| row_room_at rdts) => `(tactic| with_reducible apply rd_cont)
local macro_rules | `(tactic| row_room_at rdts) => `(tactic| with_reducible apply rd_brk)
local macro_rules | `(tactic| row_room_at rdts) => `(tactic| with_reducible apply rd_dput)
local macro_rules | `(tactic| row_room_at rdts) => `(tactic| with_reducible apply rd_drop)
local macro_rules | `(tactic| row_room_at rdts) => `(tactic| with_reducible apply rd_for)
local macro_rules | `(tactic| row_room_at rdts) => `(tactic| with_reducible apply rd_ret)
local macro_rules | `(tactic| row_room_at rdts) => `(tactic| with_reducible apply rd_next)
local macro_rules | `(tactic| row_room_at rdts) => `(tactic| with_reducible apply rd_ifS)
local macro_rules | `(tactic| row_room_at rdts) => `(tactic| with_reducible apply rd_asg)
local macro_rules | `(tactic| row_room_at rdts) => `(tactic| with_reducible refine rd_seqN fun _ _ => ?_)
local macro_rules | `(tactic| row_room_at rdit) => `(tactic| with_reducible refine rd_iteNF (by with_unfolding_all decide +kernel) ?_)
local macro_rules | `(tactic| row_room_at rdit) => `(tactic| with_reducible refine rd_iteNT (by with_unfolding_all decide +kernel) ?_)
local macro_rules | `(tactic| row_room_at rdit) => `(tactic| with_reducible apply rd_iteN0)
local macro_rules | `(tactic| row_room_at rdit) => `(tactic| with_reducible apply rd_iteN1)
local macro_rules | `(tactic| row_room_at rdit) => `(tactic| with_reducible apply rd_ite1)
local macro_rules | `(tactic| row_room_at rdit) => `(tactic| with_reducible apply rd_ite0)
local macro_rules | `(tactic| row_room_at rdit) => `(tactic| with_reducible refine rd_iteT (by with_unfolding_all decide +kernel) ?_)
local macro_rules | `(tactic| row_room_at rdit) => `(tactic| with_reducible refine rd_iteF (by with_unfolding_all decide +kernel) ?_)
local macro_rules | `(tactic| row_room_at rdex) => `(tactic| with_reducible apply rd_inS)
local macro_rules | `(tactic| row_room_at rdex) => `(tactic| with_reducible apply rd_min2)
local macro_rules | `(tactic| row_room_at rdex) => `(tactic| with_reducible apply rd_1S)
local macro_rules | `(tactic| row_room_at rdex) => `(tactic| with_reducible apply rd_2S)
local macro_rules | `(tactic| row_room_at rdex) => `(tactic| with_reducible refine rd_fld' (by with_unfolding_all row_room_at hp) (by with_unfolding_all assumption) (by with_unfolding_all assumption) (by with_unfolding_all rfl) ?_)
local macro_rules | `(tactic| row_room_at rdex) => `(tactic| with_reducible refine rd_ty (by with_unfolding_all row_room_at hp) ?_)
local macro_rules | `(tactic| row_room_at rdex) => `(tactic| with_reducible refine rd_itup' (by with_unfolding_all row_room_at hp) ?_)
local macro_rules | `(tactic| row_room_at rdex) => `(tactic| with_reducible refine rd_ilist' (by with_unfolding_all row_room_at hp) ?_)
local macro_rules | `(tactic| row_room_at rdex) => `(tactic| with_reducible apply rd_1B)
local macro_rules | `(tactic| row_room_at rdex) => `(tactic| with_reducible refine rd_dgetS (by with_unfolding_all row_room_at hp) (by with_unfolding_all assumption) ?_)
local macro_rules | `(tactic| row_room_at rdex) => `(tactic| with_reducible refine rd_dget' (by with_unfolding_all row_room_at hp) (by with_unfolding_all rfl) (by with_unfolding_all assumption) ?_)
local macro_rules | `(tactic| row_room_at rdex) => `(tactic| with_reducible refine rd_len (by with_unfolding_all first | exact .inl (by row_room_at hp) | exact .inr (by row_room_at hp)) ?_)
local macro_rules | `(tactic| row_room_at rdex) => `(tactic| with_reducible refine rd_lenQ (by with_unfolding_all first | exact .inl (by row_room_at hp) | exact .inr (by row_room_at hp)) ?_)
local macro_rules | `(tactic| row_room_at rdex) => `(tactic| with_reducible apply rd_2I)
local macro_rules | `(tactic| row_room_at rdex) => `(tactic| with_reducible refine rd_b62 (by with_unfolding_all first | decide | (constructor <;> omega)) ?_)
local macro_rules | `(tactic| row_room_at rdex) => `(tactic| with_reducible refine rd_lenS (by with_unfolding_all omega) ?_)
local macro_rules | `(tactic| row_room_at rdex) => `(tactic| with_reducible apply rd_1I)
local macro_rules | `(tactic| row_room_at rdex) => `(tactic| with_reducible apply rd_int1)
local macro_rules | `(tactic| row_room_at rdex) => `(tactic| with_reducible apply rd_iv)
local macro_rules | `(tactic| row_room_at rdex) => `(tactic| with_reducible refine rd_sz (by with_unfolding_all first | decide | (simp only [List.length_append, List.length_map, List.length_cons, List.length_nil, List.length_take]; omega)) ?_)
local macro_rules | `(tactic| row_room_at rdex) => `(tactic| with_reducible apply rd_bl)
local macro_rules | `(tactic| row_room_at rdhd) => `(tactic| with_reducible apply rd_m1)
local macro_rules | `(tactic| row_room_at rdhd) => `(tactic| with_reducible apply rd_fld)
local macro_rules | `(tactic| row_room_at rdhd) => `(tactic| with_reducible refine rd_append (by with_unfolding_all row_room_at hp) (by with_unfolding_all first | decide | (simp only [List.length_append, List.length_map, List.length_cons, List.length_nil]; omega)) ?_)
local macro_rules | `(tactic| row_room_at rdhd) => `(tactic| with_reducible apply rd_bm)
local macro_rules | `(tactic| row_room_at rdhd) => `(tactic| with_reducible apply rd_yes)
local macro_rules | `(tactic| row_room_at rdhd) => `(tactic| with_reducible apply rd_lc)
local macro_rules | `(tactic| row_room_at rdhd) => `(tactic| with_reducible apply rd_itup)
local macro_rules | `(tactic| row_room_at rdhd) => `(tactic| with_reducible apply rd_ilist)
local macro_rules | `(tactic| row_room_at rdhd) => `(tactic| with_reducible refine rd_dictK (by with_unfolding_all row_room_at hp) ?_)
local macro_rules | `(tactic| row_room_at rdhd) => `(tactic| with_reducible refine rd_lenK (by with_unfolding_all first | exact .inl (by row_room_at hp) | exact .inr (by row_room_at hp)) ?_)
local macro_rules | `(tactic| row_room_at rdhd) => `(tactic| with_reducible apply rd_methI)
local macro_rules | `(tactic| row_room_at rdhd) => `(tactic| with_reducible apply rd_dget)
local macro_rules | `(tactic| row_room_at rdhd) => `(tactic| with_reducible apply rd_if)
local macro_rules | `(tactic| row_room_at rdhd) => `(tactic| with_reducible apply rd_notV)
local macro_rules | `(tactic| row_room_at rdhd) => `(tactic| with_reducible apply rd_orV)
local macro_rules | `(tactic| row_room_at rdhd) => `(tactic| with_reducible apply rd_andV)
local macro_rules | `(tactic| row_room_at rdhd) => `(tactic| with_reducible apply rd_U)
local macro_rules | `(tactic| row_room_at rdhd) => `(tactic| with_reducible apply rd_un)
local macro_rules | `(tactic| row_room_at rdhd) => `(tactic| with_reducible refine rd_cat (by with_unfolding_all row_room_at hp) (by with_unfolding_all row_room_at hp) (by with_unfolding_all first | decide | (simp only [List.length_append, List.length_map, List.length_cons, List.length_nil, List.length_take]; omega)) ?_)
local macro_rules | `(tactic| row_room_at rdhd) => `(tactic| with_reducible refine rd_slL (by with_unfolding_all row_room_at hp) ?_)
local macro_rules | `(tactic| row_room_at rdhd) => `(tactic| with_reducible apply rd_nopart)
local macro_rules | `(tactic| row_room_at rdhd) => `(tactic| with_reducible apply rd_make)
local macro_rules | `(tactic| row_room_at rdhd) => `(tactic| with_reducible apply rd_kt)
local macro_rules | `(tactic| row_room_at rdhd) => `(tactic| with_reducible apply rd_rng1)
local macro_rules | `(tactic| row_room_at rdhd) => `(tactic| with_reducible refine rd_ne (by with_unfolding_all rfl) ?_)
local macro_rules | `(tactic| row_room_at rdhd) => `(tactic| with_reducible apply rd_and)
local macro_rules | `(tactic| row_room_at rdhd) => `(tactic| with_reducible apply rd_B)
local macro_rules | `(tactic| row_room_at rdhd) => `(tactic| with_reducible apply rd_not)
local macro_rules | `(tactic| row_room_at rdhd) => `(tactic| with_reducible refine rd_ixL (by with_unfolding_all row_room_at hp) (by with_unfolding_all row_room_at ati) ?_)
local macro_rules | `(tactic| row_room_at rdhd) => `(tactic| with_reducible apply rd_gNil)
local macro_rules | `(tactic| row_room_at rdhd) => `(tactic| with_reducible refine rd_gTup (by with_unfolding_all (apply SqT.of; row_room_at hp)) (by with_unfolding_all rfl) ?_)
local macro_rules | `(tactic| row_room_at rdhd) => `(tactic| with_reducible apply rd_sl)
local macro_rules | `(tactic| row_room_at rdhd) => `(tactic| with_reducible refine rd_I (by with_unfolding_all row_room_at cc) ?_)
local macro_rules | `(tactic| row_room_at rdhd) => `(tactic| with_reducible apply rd_or)
local macro_rules | `(tactic| row_room_at rdhd) => `(tactic| with_reducible apply rd_lst)
local macro_rules | `(tactic| row_room_at rdhd) => `(tactic| with_reducible apply rd_gCons)
local macro_rules | `(tactic| row_room_at rdhd) => `(tactic| with_reducible apply rd_part)
local macro_rules | `(tactic| row_room_at rdhd) => `(tactic| with_reducible apply rd_tup)
local macro_rules | `(tactic| row_room_at rdhd) => `(tactic| with_reducible apply rd_I0)
local macro_rules | `(tactic| row_room_at rdhd) => `(tactic| with_reducible apply rd_CB)
local macro_rules | `(tactic| row_room_at rdhd) => `(tactic| with_reducible refine rd_ixT (by with_unfolding_all row_room_at hp) (by with_unfolding_all row_room_at ati) ?_)
local macro_rules | `(tactic| row_room_at rdhd) => `(tactic| with_reducible refine rd_eq (by with_unfolding_all rfl) ?_)
local macro_rules | `(tactic| row_room_at rdhd) => `(tactic| with_reducible apply rd_call)
local macro_rules | `(tactic| row_room_at rdhd) => `(tactic| with_reducible apply rd_gName)
local macro_rules | `(tactic| row_room_at rdhd) => `(tactic| with_reducible apply rd_test)
local macro_rules | `(tactic| row_room_at rdhd) => `(tactic| with_reducible apply rd_cons)
local macro_rules | `(tactic| row_room_at rdhd) => `(tactic| with_reducible apply rd_consC)
local macro_rules | `(tactic| row_room_at rdhd) => `(tactic| with_reducible refine rd_consV (by with_unfolding_all rfl) ?_)
local macro_rules | `(tactic| row_room_at rdhd) => `(tactic| with_reducible apply rd_nil)
local macro_rules | `(tactic| row_room_at rdhd) => `(tactic| with_reducible apply rd_c)
local macro_rules | `(tactic| row_room_at rdhd) => `(tactic| with_reducible refine rd_var (by with_unfolding_all rfl) ?_)
local macro_rules | `(tactic| row_room_at rdhd) => `(tactic| with_reducible apply rd_op)
local macro_rules | `(tactic| row_room_at rdsz) => `(tactic| with_reducible refine rd_sz (by with_unfolding_all first | decide | (simp only [List.length_append, List.length_map, List.length_cons, List.length_nil, List.length_take]; omega)) ?_)
local macro_rules | `(tactic| row_room_at rd1) => `(tactic| with_reducible refine rd_unN (by with_reducible assumption) ?_)
local macro_rules | `(tactic| row_room_at rd1) => `(tactic| ((fail_if_success with_reducible apply g_sp); (fail_if_success with_reducible apply g_ite); row_room_at rdex))
local macro_rules | `(tactic| row_room_at rd1) => `(tactic| ((fail_if_success with_reducible apply g_sp); (fail_if_success with_reducible intro _); row_room_at rdhd))
local macro_rules | `(tactic| row_room_at rd1) => `(tactic| row_room_at rdsz)
local macro_rules | `(tactic| row_room_at rd1) => `(tactic| ((with_reducible apply g_ex); row_room_at rdex))
local macro_rules | `(tactic| row_room_at rd1) => `(tactic| ((with_reducible apply g_ite); row_room_at rdit))
local macro_rules | `(tactic| row_room_at rd1) => `(tactic| ((with_reducible apply g_ts); row_room_at rdts))
local macro_rules | `(tactic| row_room_at rd) => `(tactic| repeat row_room_at rd1)
/-! ### number_at -/
theorem runE_all {P : Nat → Bool} {L : List Nat} : ∀ {k p i : Nat}, p ≤ i → i < runE P L k p → ∃ c, L[i]? = some c ∧ P c = true
  | 0, p, i, h1, h2 => absurd h2 (by show ¬ i < p; omega)
  | k + 1, p, i, h1, h2 => by
    unfold runE at h2
    split at h2
    · rename_i c hc
      split at h2
      · rename_i hp
        rcases Nat.lt_or_ge p i with l | l
        · exact runE_all l h2
        · have : i = p := by omega
          subst this
          exact ⟨c, hc, hp⟩
      · omega
    · omega
theorem subL_mem {L : List Nat} {a b c : Nat} (h : c ∈ subL L a b) : ∃ i, a ≤ i ∧ i < b ∧ L[i]? = some c := by
  unfold subL at h
  obtain ⟨j, hj⟩ := List.getElem?_of_mem h
  rw [List.getElem?_take] at hj
  split at hj
  · rename_i l
    rw [List.getElem?_drop] at hj
    exact ⟨a + j, by omega, by omega, hj⟩
  · cases hj
theorem subL_len {L : List Nat} {a b : Nat} (h : b ≤ L.length) : (subL L a b).length = b - a := by
  unfold subL
  rw [List.length_take, List.length_drop]
  omega
theorem tl_mk (l : List Nat) : TL.tl (mk l) = l := rfl
theorem numE_ok {L : List Nat} {p c : Nat} (hc : L[p]? = some c) (hd : isD c = true) : p + 1 ≤ numE L p ∧ numE L p ≤ p + 30 ∧ numE L p ≤ L.length ∧ ∀ d ∈ subL L p (numE L p), isD d = true := by
  obtain ⟨hp, _⟩ := List.getElem?_eq_some_iff.mp hc
  unfold numE
  split
  · rename_i h
    refine ⟨Nat.le_refl _, by omega, by omega, fun d hd' => ?_⟩
    obtain ⟨i, h1, h2, h3⟩ := subL_mem hd'
    have : i = p := by omega
    subst this
    rw [hc] at h3
    injection h3 with h3
    rw [← h3]; exact hd
  · have h1 := @runE_le isD L 29 (p + 1)
    have h2 := @runE_len isD L 29 (p + 1) (by omega)
    refine ⟨by omega, by omega, h2, fun d hd' => ?_⟩
    obtain ⟨i, g1, g2, g3⟩ := subL_mem hd'
    rcases Nat.lt_or_ge p i with l | l
    · obtain ⟨c', h4, h5⟩ := runE_all l g2
      rw [g3] at h4
      injection h4 with h4
      rw [h4]; exact h5
    · have : i = p := by omega
      subst this
      rw [hc] at g3
      injection g3 with g3
      rw [← g3]; exact hd
theorem isD_digits {l : List Nat} (h : ∀ d ∈ l, isD d = true) : NumText.AllDigits l := fun d hd => by
  have := h d hd
  unfold isD at this
  simp only [Bool.and_eq_true, decide_eq_true_eq] at this
  exact ⟨this.1, by omega⟩
theorem intText_sub {l : List Nat} (h : ∀ d ∈ l, isD d = true) (ne : l ≠ []) (hl : l.length ≤ 30) : PySem.intText? (mk l) = some ((NumText.digitsVal l : Nat) : Int) ∧ NumText.digitsVal l < 10 ^ 30 := by
  have ad := isD_digits h
  refine ⟨?_, Nat.lt_of_lt_of_le (digitsVal_lt l ad) (Nat.pow_le_pow_right (by decide) hl)⟩
  have lm : (mk l).length = l.length := mk_len l
  rw [PySem.intText_digits (x := mk l) ad ne (by rw [lm]; omega)]
  rfl
theorem DIG_isD (c : Nat) : decide (c ∈ (Str.ofString "0123456789").cps.toList) = isD c := by
  have e : (Str.ofString "0123456789").cps.toList = (List.range 10).map (48 + ·) := by decide +kernel
  rw [e, Bool.eq_iff_iff, decide_eq_true_iff]
  unfold isD
  rw [Bool.and_eq_true, decide_eq_true_iff, decide_eq_true_iff, List.mem_map]
  constructor
  · rintro ⟨i, hi, rfl⟩
    have := List.mem_range.mp hi
    omega
  · rintro ⟨h1, h2⟩
    exact ⟨c - 48, List.mem_range.mpr (by omega), by omega⟩
theorem runE_cap {P : Nat → Bool} {L : List Nat} : ∀ {k p : Nat}, runE P L k p = runE P L (min k (L.length - p)) p
  | 0, p => by rw [Nat.zero_min]
  | k + 1, p => by
    rcases Nat.lt_or_ge p L.length with l | l
    · rw [show min (k + 1) (L.length - p) = min k (L.length - (p + 1)) + 1 by omega]
      unfold runE
      rw [List.getElem?_eq_getElem l]
      show (if P L[p] = true then runE P L k (p + 1) else p) = (if P L[p] = true then runE P L (min k (L.length - (p + 1))) (p + 1) else p)
      rw [← runE_cap]
    · rw [show min (k + 1) (L.length - p) = 0 by omega]
      unfold runE
      rw [List.getElem?_eq_none_iff.mpr l]
theorem runE_step {P : Nat → Bool} {L : List Nat} {k p c : Nat} (h : L[p]? = some c) : runE P L (k + 1) p = if P c = true then runE P L k (p + 1) else p := by
  show (match L[p]? with
    | some c => if P c = true then runE P L k (p + 1) else p
    | none => p) = _
  rw [h]
def spNumAt : Sp := fun vs H Q _ => ∃ (z : Str) (p c : Nat), vs = [.str z, .int p] ∧ z.length ≤ 300000 ∧ (TL.tl z)[p]? = some c ∧ isD c = true ∧
  ∀ t u H', numE (TL.tl z) p ≤ z.length → Same H H' → H' t = some (.tup [.str "number", .int (pNum (TL.tl z) p).1]) → H' u = some (.tup [.ref t, .int (numE (TL.tl z) p)]) → 0 ≤ (pNum (TL.tl z) p).1 → (pNum (TL.tl z) p).1 < 10 ^ 30 → Q (.ref u) H'
theorem sc_number_at : FnScope ["text", "at", "end", "most"] ["text", "at"] (defScope s_number_at) := ⟨rfl, rfl, rfl, by decide +kernel, rfl, by decide +kernel, by decide +kernel⟩
theorem ok_number_at (T : Txt K mg) : Cal P w K mg base CX0 (2) (ga K "number_at") ["text", "at"] spNumAt := by
  obtain ⟨fd, F⟩ := T.f_number_at
  refine ⟨fd, ?_, F.kp, F.bindsN fun _ _ _ _ _ _ us hl => match us, hl with | [_, _], _ => rfl⟩
  refine F.ok sc_number_at (fun vs H Q E h => ?_) (fun cdv A outer s H vs Q E hr h => ?_)
  · obtain ⟨_, _, _, rfl, _⟩ := h
    rfl
  have nod := sc_number_at.nd
  have hu := hu_of hr
  refine ⟨_, PSs.nox (pss_cons (ps_set (i := 2) nod rfl (Or.inl rfl) (pe_op op_add (pv 1) pe_int))
  (pss_cons (ps_set (i := 3) nod rfl (Or.inl rfl) (pe_ifExp (pt_cmpR op_eq (pe_item_str (pv 0) (pv 1) (fun _ _ => rfl)) pe_str (nomark _)) (pv 2) (pe_callB (call_min2 rfl) rfl (T.f "min") (by decide +kernel) (pa_cons (pe_op op_add (pv 1) (pe_gi (n := 30) rfl T.mDig)) (pa_cons (pe_callB call_len_str rfl (T.f "len") (by decide +kernel) (pa_cons (pv 0) pa_nil)) pa_nil)))))
  (pss_cons (ps_while PassesOwn.never (PW.pt (pw_and (pt_cmpR op_lt (pv 2) (pv 3) (nomark _)) (pw_and1 (pt_cmpR op_in_sign (pe_item_str (pv 0) (pv 2) (fun _ _ => rfl)) (pe_gs (n := "0123456789") rfl T.dig) rfl))))
    (pss_one (ps_set (i := 2) nod rfl (Or.inl rfl) (pe_op op_add (pv 2) pe_int))))
  (pss_one (ps_ret (pe_tup (pa_cons (pe_tup (pa_cons pe_str (pa_cons (pe_callTy call_int_str rfl (T.f "int") (by decide +kernel) (pa_cons (pe_slice sl_str (pv 0) (po_some (pv 1)) (po_some (pv 2))) pa_nil)) pa_nil))) (pa_cons (pv 2) pa_nil)))))))), ?_⟩
  obtain ⟨z, p, c, rfl, hz, hc, hd, q⟩ := h
  have lz := TL.len_tl z
  obtain ⟨n1, n2, n3, n4⟩ := numE_ok hc hd
  have hp : p < (TL.tl z).length := (List.getElem?_eq_some_iff.mp hc).1
  have ne : subL (TL.tl z) p (numE (TL.tl z) p) ≠ [] := fun e => by have := subL_len (a := p) n3; rw [e] at this; simp at this; omega
  have it := intText_sub n4 ne (by rw [subL_len n3]; omega)
  row_room_at rd
  refine rd_at p rfl hz hc ?_
  row_room_at rd
  rename_i nx hnx
  have key : ∀ M : Nat, p + 1 ≤ M → M ≤ (TL.tl z).length → numE (TL.tl z) p = runE isD (TL.tl z) (M - (p + 1)) (p + 1) → nx [some (.str z), some (.int p), some (.int ((p : Int) + 1)), some (.int M)] H := fun M m1 m2 m3 => by
    rw [hnx]
    row_room_at rd
    refine ⟨fun m σ H' => ∃ e : Nat, m = M - e ∧ p + 1 ≤ e ∧ e ≤ M ∧ runE isD (TL.tl z) (M - e) e = numE (TL.tl z) p ∧ H' = H ∧ σ = [some (.str z), some (.int p), some (.int e), some (.int M)], ⟨_, p + 1, rfl, Nat.le_refl _, m1, m3.symm, rfl, rfl⟩, ?_⟩
    rintro m σ H1 ⟨e, rfl, h1, h2, h3, rfl, rfl⟩
    row_room_at rd
    by_cases hc' : e < M
    · rw [decide_eq_true (by omega : (e : Int) < (M : Int))]
      row_room_at rd
      obtain ⟨c, hx⟩ : ∃ c, (TL.tl z)[e]? = some c := ⟨_, List.getElem?_eq_getElem (by omega)⟩
      refine rd_at e rfl hz hx ?_
      row_room_at rd
      rw [DIG_isD]
      have st := runE_step (P := isD) (k := M - (e + 1)) hx
      rw [show M - (e + 1) + 1 = M - e by omega, h3] at st
      by_cases il : isD c = true
      · rw [il]
        rw [if_pos il] at st
        refine ite2 (fun _ => ⟨_, fun _ _ h => h, ?_⟩) (fun h => absurd rfl h)
        row_room_at rd
        exact ⟨M - (e + 1), by omega, e + 1, rfl, by omega, by omega, st.symm, rfl, rfl⟩
      · rw [Bool.eq_false_iff.mpr il]
        rw [if_neg il] at st
        obtain rfl : e = numE (TL.tl z) p := st.symm
        row_room_at rd
        refine rd_sub p _ rfl rfl (by omega) hz ?_
        row_room_at rd
        refine ⟨_, _, rfl, it.1, by rw [show (mk (subL (TL.tl z) p (numE (TL.tl z) p))).length = (subL (TL.tl z) p (numE (TL.tl z) p)).length from mk_len _, subL_len n3]; omega, ?_⟩
        row_room_at rd
        refine rd_new fun t H2 ht s2 e2 => ?_
        row_room_at rd
        refine rd_new fun u H3 hu s3 e3 => ?_
        exact q t u H3 (by omega) (s2.trans s3) (s3 _ _ e2) e3 (Int.natCast_nonneg _) (by have := it.2; show ((NumText.digitsVal (subL (TL.tl z) p (numE (TL.tl z) p)) : Nat) : Int) < 10 ^ 30; omega)
    · rw [decide_eq_false (by omega : ¬ (e : Int) < (M : Int))]
      rw [show M - e = 0 by omega] at h3
      obtain rfl : e = numE (TL.tl z) p := h3
      row_room_at rd
      refine rd_sub p _ rfl rfl (by omega) hz ?_
      row_room_at rd
      refine ⟨_, _, rfl, it.1, by rw [show (mk (subL (TL.tl z) p (numE (TL.tl z) p))).length = (subL (TL.tl z) p (numE (TL.tl z) p)).length from mk_len _, subL_len n3]; omega, ?_⟩
      row_room_at rd
      refine rd_new fun t H2 ht s2 e2 => ?_
      row_room_at rd
      refine rd_new fun u H3 hu s3 e3 => ?_
      exact q t u H3 (by omega) (s2.trans s3) (s3 _ _ e2) e3 (Int.natCast_nonneg _) (by have := it.2; show ((NumText.digitsVal (subL (TL.tl z) p (numE (TL.tl z) p)) : Nat) : Int) < 10 ^ 30; omega)
  clear hnx
  have nd : numE (TL.tl z) p = if c = 48 then p + 1 else runE isD (TL.tl z) 29 (p + 1) := by
    unfold numE
    rw [hc]
    by_cases h : c = 48
    · rw [h, if_pos rfl, if_pos rfl]
    · rw [if_neg h, if_neg (fun h' => h (by injection h'))]
  by_cases h48 : c = 48
  · rw [if_pos h48] at nd
    refine ite2 (fun _ => ?_) (fun h => absurd (by rw [h48]; decide +kernel) h)
    row_room_at rd
    have k := key (p + 1) (Nat.le_refl _) (by omega) (by rw [nd, Nat.sub_self]; rfl)
    rw [show ((p + 1 : Nat) : Int) = (p : Int) + 1 by omega] at k
    exact k
  · rw [if_neg h48, runE_cap] at nd
    refine ite2 (fun h => ?_) (fun h => ?_)
    · have h := of_decide_eq_true h
      rw [show Str.ofString "0" = (⟨#[48]⟩ : Str) by decide +kernel] at h
      exact absurd (by simpa using h) h48
    · row_room_at rd
      have k := key (min (p + 30) z.length) (by omega) (by omega) (by rw [nd]; congr 1; omega)
      rw [show ((min (p + 30) z.length : Nat) : Int) = if ((z.length : Nat) : Int) < (p : Int) + 30 then ((z.length : Nat) : Int) else (p : Int) + 30 by split <;> omega] at k
      exact k

end
end KM
set_option Elab.async false
set_option linter.all false
set_option maxRecDepth 100000
set_option maxHeartbeats 8000000
namespace KM
open PySem PySem.Spec PyProof.Rows L2 He Sw L2H
section
variable {P : Program} {w : World} {K : PySem.W.Frag} {mg : Str → Option Value} {base : Heap}
local macro_rules | `(tactic| row_room_at ne) => `(tactic| with_reducible assumption)
local macro_rules | `(tactic| row_room_at hp) => `(tactic| (apply SameBut.use; with_reducible assumption; rotate_left; row_room_at hp; row_room_at ne))
local macro_rules | `(tactic| row_room_at hp) => `(tactic| (apply FoAt.same; rotate_left; with_reducible assumption; row_room_at hp))
local macro_rules | `(tactic| row_room_at hp) => `(tactic| (apply Sw.Same.use; with_reducible assumption; row_room_at hp))
local macro_rules | `(tactic| row_room_at hp) => `(tactic| (apply SqT.of; row_room_at hp))
local macro_rules | `(tactic| row_room_at hp) => `(tactic| (apply SqL.of; row_room_at hp))
local macro_rules | `(tactic| row_room_at hp) => `(tactic| with_reducible assumption)
local macro_rules | `(tactic| row_room_at ati) => `(tactic| first | with_reducible assumption | rfl | (apply atI_nat; rfl))
local macro_rules | `(tactic| row_room_at cc) => `(tactic| first | with_reducible assumption | omega | decide | (refine ⟨?_, ?_⟩ <;> first | decide | omega) | (refine ⟨?_, ?_, ?_⟩ <;> first | decide | omega) | (left; refine ⟨?_, ?_⟩ <;> first | decide | omega) | (right; refine ⟨?_, ?_⟩ <;> first | decide | omega))
local macro_rules | `(tactic| row_room_at rdts) => `(tactic| with_reducible apply rd_retN)
local macro_rules | `(tactic| row_room_at rdts) => `(tactic| with_reducible apply rd_cont)
local macro_rules | `(tactic| row_room_at rdts) => `(tactic| with_reducible apply rd_brk)
local macro_rules | `(tactic| row_room_at rdts) => `(tactic| with_reducible apply rd_dput)
local macro_rules | `(tactic| row_room_at rdts) => `(tactic| with_reducible apply rd_drop)
local macro_rules | `(tactic| row_room_at rdts) => `(tactic| with_reducible apply rd_for)
local macro_rules | `(tactic| row_room_at rdts) => `(tactic| with_reducible apply rd_ret)
local macro_rules | `(tactic| row_room_at rdts) => `(tactic| with_reducible apply rd_next)
local macro_rules | `(tactic| row_room_at rdts) => `(tactic| with_reducible apply rd_ifS)
local macro_rules | `(tactic| row_room_at rdts) => `(tactic| with_reducible apply rd_asg)
local macro_rules | `(tactic| row_room_at rdts) => `(tactic| with_reducible refine rd_seqN fun _ _ => ?_)
local macro_rules | `(tactic| row_room_at rdit) => `(tactic| with_reducible refine rd_iteNF (by with_unfolding_all decide +kernel) ?_)
local macro_rules | `(tactic| row_room_at rdit) => `(tactic| with_reducible refine rd_iteNT (by with_unfolding_all decide +kernel) ?_)
local macro_rules | `(tactic| row_room_at rdit) => `(tactic| with_reducible apply rd_iteN0)
local macro_rules | `(tactic| row_room_at rdit) => `(tactic| with_reducible apply rd_iteN1)
local macro_rules | `(tactic| row_room_at rdit) => `(tactic| with_reducible apply rd_ite1)
local macro_rules | `(tactic| row_room_at rdit) => `(tactic| with_reducible apply rd_ite0)
local macro_rules | `(tactic| row_room_at rdit) => `(tactic| with_reducible refine rd_iteT (by with_unfolding_all decide +kernel) ?_)
local macro_rules | `(tactic| row_room_at rdit) => `(tactic| with_reducible refine rd_iteF (by with_unfolding_all decide +kernel) ?_)
local macro_rules | `(tactic| row_room_at rdex) => `(tactic| with_reducible apply rd_inS)
local macro_rules | `(tactic| row_room_at rdex) => `(tactic| with_reducible apply rd_min2)
local macro_rules | `(tactic| row_room_at rdex) => `(tactic| with_reducible apply rd_1S)
local macro_rules | `(tactic| row_room_at rdex) => `(tactic| with_reducible apply rd_2S)
local macro_rules | `(tactic| row_room_at rdex) => `(tactic| with_reducible refine rd_fld' (by with_unfolding_all row_room_at hp) (by with_unfolding_all assumption) (by with_unfolding_all assumption) (by with_unfolding_all rfl) ?_)
local macro_rules | `(tactic| row_room_at rdex) => `(tactic| with_reducible refine rd_ty (by with_unfolding_all row_room_at hp) ?_)
local macro_rules | `(tactic| row_room_at rdex) => `(tactic| with_reducible refine rd_itup' (by with_unfolding_all row_room_at hp) ?_)
local macro_rules | `(tactic| row_room_at rdex) => `(tactic| with_reducible refine rd_ilist' (by with_unfolding_all row_room_at hp) ?_)
local macro_rules | `(tactic| row_room_at rdex) => `(tactic| with_reducible apply rd_1B)
local macro_rules | `(tactic| row_room_at rdex) => `(tactic| with_reducible refine rd_dgetS (by with_unfolding_all row_room_at hp) (by with_unfolding_all assumption) ?_)
local macro_rules | `(tactic| row_room_at rdex) => `(tactic| with_reducible refine rd_dget' (by with_unfolding_all row_room_at hp) (by with_unfolding_all rfl) (by with_unfolding_all assumption) ?_)
local macro_rules | `(tactic| row_room_at rdex) => `(tactic| with_reducible refine rd_len (by with_unfolding_all first | exact .inl (by row_room_at hp) | exact .inr (by row_room_at hp)) ?_)
local macro_rules | `(tactic| row_room_at rdex) => `(tactic| with_reducible refine rd_lenQ (by with_unfolding_all first | exact .inl (by row_room_at hp) | exact .inr (by row_room_at hp)) ?_)
local macro_rules | `(tactic| row_room_at rdex) => `(tactic| with_reducible apply rd_2I)
local macro_rules | `(tactic| row_room_at rdex) => `(tactic| with_reducible refine rd_b62 (by with_unfolding_all first | decide | (constructor <;> omega)) ?_)
local macro_rules | `(tactic| row_room_at rdex) => `(tactic| with_reducible refine rd_lenS (by with_unfolding_all omega) ?_)
local macro_rules | `(tactic| row_room_at rdex) => `(tactic| with_reducible apply rd_1I)
local macro_rules | `(tactic| row_room_at rdex) => `(tactic| with_reducible apply rd_int1)
local macro_rules | `(tactic| row_room_at rdex) => `(tactic| with_reducible apply rd_iv)
local macro_rules | `(tactic| row_room_at rdex) => `(tactic| with_reducible refine rd_sz (by with_unfolding_all first | decide | (simp only [List.length_append, List.length_map, List.length_cons, List.length_nil, List.length_take]; omega)) ?_)
local macro_rules | `(tactic| row_room_at rdex) => `(tactic| with_reducible apply rd_bl)
local macro_rules | `(tactic| row_room_at rdhd) => `(tactic| with_reducible apply rd_m1)
local macro_rules | `(tactic| row_room_at rdhd) => `(tactic| with_reducible apply rd_fld)
local macro_rules | `(tactic| row_room_at rdhd) => `(tactic| with_reducible refine rd_append (by with_unfolding_all row_room_at hp) (by with_unfolding_all first | decide | (simp only [List.length_append, List.length_map, List.length_cons, List.length_nil]; omega)) ?_)
local macro_rules | `(tactic| row_room_at rdhd) => `(tactic| with_reducible apply rd_bm)
local macro_rules | `(tactic| row_room_at rdhd) => `(tactic| with_reducible apply rd_yes)
local macro_rules | `(tactic| row_room_at rdhd) => `(tactic| with_reducible apply rd_lc)
local macro_rules | `(tactic| row_room_at rdhd) => `(tactic| with_reducible apply rd_itup)
local macro_rules | `(tactic| row_room_at rdhd) => `(tactic| with_reducible apply rd_ilist)
local macro_rules | `(tactic| row_room_at rdhd) => `(tactic| with_reducible refine rd_dictK (by with_unfolding_all row_room_at hp) ?_)
local macro_rules | `(tactic| row_room_at rdhd) => `(tactic| with_reducible refine rd_lenK (by with_unfolding_all first | exact .inl (by row_room_at hp) | exact .inr (by row_room_at hp)) ?_)
local macro_rules | `(tactic| row_room_at rdhd) => `(tactic| with_reducible apply rd_methI)
local macro_rules | `(tactic| row_room_at rdhd) => `(tactic| with_reducible apply rd_dget)
local macro_rules | `(tactic| row_room_at rdhd) => `(tactic| with_reducible apply rd_if)
local macro_rules | `(tactic| row_room_at rdhd) => `(tactic| with_reducible apply rd_notV)
local macro_rules | `(tactic| row_room_at rdhd) => `(tactic| with_reducible apply rd_orV)
local macro_rules | `(tactic| row_room_at rdhd) => `(tactic| with_reducible apply rd_andV)
local macro_rules | `(tactic| row_room_at rdhd) => `(tactic| with_reducible apply rd_U)
local macro_rules | `(tactic| row_room_at rdhd) => `(tactic| with_reducible apply rd_un)
local macro_rules | `(tactic| row_room_at rdhd) => `(tactic| with_reducible refine rd_cat (by with_unfolding_all row_room_at hp) (by with_unfolding_all row_room_at hp) (by with_unfolding_all first | decide | (simp only [List.length_append, List.length_map, List.length_cons, List.length_nil, List.length_take]; omega)) ?_)
local macro_rules | `(tactic| row_room_at rdhd) => `(tactic| with_reducible refine rd_slL (by with_unfolding_all row_room_at hp) ?_)
local macro_rules | `(tactic| row_room_at rdhd) => `(tactic| with_reducible apply rd_nopart)
local macro_rules | `(tactic| row_room_at rdhd) => `(tactic| with_reducible apply rd_make)
local macro_rules | `(tactic| row_room_at rdhd) => `(tactic| with_reducible apply rd_kt)
local macro_rules | `(tactic| row_room_at rdhd) => `(tactic| with_reducible apply rd_rng1)
local macro_rules | `(tactic| row_room_at rdhd) => `(tactic| with_reducible refine rd_ne (by with_unfolding_all rfl) ?_)
local macro_rules | `(tactic| row_room_at rdhd) => `(tactic| with_reducible apply rd_and)
local macro_rules | `(tactic| row_room_at rdhd) => `(tactic| with_reducible apply rd_B)
local macro_rules | `(tactic| row_room_at rdhd) => `(tactic| with_reducible apply rd_not)
local macro_rules | `(tactic| row_room_at rdhd) => `(tactic| with_reducible refine rd_ixL (by with_unfolding_all row_room_at hp) (by with_unfolding_all row_room_at ati) ?_)
local macro_rules | `(tactic| row_room_at rdhd) => `(tactic| with_reducible apply rd_gNil)
local macro_rules | `(tactic| row_room_at rdhd) => `(tactic| with_reducible refine rd_gTup (by with_unfolding_all (apply SqT.of; row_room_at hp)) (by with_unfolding_all rfl) ?_)
local macro_rules | `(tactic| row_room_at rdhd) => `(tactic| with_reducible apply rd_sl)
local macro_rules | `(tactic| row_room_at rdhd) => `(tactic| with_reducible refine rd_I (by with_unfolding_all row_room_at cc) ?_)
local macro_rules | `(tactic| row_room_at rdhd) => `(tactic| with_reducible apply rd_or)
local macro_rules | `(tactic| row_room_at rdhd) => `(tactic| with_reducible apply rd_lst)
local macro_rules | `(tactic| row_room_at rdhd) => `(tactic| with_reducible apply rd_gCons)
local macro_rules | `(tactic| row_room_at rdhd) => `(tactic| with_reducible apply rd_part)
local macro_rules | `(tactic| row_room_at rdhd) => `(tactic| with_reducible apply rd_tup)
local macro_rules | `(tactic| row_room_at rdhd) => `(tactic| with_reducible apply rd_I0)
local macro_rules | `(tactic| row_room_at rdhd) => `(tactic| with_reducible apply rd_CB)
local macro_rules | `(tactic| row_room_at rdhd) => `(tactic| with_reducible refine rd_ixT (by with_unfolding_all row_room_at hp) (by with_unfolding_all row_room_at ati) ?_)
local macro_rules | `(tactic| row_room_at rdhd) => `(tactic| with_reducible refine rd_eq (by with_unfolding_all rfl) ?_)
local macro_rules | `(tactic| row_room_at rdhd) => `(tactic| with_reducible apply rd_call)
local macro_rules | `(tactic| row_room_at rdhd) => `(tactic| with_reducible apply rd_gName)
local macro_rules | `(tactic| row_room_at rdhd) => `(tactic| with_reducible apply rd_test)
local macro_rules | `(tactic| row_room_at rdhd) => `(tactic| with_reducible apply rd_cons)
local macro_rules | `(tactic| row_room_at rdhd) => `(tactic| with_reducible apply rd_consC)
local macro_rules | `(tactic| row_room_at rdhd) => `(tactic| with_reducible refine rd_consV (by with_unfolding_all rfl) ?_)
local macro_rules | `(tactic| row_room_at rdhd) => `(tactic| with_reducible apply rd_nil)
local macro_rules | `(tactic| row_room_at rdhd) => `(tactic| with_reducible apply rd_c)
local macro_rules | `(tactic| row_room_at rdhd) => `(tactic| with_reducible refine rd_var (by with_unfolding_all rfl) ?_)
local macro_rules | `(tactic| row_room_at rdhd) => `(tactic| with_reducible apply rd_op)
local macro_rules | `(tactic| row_room_at rdsz) => `(tactic| with_reducible refine rd_sz (by with_unfolding_all first | decide | (simp only [List.length_append, List.length_map, List.length_cons, List.length_nil, List.length_take]; omega)) ?_)
local macro_rules | `(tactic| row_room_at rd1) => `(tactic| with_reducible refine rd_unN (by with_reducible assumption) ?_)
local macro_rules | `(tactic| row_room_at rd1) => `(tactic| ((fail_if_success with_reducible apply g_sp); (fail_if_success with_reducible apply g_ite); row_room_at rdex))
local macro_rules | `(tactic| row_room_at rd1) => `(tactic| ((fail_if_success with_reducible apply g_sp); (fail_if_success with_reducible intro _); row_room_at rdhd))
local macro_rules | `(tactic| row_room_at rd1) => `(tactic| row_room_at rdsz)
local macro_rules | `(tactic| row_room_at rd1) => `(tactic| ((with_reducible apply g_ex); row_room_at rdex))
local macro_rules | `(tactic| row_room_at rd1) => `(tactic| ((with_reducible apply g_ite); row_room_at rdit))
local macro_rules | `(tactic| row_room_at rd1) => `(tactic| ((with_reducible apply g_ts); row_room_at rdts))
local macro_rules | `(tactic| row_room_at rd) => `(tactic| repeat row_room_at rd1)
/-! ### bound_at, shift_at -/
def LfG (H H' : Hp) (b : Fo) (v : V) : Prop := b.leaf ∧ b.Ok ∧ ∃ t, v = .ref t ∧ TrW H H' b t
theorem scE_bound_at : FnScope ["text", "at"] ["text", "at"] (defScope s_bound_at) := ⟨rfl, rfl, rfl, by decide +kernel, rfl, by decide +kernel, by decide +kernel⟩
theorem okE_bound_at (T : Txt K mg) : Cal P w K mg base (L2N.CX P w) (8) (ga K "bound_at") ["text", "at"] (spRd K pLeaf LfG) := by
  obtain ⟨fd, F⟩ := T.f_bound_at
  refine ⟨fd, ?_, F.kp, F.bindsN fun _ _ _ _ _ _ us hl => match us, hl with | [_, _], _ => rfl⟩
  refine F.ok scE_bound_at (fun vs H Q E h => ?_) (fun cdv A outer s H vs Q E hr h => ?_)
  · obtain ⟨_, _, rfl, _⟩ := h
    rfl
  have nod := scE_bound_at.nd
  have hu := hu_of hr
  refine ⟨_, (pss_cons (ps_if (PW.pt (pw_and (pt_cmpR op_ne (pe_slice sl_str (pv 0) (po_some (pv 1)) (po_some (pe_op op_add (pv 1) pe_int))) pe_str (nomark _)) (pw_and1 (pt_cmpR op_in_sign (pe_item_str (pv 0) (pv 1) (fun _ _ => rfl)) (pe_gs (n := "0123456789") rfl T.dig) rfl))))
    (pss_one (ps_ret (pe_callC (ok_number_at T) (hr.mono (by omega)) rfl (T.g "number_at") pass0 (pa_cons (pv 0) (pa_cons (pv 1) pa_nil)))))
    pss_nil)
  (pss_one (ps_ret (pe_callC (E := E) (okE_name_at T) (hr.mono (by omega)) rfl (T.g "name_at") (L2N.passes_call (E := E) (L2N.takes_of rfl rfl rfl rfl) (fun _ _ _ _ h => h)) (pa_cons (pv 0) (pa_cons (pv 1) pa_nil)))))), ?_⟩
  obtain ⟨z, p, rfl, hp, hz, q, r⟩ := h
  have lz := TL.len_tl z
  have nm : (((TL.tl z)[p]?.map isD).getD false) = false → spRd K pName NmG [.str z, .int p] H Q E := fun h0 => by
    have pl : pLeaf (TL.tl z) p = match pName (TL.tl z) p with
      | .ok (z, e) => .ok (.nam z, e)
      | .error e => .error e := by unfold pLeaf; rw [if_neg (by rw [h0]; decide)] <;> rfl
    refine ⟨z, p, rfl, hp, hz, fun w e u v H' hF he s' eu ⟨g, l8, t, ev, et⟩ => ?_, fun q' hF => r q' (by rw [pl, hF])⟩
    exact q (.nam w) e u v H' (by rw [pl, hF]) he s' eu ⟨trivial, ⟨g, by omega⟩, t, ev, by simp only [TrW]; exact et⟩
  row_room_at rd
  refine rd_one p rfl rfl hz ?_
  row_room_at rd
  cases hc : (TL.tl z)[p]? with
  | none =>
    rw [ch_none hc, decide_eq_true (show V.str (⟨#[]⟩ : Str) = V.str (Str.ofString "") from congrArg V.str (by decide +kernel))]
    row_room_at rd
    exact nm (by rw [hc]; rfl)
  | some c =>
    rw [ch_some hc, decide_eq_false (show ¬ V.str (⟨#[c]⟩ : Str) = V.str (Str.ofString "") from fun h => by
      injection h with h
      have := congrArg Str.length h
      rw [show (Str.ofString "").length = 0 by decide +kernel] at this
      cases this)]
    row_room_at rd
    refine rd_at p rfl hz hc ?_
    row_room_at rd
    rw [DIG_isD]
    cases il : isD c with
    | false =>
      row_room_at rd
      exact nm (by rw [hc]; exact il)
    | true =>
      row_room_at rd
      have pl : pLeaf (TL.tl z) p = .ok (.num (pNum (TL.tl z) p).1, (pNum (TL.tl z) p).2) := by unfold pLeaf; rw [if_pos (by rw [hc]; exact il)]
      refine ⟨z, p, c, rfl, hz, hc, il, fun t u H' hl s' et eu n0 n1 => ?_⟩
      exact q _ _ u (.ref t) H' pl hl s' eu ⟨trivial, ⟨n0, n1⟩, t, rfl, by simp only [TrW]; exact et⟩
def shL : List (List Nat) := (List.range 65).map TL.numL
def shS : List Str := (List.range 65).map fun n : Nat => Str.ofString (toString (n : Int))
theorem mk_inj' {l l' : List Nat} (h : mk l = mk l') : l = l' := congrArg TL.tl h
theorem shS_eq : shS = shL.map mk := by
  unfold shS shL
  rw [List.map_map]
  exact List.map_congr_left fun n _ => by
    show _ = mk (TL.numL n)
    rw [← TL.tl_num n]
    exact (TL.mk_tl _).symm
theorem shS_mem (l : List Nat) : decide (mk l ∈ shS) = decide (l ∈ shL) := by
  rw [Bool.eq_iff_iff, decide_eq_true_iff, decide_eq_true_iff, shS_eq, List.mem_map]
  exact ⟨fun ⟨a, h, e⟩ => by rw [← mk_inj' e]; exact h, fun h => ⟨l, h, rfl⟩⟩
theorem shL_len {l : List Nat} (h : l ∈ shL) : l.length = 1 ∨ l.length = 2 := by
  obtain ⟨n, hn, rfl⟩ := List.mem_map.mp h
  exact (sh_facts ⟨n, List.mem_range.mp hn⟩).2.2.2
theorem shL_dig {l : List Nat} (h : l ∈ shL) : (∀ d ∈ l, isD d = true) ∧ NumText.digitsVal l ≤ 64 := by
  obtain ⟨n, hn, rfl⟩ := List.mem_map.mp h
  have := List.mem_range.mp hn
  exact ⟨numL_isD n, by rw [TL.numL_val]; omega⟩
def ShG (H H' : Hp) (n : Int) (v : V) : Prop := v = .int n ∧ 0 ≤ n ∧ n ≤ 64
theorem scE_shift_at : FnScope ["text", "at", "shifts", "end", "number"] ["text", "at"] (defScope s_shift_at) := ⟨rfl, rfl, rfl, by decide +kernel, rfl, by decide +kernel, by decide +kernel⟩
theorem okE_shift_at (T : Txt K mg) : Cal P w K mg base (L2N.CX P w) (6) (ga K "shift_at") ["text", "at"] (spRd K pShift ShG) := by
  obtain ⟨fd, F⟩ := T.f_shift_at
  obtain ⟨fdB_BadText, GB_BadText, kB_BadText, bB_BadText⟩ := ok_BadText___init__ (P := P) (w := w) (base := base) T
  have TB_BadText := T.err "BadText" (by decide +kernel)
  refine ⟨fd, ?_, F.kp, F.bindsN fun _ _ _ _ _ _ us hl => match us, hl with | [_, _], _ => rfl⟩
  refine F.ok scE_shift_at (fun vs H Q E h => ?_) (fun cdv A outer s H vs Q E hr h => ?_)
  · obtain ⟨_, _, rfl, _⟩ := h
    rfl
  have nod := scE_shift_at.nd
  have hu := hu_of hr
  refine ⟨_, (pss_cons (ps_setLc (i := 2) (own := [("number", 4)]) (te := _) (g := (gName 4)) (tt := tYes) rfl nod rfl rfl (sw_true rfl rfl rfl (by decide +kernel)) (pi_range1 rfl (T.f "range") (pa_cons (pe_op op_add (pe_gi (n := 64) rfl T.mShf) pe_int) pa_nil)) (blkOk_by (N := ["text", "at", "shifts", "end", "number"]) (sc := defScope s_shift_at) (by decide +kernel)) (fun _ _ _ _ _ => (pg_name (i := 4) nod rfl (Or.inl rfl))) (fun _ _ _ _ _ => pts_nil) (fun _ _ _ _ _ => (pe_callTy call_str_int rfl (T.f "str") (by decide +kernel) (pa_cons (pv 4) pa_nil))))
  (pss_cons (ps_set (i := 3) nod rfl (Or.inl rfl) (pv 1))
  (pss_cons (ps_while PassesOwn.leaving (PW.pt (pw_and (pt_cmpR op_lt (pv 3) (pe_callB call_len_str rfl (T.f "len") (by decide +kernel) (pa_cons (pv 0) pa_nil)) (nomark _)) (pw_and1 (pt_cmpR op_in_seq (pe_slice sl_str (pv 0) (po_some (pv 1)) (po_some (pe_op op_add (pv 3) pe_int))) (pv 2) rfl))))
    (pss_one (ps_set (i := 3) nod rfl (Or.inl rfl) (pe_op op_add (pv 3) pe_int))))
  (pss_cons (ps_if (pt_cmpR op_eq (pv 3) (pv 1) (nomark _))
    (pss_one (L2N.ps_raise rfl (L2N.takes_of rfl rfl rfl rfl) (pmkN_oex (x := "BadText") TB_BadText.o TB_BadText.ini TB_BadText.inT GB_BadText (hr.mono (by omega)) bB_BadText .nil pass0 rfl (T.g "BadText") (pa_cons (pv 1) pa_nil))))
    pss_nil)
  (pss_one (ps_ret (pe_tup (pa_cons (pe_callTy call_int_str rfl (T.f "int") (by decide +kernel) (pa_cons (pe_slice sl_str (pv 0) (po_some (pv 1)) (po_some (pv 3))) pa_nil)) (pa_cons (pv 3) pa_nil))))))))), ?_⟩
  obtain ⟨z, p, rfl, hp, hz, q, r⟩ := h
  have lz := TL.len_tl z
  row_room_at rd
  rw [show ((64 : Int) + 1).toNat = 65 by decide]
  refine fun D hD => loop_it (walk_range (lo := 0) (n := 65)) (fun t H' => Same H H' ∧ H' D = some (.lst ((((List.range t).map fun n : Nat => Str.ofString (toString (n : Int)))).map V.str))) ⟨upd_new hD, upd_same⟩ (fun _ _ _ _ => trivial) (fun t x' H1 H1' ht ⟨s1, e1⟩ ⟨hH, hx⟩ => ?_) (fun H1 ⟨s1, e1⟩ => ?_)
  · subst hH hx
    row_room_at rd
    refine ⟨rfl, ?_⟩
    row_room_at rd
    refine ⟨by rw [Int.zero_add]; exact log_small (by omega), _, e1, ?_, fun b o e => ?_, ?_⟩
    · rw [List.length_map, List.length_map, List.length_range, sizeLine_eq]; omega
    · rw [upd_ne (ne_of_none e hD)]; exact s1 _ _ e
    · rw [upd_same, List.range_succ, List.map_append, List.map_append, Int.zero_add]; rfl
  · row_room_at rd
    refine ⟨fun m σ H' => ∃ e : Nat, m = p + 2 - e ∧ p ≤ e ∧ e ≤ p + 2 ∧ e ≤ z.length ∧ (e = p ∨ subL (TL.tl z) p e ∈ shL) ∧ shE (TL.tl z) p (3 - (e - p)) e = shE (TL.tl z) p 3 p ∧ H' = H1 ∧ σ = [some (.str z), some (.int p), some (.ref D), some (.int e), none], ⟨2, p, by omega, Nat.le_refl _, by omega, hp, .inl rfl, by rw [Nat.sub_self], rfl, rfl⟩, ?_⟩
    rintro m σ H2 ⟨e, rfl, h1, h2, h3, h4, h5, rfl, rfl⟩
    have e1 : H2 D = some (.lst (shS.map V.str)) := e1
    have st : shE (TL.tl z) p (3 - (e - p)) e = if e < (TL.tl z).length ∧ subL (TL.tl z) p (e + 1) ∈ shL then shE (TL.tl z) p (2 - (e - p)) (e + 1) else e := by
      rw [show 3 - (e - p) = (2 - (e - p)) + 1 by omega]; rfl
    rw [h5] at st
    row_room_at rd
    by_cases hl : e < z.length
    · rw [decide_eq_true (by omega : (e : Int) < ((z.length : Nat) : Int))]
      row_room_at rd
      refine rd_sub p (e + 1) rfl (by omega) (by omega) hz ?_
      row_room_at rd
      refine ⟨D, _, rfl, .inl (SqL.of e1), rfl, flat_strs _, ?_⟩
      rw [inV_strs, shS_mem]
      row_room_at rd
      by_cases hm : subL (TL.tl z) p (e + 1) ∈ shL
      · rw [decide_eq_true hm]
        rw [if_pos ⟨by omega, hm⟩] at st
        have l2 := shL_len hm
        rw [subL_len (by omega)] at l2
        row_room_at rd
        refine ⟨_, fun _ _ h => h, ?_⟩
        row_room_at rd
        exact ⟨p + 2 - (e + 1), by omega, e + 1, rfl, by omega, by omega, by omega, .inr hm, by rw [show 3 - (e + 1 - p) = 2 - (e - p) by omega]; exact st.symm, rfl, rfl⟩
      · rw [decide_eq_false hm]
        rw [if_neg (fun h => hm h.2)] at st
        row_room_at rd
        refine ite2 (fun h => absurd h (by decide)) (fun _ => ?_)
        row_room_at rd
        by_cases he : e = p
        · rw [he] at st
          refine ite2 (fun _ => ?_) (fun h => absurd (decide_eq_true (by rw [he])) h)
          refine rd_mkO ?_
          row_room_at rd
          exact ⟨by show 1 ≤ 1000; decide, err_made TB_BadText fun H3 d s3 hd hx => r p (by unfold pShift; rw [if_pos st]) H3 d (s1.trans s3) (none_back s1 hd) hx⟩
        · have hm : subL (TL.tl z) p e ∈ shL := h4.resolve_left he
          refine ite2 (fun h => absurd (by have h := of_decide_eq_true h; injection h with h; omega) he) (fun _ => ?_)
          have pf : pShift (TL.tl z) p = .ok ((NumText.digitsVal (subL (TL.tl z) p e) : Nat), e) := by unfold pShift; rw [st, if_neg he]
          obtain ⟨d1, d2⟩ := shL_dig hm
          have l2 := shL_len hm
          have it := intText_sub d1 (fun h => by rw [h] at l2; simp at l2) (by omega)
          row_room_at rd
          refine rd_sub p e rfl rfl h1 hz ?_
          row_room_at rd
          refine ⟨_, _, rfl, it.1, by rw [show (mk (subL (TL.tl z) p e)).length = (subL (TL.tl z) p e).length from mk_len _]; omega, ?_⟩
          row_room_at rd
          refine rd_new fun u H3 hu s3 e3 => ?_
          exact q _ _ u _ H3 pf h3 (s1.trans s3) e3 ⟨rfl, Int.natCast_nonneg _, by omega⟩
    · rw [decide_eq_false (by omega : ¬ (e : Int) < ((z.length : Nat) : Int))]
      rw [if_neg (fun h => hl (by omega))] at st
      row_room_at rd
      by_cases he : e = p
      · rw [he] at st
        refine ite2 (fun _ => ?_) (fun h => absurd (decide_eq_true (by rw [he])) h)
        refine rd_mkO ?_
        row_room_at rd
        exact ⟨by show 1 ≤ 1000; decide, err_made TB_BadText fun H3 d s3 hd hx => r p (by unfold pShift; rw [if_pos st]) H3 d (s1.trans s3) (none_back s1 hd) hx⟩
      · have hm : subL (TL.tl z) p e ∈ shL := h4.resolve_left he
        refine ite2 (fun h => absurd (by have h := of_decide_eq_true h; injection h with h; omega) he) (fun _ => ?_)
        have pf : pShift (TL.tl z) p = .ok ((NumText.digitsVal (subL (TL.tl z) p e) : Nat), e) := by unfold pShift; rw [st, if_neg he]
        obtain ⟨d1, d2⟩ := shL_dig hm
        have l2 := shL_len hm
        have it := intText_sub d1 (fun h => by rw [h] at l2; simp at l2) (by omega)
        row_room_at rd
        refine rd_sub p e rfl rfl h1 hz ?_
        row_room_at rd
        refine ⟨_, _, rfl, it.1, by rw [show (mk (subL (TL.tl z) p e)).length = (subL (TL.tl z) p e).length from mk_len _]; omega, ?_⟩
        row_room_at rd
        refine rd_new fun u H3 hu s3 e3 => ?_
        exact q _ _ u _ H3 pf h3 (s1.trans s3) e3 ⟨rfl, Int.natCast_nonneg _, by omega⟩

end
end KM
set_option Elab.async false
set_option linter.all false
set_option maxRecDepth 100000
set_option maxHeartbeats 8000000
namespace KM
open PySem PySem.Spec PyProof.Rows L2 He Sw L2H
section
variable {P : Program} {w : World} {K : PySem.W.Frag} {mg : Str → Option Value} {base : Heap}
local macro_rules | `(tactic| row_room_at ne) => `(tactic| with_reducible assumption)
local macro_rules | `(tactic| row_room_at hp) => `(tactic| (apply SameBut.use; with_reducible assumption; rotate_left; row_room_at hp; row_room_at ne))
local macro_rules | `(tactic| row_room_at hp) => `(tactic| (apply FoAt.same; rotate_left; with_reducible assumption; row_room_at hp))
local macro_rules | `(tactic| row_room_at hp) => `(tactic| (apply Sw.Same.use; with_reducible assumption; row_room_at hp))
local macro_rules | `(tactic| row_room_at hp) => `(tactic| (apply SqT.of; row_room_at hp))
local macro_rules | `(tactic| row_room_at hp) => `(tactic| (apply SqL.of; row_room_at hp))
local macro_rules | `(tactic| row_room_at hp) => `(tactic| with_reducible assumption)
local macro_rules | `(tactic| row_room_at ati) => `(tactic| first | with_reducible assumption | rfl | (apply atI_nat; rfl))
local macro_rules | `(tactic| row_room_at cc) => `(tactic| first | with_reducible assumption | omega | decide | (refine ⟨?_, ?_⟩ <;> first | decide | omega) | (refine ⟨?_, ?_, ?_⟩ <;> first | decide | omega) | (left; refine ⟨?_, ?_⟩ <;> first | decide | omega) | (right; refine ⟨?_, ?_⟩ <;> first | decide | omega))
local macro_rules | `(tactic| row_room_at rdts) => `(tactic| with_reducible apply rd_retN)
local macro_rules | `(tactic| row_room_at rdts) => `(tactic| with_reducible apply rd_cont)
local macro_rules | `(tactic| row_room_at rdts) => `(tactic| with_reducible apply rd_brk)
local macro_rules | `(tactic| row_room_at rdts) => `(tactic| with_reducible apply rd_dput)
local macro_rules | `(tactic| row_room_at rdts) => `(tactic| with_reducible apply rd_drop)
local macro_rules | `(tactic| row_room_at rdts) => `(tactic| with_reducible apply rd_for)
local macro_rules | `(tactic| row_room_at rdts) => `(tactic| with_reducible apply rd_ret)
local macro_rules | `(tactic| row_room_at rdts) => `(tactic| with_reducible apply rd_next)
local macro_rules | `(tactic| row_room_at rdts) => `(tactic| with_reducible apply rd_ifS)
local macro_rules | `(tactic| row_room_at rdts) => `(tactic| with_reducible apply rd_asg)
local macro_rules | `(tactic| row_room_at rdts) => `(tactic| with_reducible refine rd_seqN fun _ _ => ?_)
local macro_rules | `(tactic| row_room_at rdit) => `(tactic| with_reducible refine rd_iteNF (by with_unfolding_all decide +kernel) ?_)
local macro_rules | `(tactic| row_room_at rdit) => `(tactic| with_reducible refine rd_iteNT (by with_unfolding_all decide +kernel) ?_)
local macro_rules | `(tactic| row_room_at rdit) => `(tactic| with_reducible apply rd_iteN0)
local macro_rules | `(tactic| row_room_at rdit) => `(tactic| with_reducible apply rd_iteN1)
local macro_rules | `(tactic| row_room_at rdit) => `(tactic| with_reducible apply rd_ite1)
local macro_rules | `(tactic| row_room_at rdit) => `(tactic| with_reducible apply rd_ite0)
local macro_rules | `(tactic| row_room_at rdit) => `(tactic| with_reducible refine rd_iteT (by with_unfolding_all decide +kernel) ?_)
local macro_rules | `(tactic| row_room_at rdit) => `(tactic| with_reducible refine rd_iteF (by with_unfolding_all decide +kernel) ?_)
local macro_rules | `(tactic| row_room_at rdex) => `(tactic| with_reducible apply rd_inS)
local macro_rules | `(tactic| row_room_at rdex) => `(tactic| with_reducible apply rd_min2)
local macro_rules | `(tactic| row_room_at rdex) => `(tactic| with_reducible apply rd_1S)
local macro_rules | `(tactic| row_room_at rdex) => `(tactic| with_reducible apply rd_2S)
local macro_rules | `(tactic| row_room_at rdex) => `(tactic| with_reducible refine rd_fld' (by with_unfolding_all row_room_at hp) (by with_unfolding_all assumption) (by with_unfolding_all assumption) (by with_unfolding_all rfl) ?_)
local macro_rules | `(tactic| row_room_at rdex) => `(tactic| with_reducible refine rd_ty (by with_unfolding_all row_room_at hp) ?_)
local macro_rules | `(tactic| row_room_at rdex) => `(tactic| with_reducible refine rd_itup' (by with_unfolding_all row_room_at hp) ?_)
local macro_rules | `(tactic| row_room_at rdex) => `(tactic| with_reducible refine rd_ilist' (by with_unfolding_all row_room_at hp) ?_)
local macro_rules | `(tactic| row_room_at rdex) => `(tactic| with_reducible apply rd_1B)
local macro_rules | `(tactic| row_room_at rdex) => `(tactic| with_reducible refine rd_dgetS (by with_unfolding_all row_room_at hp) (by with_unfolding_all assumption) ?_)
local macro_rules | `(tactic| row_room_at rdex) => `(tactic| with_reducible refine rd_dget' (by with_unfolding_all row_room_at hp) (by with_unfolding_all rfl) (by with_unfolding_all assumption) ?_)
local macro_rules | `(tactic| row_room_at rdex) => `(tactic| with_reducible refine rd_len (by with_unfolding_all first | exact .inl (by row_room_at hp) | exact .inr (by row_room_at hp)) ?_)
local macro_rules | `(tactic| row_room_at rdex) => `(tactic| with_reducible refine rd_lenQ (by with_unfolding_all first | exact .inl (by row_room_at hp) | exact .inr (by row_room_at hp)) ?_)
local macro_rules | `(tactic| row_room_at rdex) => `(tactic| with_reducible apply rd_2I)
local macro_rules | `(tactic| row_room_at rdex) => `(tactic| with_reducible refine rd_b62 (by with_unfolding_all first | decide | (constructor <;> omega)) ?_)
local macro_rules | `(tactic| row_room_at rdex) => `(tactic| with_reducible refine rd_lenS (by with_unfolding_all omega) ?_)
local macro_rules | `(tactic| row_room_at rdex) => `(tactic| with_reducible apply rd_1I)
local macro_rules | `(tactic| row_room_at rdex) => `(tactic| with_reducible apply rd_int1)
local macro_rules | `(tactic| row_room_at rdex) => `(tactic| with_reducible apply rd_iv)
local macro_rules | `(tactic| row_room_at rdex) => `(tactic| with_reducible refine rd_sz (by with_unfolding_all first | decide | (simp only [List.length_append, List.length_map, List.length_cons, List.length_nil, List.length_take]; omega)) ?_)
local macro_rules | `(tactic| row_room_at rdex) => `(tactic| with_reducible apply rd_bl)
local macro_rules | `(tactic| row_room_at rdhd) => `(tactic| with_reducible apply rd_m1)
local macro_rules | `(tactic| row_room_at rdhd) => `(tactic| with_reducible apply rd_fld)
local macro_rules | `(tactic| row_room_at rdhd) => `(tactic| with_reducible refine rd_append (by with_unfolding_all row_room_at hp) (by with_unfolding_all first | decide | (simp only [List.length_append, List.length_map, List.length_cons, List.length_nil]; omega)) ?_)
local macro_rules | `(tactic| row_room_at rdhd) => `(tactic| with_reducible apply rd_bm)
local macro_rules | `(tactic| row_room_at rdhd) => `(tactic| with_reducible apply rd_yes)
local macro_rules | `(tactic| row_room_at rdhd) => `(tactic| with_reducible apply rd_lc)
local macro_rules | `(tactic| row_room_at rdhd) => `(tactic| with_reducible apply rd_itup)
local macro_rules | `(tactic| row_room_at rdhd) => `(tactic| with_reducible apply rd_ilist)
local macro_rules | `(tactic| row_room_at rdhd) => `(tactic| with_reducible refine rd_dictK (by with_unfolding_all row_room_at hp) ?_)
local macro_rules | `(tactic| row_room_at rdhd) => `(tactic| with_reducible refine rd_lenK (by with_unfolding_all first | exact .inl (by row_room_at hp) | exact .inr (by row_room_at hp)) ?_)
local macro_rules | `(tactic| row_room_at rdhd) => `(tactic| with_reducible apply rd_methI)
local macro_rules | `(tactic| row_room_at rdhd) => `(tactic| with_reducible apply rd_dget)
local macro_rules | `(tactic| row_room_at rdhd) => `(tactic| with_reducible apply rd_if)
local macro_rules | `(tactic| row_room_at rdhd) => `(tactic| with_reducible apply rd_notV)
local macro_rules | `(tactic| row_room_at rdhd) => `(tactic| with_reducible apply rd_orV)
local macro_rules | `(tactic| row_room_at rdhd) => `(tactic| with_reducible apply rd_andV)
local macro_rules | `(tactic| row_room_at rdhd) => `(tactic| with_reducible apply rd_U)
local macro_rules | `(tactic| row_room_at rdhd) => `(tactic| with_reducible apply rd_un)
local macro_rules | `(tactic| row_room_at rdhd) => `(tactic| with_reducible refine rd_cat (by with_unfolding_all row_room_at hp) (by with_unfolding_all row_room_at hp) (by with_unfolding_all first | decide | (simp only [List.length_append, List.length_map, List.length_cons, List.length_nil, List.length_take]; omega)) ?_)
local macro_rules | `(tactic| row_room_at rdhd) => `(tactic| with_reducible refine rd_slL (by with_unfolding_all row_room_at hp) ?_)
local macro_rules | `(tactic| row_room_at rdhd) => `(tactic| with_reducible apply rd_nopart)
local macro_rules | `(tactic| row_room_at rdhd) => `(tactic| with_reducible apply rd_make)
local macro_rules | `(tactic| row_room_at rdhd) => `(tactic| with_reducible apply rd_kt)
local macro_rules | `(tactic| row_room_at rdhd) => `(tactic| with_reducible apply rd_rng1)
local macro_rules | `(tactic| row_room_at rdhd) => `(tactic| with_reducible refine rd_ne (by with_unfolding_all rfl) ?_)
local macro_rules | `(tactic| row_room_at rdhd) => `(tactic| with_reducible apply rd_and)
local macro_rules | `(tactic| row_room_at rdhd) => `(tactic| with_reducible apply rd_B)
local macro_rules | `(tactic| row_room_at rdhd) => `(tactic| with_reducible apply rd_not)
local macro_rules | `(tactic| row_room_at rdhd) => `(tactic| with_reducible refine rd_ixL (by with_unfolding_all row_room_at hp) (by with_unfolding_all row_room_at ati) ?_)
local macro_rules | `(tactic| row_room_at rdhd) => `(tactic| with_reducible apply rd_gNil)
local macro_rules | `(tactic| row_room_at rdhd) => `(tactic| with_reducible refine rd_gTup (by with_unfolding_all (apply SqT.of; row_room_at hp)) (by with_unfolding_all rfl) ?_)
local macro_rules | `(tactic| row_room_at rdhd) => `(tactic| with_reducible apply rd_sl)
local macro_rules | `(tactic| row_room_at rdhd) => `(tactic| with_reducible refine rd_I (by with_unfolding_all row_room_at cc) ?_)
local macro_rules | `(tactic| row_room_at rdhd) => `(tactic| with_reducible apply rd_or)
local macro_rules | `(tactic| row_room_at rdhd) => `(tactic| with_reducible apply rd_lst)
local macro_rules | `(tactic| row_room_at rdhd) => `(tactic| with_reducible apply rd_gCons)
local macro_rules | `(tactic| row_room_at rdhd) => `(tactic| with_reducible apply rd_part)
local macro_rules | `(tactic| row_room_at rdhd) => `(tactic| with_reducible apply rd_tup)
local macro_rules | `(tactic| row_room_at rdhd) => `(tactic| with_reducible apply rd_I0)
local macro_rules | `(tactic| row_room_at rdhd) => `(tactic| with_reducible apply rd_CB)
local macro_rules | `(tactic| row_room_at rdhd) => `(tactic| with_reducible refine rd_ixT (by with_unfolding_all row_room_at hp) (by with_unfolding_all row_room_at ati) ?_)
local macro_rules | `(tactic| row_room_at rdhd) => `(tactic| with_reducible refine rd_eq (by with_unfolding_all rfl) ?_)
local macro_rules | `(tactic| row_room_at rdhd) => `(tactic| with_reducible apply rd_call)
local macro_rules | `(tactic| row_room_at rdhd) => `(tactic| with_reducible apply rd_gName)
local macro_rules | `(tactic| row_room_at rdhd) => `(tactic| with_reducible apply rd_test)
local macro_rules | `(tactic| row_room_at rdhd) => `(tactic| with_reducible apply rd_cons)
local macro_rules | `(tactic| row_room_at rdhd) => `(tactic| with_reducible apply rd_consC)
local macro_rules | `(tactic| row_room_at rdhd) => `(tactic| with_reducible refine rd_consV (by with_unfolding_all rfl) ?_)
local macro_rules | `(tactic| row_room_at rdhd) => `(tactic| with_reducible apply rd_nil)
local macro_rules | `(tactic| row_room_at rdhd) => `(tactic| with_reducible apply rd_c)
local macro_rules | `(tactic| row_room_at rdhd) => `(tactic| with_reducible refine rd_var (by with_unfolding_all rfl) ?_)
local macro_rules | `(tactic| row_room_at rdhd) => `(tactic| with_reducible apply rd_op)
local macro_rules | `(tactic| row_room_at rdsz) => `(tactic| with_reducible refine rd_sz (by with_unfolding_all first | decide | (simp only [List.length_append, List.length_map, List.length_cons, List.length_nil, List.length_take]; omega)) ?_)
local macro_rules | `(tactic| row_room_at rd1) => `(tactic| with_reducible refine rd_unN (by with_reducible assumption) ?_)
local macro_rules | `(tactic| row_room_at rd1) => `(tactic| ((fail_if_success with_reducible apply g_sp); (fail_if_success with_reducible apply g_ite); row_room_at rdex))
local macro_rules | `(tactic| row_room_at rd1) => `(tactic| ((fail_if_success with_reducible apply g_sp); (fail_if_success with_reducible intro _); row_room_at rdhd))
local macro_rules | `(tactic| row_room_at rd1) => `(tactic| row_room_at rdsz)
local macro_rules | `(tactic| row_room_at rd1) => `(tactic| ((with_reducible apply g_ex); row_room_at rdex))
local macro_rules | `(tactic| row_room_at rd1) => `(tactic| ((with_reducible apply g_ite); row_room_at rdit))
local macro_rules | `(tactic| row_room_at rd1) => `(tactic| ((with_reducible apply g_ts); row_room_at rdts))
local macro_rules | `(tactic| row_room_at rd) => `(tactic| repeat row_room_at rd1)
/-! ### trees as read -/
def pOp (T : Nat → Except Nat (Fo × Nat)) (L : List Nat) (p : Nat) : Except Nat (Fo × Nat) :=
  if L[p]? = some 45 then do
    let a ← sgAt L p [45, 32]
    let (f, e) ← T a
    let e ← sgAt L e [41]
    .ok (.neg f, e)
  else do
    let (f, e) ← T p
    let e ← sgAt L e [32]
    if L[e]? = some 60 then do
      let a ← sgAt L e [60, 60, 32]
      let (k, e) ← pShift L a
      let e ← sgAt L e [41]
      .ok (.shl f k, e)
    else match (L[e]?.bind b3Of) with
      | none => .error e
      | some o => do
        let a ← sgAt L (e + 1) [32]
        let (g, e) ← T a
        let e ← sgAt L e [41]
        .ok (.bin o f g, e)
def pSumA (T : Nat → Except Nat (Fo × Nat)) (L : List Nat) (p : Nat) : Except Nat (Fo × Nat) := do
  let (i, e) ← pName L p
  let a ← sgAt L e [44, 32]
  let (b, e) ← pLeaf L a
  let a ← sgAt L e [44, 32]
  let (f, e) ← T a
  let e ← sgAt L e [41]
  .ok (.sum i b f, e)
def pCallA (T : Nat → Except Nat (Fo × Nat)) (M : Nat → Except Nat (List Fo × Nat)) (L : List Nat) (w : Str) (p : Nat) : Except Nat (Fo × Nat) := do
  let (f, e) ← T p
  let (fs, e) ← M e
  let e ← sgAt L e [41]
  .ok (.call w (f :: fs), e)
theorem pTree_succ (L : List Nat) (n p : Nat) : pTree L (n + 1) p =
    if L[p]? = some 40 then pOp (pTree L n) L (p + 1)
    else if (L[p]?.map isD).getD false = true then .ok (.num (pNum L p).1, (pNum L p).2)
    else if L[letE L p]? = some 40 ∧ mk (subL L p (letE L p)) = "sum" then pSumA (pTree L n) L (letE L p + 1)
    else if L[letE L p]? = some 40 ∧ isNmS (mk (subL L p (letE L p))) = true then pCallA (pTree L n) (pMore L n 3) L (mk (subL L p (letE L p))) (letE L p + 1)
    else match pName L p with
      | .ok (z, e) => .ok (.nam z, e)
      | .error e => .error e := by rw [pTree]; rfl
theorem bok {α β : Type} {x : Except Nat α} {k : α → Except Nat β} {a : α} {F : Except Nat β} (h : F = x >>= k) (e : x = .ok a) : F = k a := by rw [h, e]; rfl
theorem ber {α β : Type} {x : Except Nat α} {k : α → Except Nat β} {q : Nat} {F : Except Nat β} (h : F = x >>= k) (e : x = .error q) : F = .error q := by rw [h, e]; rfl
def spPr (K : PySem.W.Frag) (F : List Nat → Nat → Except Nat (Fo × Nat)) (z : Str) (p : Nat) (H : Hp) (Q : VK) (E : XK) : Prop := p ≤ z.length ∧ z.length ≤ 300000 ∧ F (TL.tl z) p ≠ .error ((TL.tl z).length + 1) ∧
  (∀ f e u t H', F (TL.tl z) p = .ok (f, e) → e ≤ z.length → Same H H' → H' u = some (.tup [.ref t, .int e]) → TrW H H' f t → f.Pre → Q (.ref u) H') ∧ (∀ q, F (TL.tl z) p = .error q → RaisesC K "BadText" H (.int q) E)
def spTreeAt (K : PySem.W.Frag) (n : Nat) : Sp := fun vs H Q E => ∃ (z : Str) (p : Nat), vs = [.str z, .int p] ∧ spPr K (fun L => pTree L n) z p H Q E
def spOpAt (K : PySem.W.Frag) (n : Nat) : Sp := fun vs H Q E => ∃ (z : Str) (p : Nat), vs = [.str z, .int p] ∧ spPr K (fun L => pOp (pTree L n) L) z p H Q E
def spSumAt (K : PySem.W.Frag) (n : Nat) : Sp := fun vs H Q E => ∃ (z : Str) (p : Nat), vs = [.str z, .int p] ∧ spPr K (fun L => pSumA (pTree L n) L) z p H Q E
def spCallAt (K : PySem.W.Frag) (n : Nat) : Sp := fun vs H Q E => ∃ (z w : Str) (p : Nat), vs = [.str z, .int p, .str w] ∧ GoodN w ∧ spPr K (fun L => pCallA (pTree L n) (pMore L n 3) L w) z p H Q E
structure Tls : Prop where
  m : TL.tl (Str.ofString "- ") = [45, 32]
  c : TL.tl (Str.ofString ")") = [41]
  s : TL.tl (Str.ofString " ") = [32]
  k : TL.tl (Str.ofString ", ") = [44, 32]
  l : TL.tl (Str.ofString "<< ") = [60, 60, 32]
theorem tls : Tls := ⟨by decide +kernel, by decide +kernel, by decide +kernel, by decide +kernel, by decide +kernel⟩
structure Lns : Prop where
  m : (Str.ofString "- ").length = 2
  c : (Str.ofString ")").length = 1
  s : (Str.ofString " ").length = 1
  k : (Str.ofString ", ").length = 2
  l : (Str.ofString "<< ").length = 3
theorem lns : Lns := ⟨by decide +kernel, by decide +kernel, by decide +kernel, by decide +kernel, by decide +kernel⟩
/-! ### sum_at -/
theorem scE_sum_at : FnScope ["text", "at", "index", "end", "below", "body"] ["text", "at"] (defScope s_sum_at) := ⟨rfl, rfl, rfl, by decide +kernel, rfl, by decide +kernel, by decide +kernel⟩
theorem okE_sum_at (T : Txt K mg) {n n' : Nat} (hnn : 10 ≤ n') (CT : Cal P w K mg base (L2N.CX P w) n' (ga K "tree_at") ["text", "at"] (spTreeAt K n)) : Cal P w K mg base (L2N.CX P w) (n'+1) (ga K "sum_at") ["text", "at"] (spSumAt K n) := by
  obtain ⟨fd, F⟩ := T.f_sum_at
  refine ⟨fd, ?_, F.kp, F.bindsN fun _ _ _ _ _ _ us hl => match us, hl with | [_, _], _ => rfl⟩
  refine F.ok scE_sum_at (fun vs H Q E h => ?_) (fun cdv A outer s H vs Q E hr h => ?_)
  · obtain ⟨_, _, rfl, _⟩ := h
    rfl
  have nod := scE_sum_at.nd
  have hu := hu_of hr
  refine ⟨_, (pss_cons (ps_asg (pe_callC (E := E) (okE_name_at T) (hr.mono (by omega)) rfl (T.g "name_at") (L2N.passes_call (E := E) (L2N.takes_of rfl rfl rfl rfl) (fun _ _ _ _ h => h)) (pa_cons (pv 0) (pa_cons (pv 1) pa_nil))) (pg_tup rfl (pgs_cons (pg_name (i := 2) nod rfl (Or.inl rfl)) (pgs_cons (pg_name (i := 3) nod rfl (Or.inl rfl)) pgs_nil))))
  (pss_cons (ps_asg (pe_callC (E := E) (okE_bound_at T) (hr.mono (by omega)) rfl (T.g "bound_at") (L2N.passes_call (E := E) (L2N.takes_of rfl rfl rfl rfl) (fun _ _ _ _ h => h)) (pa_cons (pv 0) (pa_cons (pe_callC (E := E) (okE_after T) (hr.mono (by omega)) rfl (T.g "after") (L2N.passes_call (E := E) (L2N.takes_of rfl rfl rfl rfl) (fun _ _ _ _ h => h)) (pa_cons (pv 0) (pa_cons (pv 3) (pa_cons pe_str pa_nil)))) pa_nil))) (pg_tup rfl (pgs_cons (pg_name (i := 4) nod rfl (Or.inl rfl)) (pgs_cons (pg_name (i := 3) nod rfl (Or.inl rfl)) pgs_nil))))
  (pss_cons (ps_asg (pe_callC (E := E) CT (hr.mono (by omega)) rfl (T.g "tree_at") (L2N.passes_call (E := E) (L2N.takes_of rfl rfl rfl rfl) (fun _ _ _ _ h => h)) (pa_cons (pv 0) (pa_cons (pe_callC (E := E) (okE_after T) (hr.mono (by omega)) rfl (T.g "after") (L2N.passes_call (E := E) (L2N.takes_of rfl rfl rfl rfl) (fun _ _ _ _ h => h)) (pa_cons (pv 0) (pa_cons (pv 3) (pa_cons pe_str pa_nil)))) pa_nil))) (pg_tup rfl (pgs_cons (pg_name (i := 5) nod rfl (Or.inl rfl)) (pgs_cons (pg_name (i := 3) nod rfl (Or.inl rfl)) pgs_nil))))
  (pss_one (ps_ret (pe_tup (pa_cons (pe_tup (pa_cons pe_str (pa_cons (pe_ix ix_tup (pv 2) pe_int (fun _ _ => rfl)) (pa_cons (pv 4) (pa_cons (pv 5) pa_nil))))) (pa_cons (pe_callC (E := E) (okE_after T) (hr.mono (by omega)) rfl (T.g "after") (L2N.passes_call (E := E) (L2N.takes_of rfl rfl rfl rfl) (fun _ _ _ _ h => h)) (pa_cons (pv 0) (pa_cons (pv 3) (pa_cons pe_str pa_nil)))) pa_nil)))))))), ?_⟩
  obtain ⟨z, p, rfl, hp, hz, hne, q, r⟩ := h
  have lz := TL.len_tl z
  have ln := lns
  have tt := tls
  generalize hF : (fun L => pSumA (pTree L n) L) (TL.tl z) p = F at hne q r
  have hF : F = pName (TL.tl z) p >>= _ := hF.symm
  row_room_at rd
  refine ⟨z, p, rfl, hp, hz, fun i e u v H1 h1 he s1 e1 ⟨g1, l8, t1, ev, et1⟩ => ?_, fun q' h1 => r q' (ber hF h1)⟩
  subst ev
  have hF := bok hF h1; replace hF : F = sgAt (TL.tl z) e [44, 32] >>= _ := hF
  row_room_at rd
  refine ⟨z, e, _, rfl, he, hz, by rw [ln.k]; decide, fun a H2 h2 ha s2 => ?_, fun q' h2 => (r q' (ber hF (by rw [tt.k] at h2; exact h2))).same s1⟩
  rw [tt.k] at h2
  have hF := bok hF h2; replace hF : F = pLeaf (TL.tl z) a >>= _ := hF
  have s02 := s1.trans s2
  have et2 := s2 _ _ et1
  clear h1 h2 et1 e1 he
  row_room_at rd
  refine ⟨z, a, rfl, ha, hz, fun b e u v H3 h3 he s3 e3 ⟨lb, ob, t2, ev, tb⟩ => ?_, fun q' h3 => (r q' (ber hF h3)).same s02⟩
  subst ev
  have hF := bok hF h3; replace hF : F = sgAt (TL.tl z) e [44, 32] >>= _ := hF
  have s03 := s02.trans s3
  have et3 := s3 _ _ et2
  row_room_at rd
  refine ⟨z, e, _, rfl, he, hz, by rw [ln.k]; decide, fun a4 H4 h4 ha4 s4 => ?_, fun q' h4 => (r q' (ber hF (by rw [tt.k] at h4; exact h4))).same s03⟩
  rw [tt.k] at h4
  have hF := bok hF h4; replace hF : F = pTree (TL.tl z) n a4 >>= _ := hF
  have s04 := s03.trans s4
  have et4 := s4 _ _ et3
  have tb4 := TrW.same s4 tb
  have D2 : ∀ x, H2 x = none → H x = none := fun x hx => none_back s02 hx
  clear h3 h4 e3 he et2 et3 tb
  row_room_at rd
  refine ⟨z, a4, rfl, ha4, hz, fun h5 => hne (ber hF h5), fun f e u t5 H5 h5 he s5 e5 tf pf => ?_, fun q' h5 => (r q' (ber hF h5)).same s04⟩
  have hF := bok hF h5; replace hF : F = sgAt (TL.tl z) e [41] >>= _ := hF
  have s05 := s04.trans s5
  have et5 := s5 _ _ et4
  have tb5 := TrW.same s5 tb4
  have D4 : ∀ x, H4 x = none → H x = none := fun x hx => none_back s04 hx
  have tf5 := TrW.weak D4 tf
  clear h5 et4 tb4 tf
  row_room_at rd
  refine rd_new fun t6 H6 ht6 s6 e6 => ?_
  row_room_at rd
  refine ⟨z, e, _, rfl, he, hz, by rw [ln.c]; decide, fun a7 H7 h7 ha7 s7 => ?_, fun q' h7 => (r q' (ber hF (by rw [tt.c] at h7; exact h7))).same (s05.trans s6)⟩
  rw [tt.c] at h7
  have hF := bok hF h7
  row_room_at rd
  refine rd_new fun u8 H8 hu8 s8 e8 => ?_
  have s58 := s6.trans (s7.trans s8)
  refine q (.sum i b f) a7 u8 t6 H8 hF ha7 (s05.trans s58) e8 ?_ ⟨⟨g1, by omega⟩, lb, ob, pf⟩
  simp only [TrW]
  exact ⟨t2, t5, s8 _ _ (s7 _ _ e6), TrW.weak D2 (TrW.same s58 tb5), TrW.same s58 tf5⟩
/-! ### operation_at -/
theorem KD_at {K : PySem.W.Frag} {w : World} {es : Array DictEntry} {m : Nat} (D : KDict K w (ga K "KINDS") es m) (h : valsB K (ga K "KINDS") [("+", .str "plus"), ("-", .str "minus"), ("*", .str "times"), ("<", .str "shift")] = true) : (∀ o : B3, KDct K w (ga K "KINDS") ⟨#[o.sgn]⟩ (.str o.str)) ∧ KDct K w (ga K "KINDS") ⟨#[60]⟩ (.str "shift") := by
  have c1 : (⟨#[43]⟩ : Str) = Str.ofString "+" := by decide +kernel
  have c2 : (⟨#[45]⟩ : Str) = Str.ofString "-" := by decide +kernel
  have c3 : (⟨#[42]⟩ : Str) = Str.ofString "*" := by decide +kernel
  have c4 : (⟨#[60]⟩ : Str) = Str.ofString "<" := by decide +kernel
  refine ⟨fun o => ?_, ?_⟩
  · cases o
    · obtain ⟨u, e, r⟩ := valsB_ok h (q := ("+", .str "plus")) (by simp)
      rw [← c1] at e
      exact kdct_of D e r
    · obtain ⟨u, e, r⟩ := valsB_ok h (q := ("-", .str "minus")) (by simp)
      rw [← c2] at e
      exact kdct_of D e r
    · obtain ⟨u, e, r⟩ := valsB_ok h (q := ("*", .str "times")) (by simp)
      rw [← c3] at e
      exact kdct_of D e r
  · obtain ⟨u, e, r⟩ := valsB_ok h (q := ("<", .str "shift")) (by simp)
    rw [← c4] at e
    exact kdct_of D e r
theorem KD_ns {K : PySem.W.Frag} {w : World} (KD : KeysAt K w (ga K "KINDS") ["+", "-", "*", "<"]) (h : valsB K (ga K "KINDS") [("+", .str "plus"), ("-", .str "minus"), ("*", .str "times"), ("<", .str "shift")] = true) (L : List Nat) (p : Nat) :
    ∃ r, PySem.W.nsIn K (ga K "KINDS") (ch L p) = some r ∧ r.isSome = (decide (L[p]? = some 60) || (L[p]?.bind b3Of).isSome) := by
  have c1 : (⟨#[43]⟩ : Str) = Str.ofString "+" := by decide +kernel
  have c2 : (⟨#[45]⟩ : Str) = Str.ofString "-" := by decide +kernel
  have c3 : (⟨#[42]⟩ : Str) = Str.ofString "*" := by decide +kernel
  have c4 : (⟨#[60]⟩ : Str) = Str.ofString "<" := by decide +kernel
  cases hc : L[p]? with
  | none =>
    rw [ch_none hc]
    exact ⟨none, KD.miss (by rw [← c1, ← c2, ← c3, ← c4]; simp), by simp⟩
  | some c =>
    rw [ch_some hc]
    by_cases h1 : c = 43
    · subst h1
      obtain ⟨u, e, _⟩ := valsB_ok h (q := ("+", .str "plus")) (by simp)
      exact ⟨some u, by rw [c1]; exact e, rfl⟩
    by_cases h2 : c = 45
    · subst h2
      obtain ⟨u, e, _⟩ := valsB_ok h (q := ("-", .str "minus")) (by simp)
      exact ⟨some u, by rw [c2]; exact e, rfl⟩
    by_cases h3 : c = 42
    · subst h3
      obtain ⟨u, e, _⟩ := valsB_ok h (q := ("*", .str "times")) (by simp)
      exact ⟨some u, by rw [c3]; exact e, rfl⟩
    by_cases h4 : c = 60
    · subst h4
      obtain ⟨u, e, _⟩ := valsB_ok h (q := ("<", .str "shift")) (by simp)
      exact ⟨some u, by rw [c4]; exact e, rfl⟩
    refine ⟨none, KD.miss (by rw [← c1, ← c2, ← c3, ← c4]; simp [h1, h2, h3, h4]), ?_⟩
    have : b3Of c = none := by unfold b3Of; split <;> first | omega | rfl
    simp [this, h4]
theorem scE_operation_at : FnScope ["text", "at", "one", "end", "sign", "other"] ["text", "at"] (defScope s_operation_at) := ⟨rfl, rfl, rfl, by decide +kernel, rfl, by decide +kernel, by decide +kernel⟩
theorem okE_operation_at (T : Txt K mg) {n n' : Nat} (hnn : 10 ≤ n') (CT : Cal P w K mg base (L2N.CX P w) n' (ga K "tree_at") ["text", "at"] (spTreeAt K n)) (KD : KeysAt K w (ga K "KINDS") ["+", "-", "*", "<"]) : Cal P w K mg base (L2N.CX P w) (n'+1) (ga K "operation_at") ["text", "at"] (spOpAt K n) := by
  obtain ⟨fd, F⟩ := T.f_operation_at
  obtain ⟨fdB_BadText, GB_BadText, kB_BadText, bB_BadText⟩ := ok_BadText___init__ (P := P) (w := w) (base := base) T
  have TB_BadText := T.err "BadText" (by decide +kernel)
  refine ⟨fd, ?_, F.kp, F.bindsN fun _ _ _ _ _ _ us hl => match us, hl with | [_, _], _ => rfl⟩
  refine F.ok scE_operation_at (fun vs H Q E h => ?_) (fun cdv A outer s H vs Q E hr h => ?_)
  · obtain ⟨_, _, rfl, _⟩ := h
    rfl
  have nod := scE_operation_at.nd
  have hu := hu_of hr
  obtain ⟨esK, nK, DK⟩ := KD.kd
  refine ⟨_, (pss_cons (ps_if (pt_cmpR op_eq (pe_slice sl_str (pv 0) (po_some (pv 1)) (po_some (pe_op op_add (pv 1) pe_int))) pe_str (nomark _))
    (pss_cons (ps_asg (pe_callC (E := E) CT (hr.mono (by omega)) rfl (T.g "tree_at") (L2N.passes_call (E := E) (L2N.takes_of rfl rfl rfl rfl) (fun _ _ _ _ h => h)) (pa_cons (pv 0) (pa_cons (pe_callC (E := E) (okE_after T) (hr.mono (by omega)) rfl (T.g "after") (L2N.passes_call (E := E) (L2N.takes_of rfl rfl rfl rfl) (fun _ _ _ _ h => h)) (pa_cons (pv 0) (pa_cons (pv 1) (pa_cons pe_str pa_nil)))) pa_nil))) (pg_tup rfl (pgs_cons (pg_name (i := 2) nod rfl (Or.inl rfl)) (pgs_cons (pg_name (i := 3) nod rfl (Or.inl rfl)) pgs_nil))))
    (pss_one (ps_ret (pe_tup (pa_cons (pe_tup (pa_cons pe_str (pa_cons (pv 2) pa_nil))) (pa_cons (pe_callC (E := E) (okE_after T) (hr.mono (by omega)) rfl (T.g "after") (L2N.passes_call (E := E) (L2N.takes_of rfl rfl rfl rfl) (fun _ _ _ _ h => h)) (pa_cons (pv 0) (pa_cons (pv 3) (pa_cons pe_str pa_nil)))) pa_nil))))))
    pss_nil)
  (pss_cons (ps_asg (pe_callC (E := E) CT (hr.mono (by omega)) rfl (T.g "tree_at") (L2N.passes_call (E := E) (L2N.takes_of rfl rfl rfl rfl) (fun _ _ _ _ h => h)) (pa_cons (pv 0) (pa_cons (pv 1) pa_nil))) (pg_tup rfl (pgs_cons (pg_name (i := 2) nod rfl (Or.inl rfl)) (pgs_cons (pg_name (i := 3) nod rfl (Or.inl rfl)) pgs_nil))))
  (pss_cons (ps_set (i := 3) nod rfl (Or.inl rfl) (pe_callC (E := E) (okE_after T) (hr.mono (by omega)) rfl (T.g "after") (L2N.passes_call (E := E) (L2N.takes_of rfl rfl rfl rfl) (fun _ _ _ _ h => h)) (pa_cons (pv 0) (pa_cons (pv 3) (pa_cons pe_str pa_nil)))))
  (pss_cons (ps_set (i := 4) nod rfl (Or.inl rfl) (pe_slice sl_str (pv 0) (po_some (pv 3)) (po_some (pe_op op_add (pv 3) pe_int))))
  (pss_cons (ps_if (pt_cmpR (op_notIn_kd DK) (pv 4) (pe_glob (v := .ref (ga K "KINDS")) rfl (T.g "KINDS") rfl) rfl)
    (pss_one (L2N.ps_raise rfl (L2N.takes_of rfl rfl rfl rfl) (pmkN_oex (x := "BadText") TB_BadText.o TB_BadText.ini TB_BadText.inT GB_BadText (hr.mono (by omega)) bB_BadText .nil pass0 rfl (T.g "BadText") (pa_cons (pv 3) pa_nil))))
    pss_nil)
  (pss_cons (ps_if (pt_cmpR op_eq (pv 4) pe_str (nomark _))
    (pss_one (ps_asg (pe_callC (E := E) (okE_shift_at T) (hr.mono (by omega)) rfl (T.g "shift_at") (L2N.passes_call (E := E) (L2N.takes_of rfl rfl rfl rfl) (fun _ _ _ _ h => h)) (pa_cons (pv 0) (pa_cons (pe_callC (E := E) (okE_after T) (hr.mono (by omega)) rfl (T.g "after") (L2N.passes_call (E := E) (L2N.takes_of rfl rfl rfl rfl) (fun _ _ _ _ h => h)) (pa_cons (pv 0) (pa_cons (pv 3) (pa_cons pe_str pa_nil)))) pa_nil))) (pg_tup rfl (pgs_cons (pg_name (i := 5) nod rfl (Or.inl rfl)) (pgs_cons (pg_name (i := 3) nod rfl (Or.inl rfl)) pgs_nil)))))
    (pss_one (ps_asg (pe_callC (E := E) CT (hr.mono (by omega)) rfl (T.g "tree_at") (L2N.passes_call (E := E) (L2N.takes_of rfl rfl rfl rfl) (fun _ _ _ _ h => h)) (pa_cons (pv 0) (pa_cons (pe_callC (E := E) (okE_after T) (hr.mono (by omega)) rfl (T.g "after") (L2N.passes_call (E := E) (L2N.takes_of rfl rfl rfl rfl) (fun _ _ _ _ h => h)) (pa_cons (pv 0) (pa_cons (pe_op op_add (pv 3) pe_int) (pa_cons pe_str pa_nil)))) pa_nil))) (pg_tup rfl (pgs_cons (pg_name (i := 5) nod rfl (Or.inl rfl)) (pgs_cons (pg_name (i := 3) nod rfl (Or.inl rfl)) pgs_nil))))))
  (pss_one (ps_ret (pe_tup (pa_cons (pe_tup (pa_cons (pe_ix ix_kdict (pe_glob (v := .ref (ga K "KINDS")) rfl (T.g "KINDS") rfl) (pv 4) (fun _ _ => rfl)) (pa_cons (pv 2) (pa_cons (pv 5) pa_nil)))) (pa_cons (pe_callC (E := E) (okE_after T) (hr.mono (by omega)) rfl (T.g "after") (L2N.passes_call (E := E) (L2N.takes_of rfl rfl rfl rfl) (fun _ _ _ _ h => h)) (pa_cons (pv 0) (pa_cons (pv 3) (pa_cons pe_str pa_nil)))) pa_nil))))))))))), ?_⟩
  obtain ⟨z, p, rfl, hp, hz, hne, q, r⟩ := h
  have lz := TL.len_tl z
  have ln := lns
  have tt := tls
  have hm : (Str.ofString "-" : Str) = ⟨#[45]⟩ := by decide +kernel
  generalize hF0 : (fun L => pOp (pTree L n) L) (TL.tl z) p = F at hne q r
  row_room_at rd
  refine rd_one p rfl rfl hz ?_
  row_room_at rd
  rw [chE hm]
  by_cases h45 : (TL.tl z)[p]? = some 45
  · rw [decide_eq_true h45]
    have hF : F = pOp (pTree (TL.tl z) n) (TL.tl z) p := hF0.symm
    unfold pOp at hF
    rw [if_pos h45] at hF
    replace hF : F = sgAt (TL.tl z) p [45, 32] >>= _ := hF
    row_room_at rd
    refine ⟨z, p, _, rfl, hp, hz, by rw [ln.m]; decide, fun a H1 h1 ha s1 => ?_, fun q' h1 => r q' (ber hF (by rw [tt.m] at h1; exact h1))⟩
    rw [tt.m] at h1
    have hF := bok hF h1; replace hF : F = pTree (TL.tl z) n a >>= _ := hF
    row_room_at rd
    refine ⟨z, a, rfl, ha, hz, fun h2 => hne (ber hF h2), fun f e u t2 H2 h2 he s2 e2 tf pf => ?_, fun q' h2 => (r q' (ber hF h2)).same s1⟩
    have hF := bok hF h2; replace hF : F = sgAt (TL.tl z) e [41] >>= _ := hF
    have s02 := s1.trans s2
    have tf2 := TrW.weak (fun x hx => none_back s1 hx) tf
    clear h1 h2 tf
    row_room_at rd
    refine rd_new fun t6 H6 ht6 s6 e6 => ?_
    row_room_at rd
    refine ⟨z, e, _, rfl, he, hz, by rw [ln.c]; decide, fun a7 H7 h7 ha7 s7 => ?_, fun q' h7 => (r q' (ber hF (by rw [tt.c] at h7; exact h7))).same (s02.trans s6)⟩
    rw [tt.c] at h7
    have hF := bok hF h7
    row_room_at rd
    refine rd_new fun u8 H8 hu8 s8 e8 => ?_
    have s58 := s6.trans (s7.trans s8)
    refine q (.neg f) a7 u8 t6 H8 hF ha7 (s02.trans s58) e8 ?_ pf
    simp only [TrW]
    exact ⟨t2, s8 _ _ (s7 _ _ e6), TrW.same s58 tf2⟩
  · rw [decide_eq_false h45]
    have hF : F = pOp (pTree (TL.tl z) n) (TL.tl z) p := hF0.symm
    unfold pOp at hF
    rw [if_neg h45] at hF
    replace hF : F = pTree (TL.tl z) n p >>= _ := hF
    row_room_at rd
    refine ⟨z, p, rfl, hp, hz, fun h2 => hne (ber hF h2), fun f e u t1 H1 h1 he s1 e1 tf pf => ?_, fun q' h1 => r q' (ber hF h1)⟩
    have hF := bok hF h1; replace hF : F = sgAt (TL.tl z) e [32] >>= _ := hF
    clear h1
    row_room_at rd
    refine ⟨z, e, _, rfl, he, hz, by rw [ln.s]; decide, fun e H2 h2 he s2 => ?_, fun q' h2 => (r q' (ber hF (by rw [tt.s] at h2; exact h2))).same s1⟩
    rw [tt.s] at h2
    have hF := bok hF h2
    have s02 := s1.trans s2
    have tf2 := TrW.same s2 tf
    clear h2 tf e1
    row_room_at rd
    refine rd_one e rfl rfl hz ?_
    row_room_at rd
    obtain ⟨rr, er1, er2⟩ := KD_ns KD T.kd (TL.tl z) e
    refine ⟨_, rr, rfl, rfl, er1, ?_⟩
    rw [er2]
    row_room_at rd
    have hl : (Str.ofString "<" : Str) = ⟨#[60]⟩ := by decide +kernel
    obtain ⟨ka, kb⟩ := KD_at DK T.kd
    have hF : F = (if (TL.tl z)[e]? = some 60 then _ else _) := hF
    by_cases h60 : (TL.tl z)[e]? = some 60
    · rw [if_pos h60] at hF
      replace hF : F = sgAt (TL.tl z) e [60, 60, 32] >>= _ := hF
      rw [decide_eq_true h60, Bool.true_or]
      row_room_at rd
      rw [chE hl, decide_eq_true h60]
      row_room_at rd
      refine ⟨z, e, _, rfl, he, hz, by rw [ln.l]; decide, fun a H3 h3 ha s3 => ?_, fun q' h3 => (r q' (ber hF (by rw [tt.l] at h3; exact h3))).same s02⟩
      rw [tt.l] at h3
      have hF := bok hF h3; replace hF : F = pShift (TL.tl z) a >>= _ := hF
      have s03 := s02.trans s3
      have tf3 := TrW.same s3 tf2
      clear h3 tf2
      row_room_at rd
      refine ⟨z, a, rfl, ha, hz, fun k e5 u v H4 h4 he5 s4 e4 ⟨ev, k0, k1⟩ => ?_, fun q' h4 => (r q' (ber hF h4)).same s03⟩
      subst ev
      have hF := bok hF h4; replace hF : F = sgAt (TL.tl z) e5 [41] >>= _ := hF
      have s04 := s03.trans s4
      have tf4 := TrW.same s4 tf3
      clear h4 tf3
      row_room_at rd
      refine ⟨_, _, _, rfl, rfl, by rw [ch_some h60]; exact kb, ?_⟩
      row_room_at rd
      refine rd_new fun t6 H6 ht6 s6 e6 => ?_
      row_room_at rd
      refine ⟨z, e5, _, rfl, he5, hz, by rw [ln.c]; decide, fun a7 H7 h7 ha7 s7 => ?_, fun q' h7 => (r q' (ber hF (by rw [tt.c] at h7; exact h7))).same (s04.trans s6)⟩
      rw [tt.c] at h7
      have hF := bok hF h7
      row_room_at rd
      refine rd_new fun u8 H8 hu8 s8 e8 => ?_
      have s58 := s6.trans (s7.trans s8)
      refine q (.shl f k) a7 u8 t6 H8 hF ha7 (s04.trans s58) e8 ?_ ⟨k0, k1, pf⟩
      simp only [TrW]
      exact ⟨t1, s8 _ _ (s7 _ _ e6), TrW.same s58 tf4⟩
    · rw [if_neg h60] at hF
      rw [decide_eq_false h60, Bool.false_or]
      have hF : F = (match (TL.tl z)[e]?.bind b3Of with
        | none => Except.error e
        | some o => _) := hF
      cases ho : (TL.tl z)[e]?.bind b3Of with
      | none =>
        rw [ho] at hF
        have hF : F = Except.error e := hF
        rw [show (none : Option B3).isSome = false from rfl]
        row_room_at rd
        refine rd_mkO ?_
        row_room_at rd
        exact ⟨by show 1 ≤ 1000; decide, err_made TB_BadText fun H3 d s3 hd hx => r e hF H3 d (s02.trans s3) (none_back s02 hd) hx⟩
      | some o =>
        rw [ho] at hF
        have hF : F = sgAt (TL.tl z) (e + 1) [32] >>= _ := hF
        obtain ⟨c, hc, hco⟩ : ∃ c, (TL.tl z)[e]? = some c ∧ b3Of c = some o := by
          cases hc : (TL.tl z)[e]? with
          | none => rw [hc] at ho; cases ho
          | some c => rw [hc] at ho; exact ⟨c, rfl, ho⟩
        have hcs : c = o.sgn := by
          unfold b3Of at hco
          split at hco <;> first | (injection hco with hco; subst hco; rfl) | cases hco
        have hel : e < (TL.tl z).length := (List.getElem?_eq_some_iff.mp hc).1
        rw [show (some o).isSome = true from rfl]
        row_room_at rd
        rw [chE hl, decide_eq_false h60]
        row_room_at rd
        refine ⟨z, e + 1, _, rfl, by omega, hz, by rw [ln.s]; decide, fun a H3 h3 ha s3 => ?_, fun q' h3 => (r q' (ber hF (by rw [tt.s] at h3; exact h3))).same s02⟩
        rw [tt.s] at h3
        have hF := bok hF h3; replace hF : F = pTree (TL.tl z) n a >>= _ := hF
        have s03 := s02.trans s3
        have tf3 := TrW.same s3 tf2
        have D3 : ∀ x, H3 x = none → H x = none := fun x hx => none_back s03 hx
        clear h3 tf2
        row_room_at rd
        refine ⟨z, a, rfl, ha, hz, fun h4 => hne (ber hF h4), fun g e5 u t4 H4 h4 he5 s4 e4 tg pg => ?_, fun q' h4 => (r q' (ber hF h4)).same s03⟩
        have hF := bok hF h4; replace hF : F = sgAt (TL.tl z) e5 [41] >>= _ := hF
        have s04 := s03.trans s4
        have tf4 := TrW.same s4 tf3
        have tg4 := TrW.weak D3 tg
        clear h4 tf3 tg
        row_room_at rd
        refine ⟨_, _, _, rfl, rfl, by rw [ch_some hc, hcs]; exact ka o, ?_⟩
        row_room_at rd
        refine rd_new fun t6 H6 ht6 s6 e6 => ?_
        row_room_at rd
        refine ⟨z, e5, _, rfl, he5, hz, by rw [ln.c]; decide, fun a7 H7 h7 ha7 s7 => ?_, fun q' h7 => (r q' (ber hF (by rw [tt.c] at h7; exact h7))).same (s04.trans s6)⟩
        rw [tt.c] at h7
        have hF := bok hF h7
        row_room_at rd
        refine rd_new fun u8 H8 hu8 s8 e8 => ?_
        have s58 := s6.trans (s7.trans s8)
        refine q (.bin o f g) a7 u8 t6 H8 hF ha7 (s04.trans s58) e8 ?_ ⟨pf, pg⟩
        simp only [TrW]
        exact ⟨t1, t4, s8 _ _ (s7 _ _ e6), TrW.same s58 tf4, TrW.same s58 tg4⟩

end
end KM
set_option Elab.async false
set_option linter.all false
set_option maxRecDepth 100000
set_option maxHeartbeats 8000000
namespace KM
open PySem PySem.Spec PyProof.Rows L2 He Sw L2H
section
variable {P : Program} {w : World} {K : PySem.W.Frag} {mg : Str → Option Value} {base : Heap}
local macro_rules | `(tactic| row_room_at ne) => `(tactic| with_reducible assumption)
local macro_rules | `(tactic| row_room_at hp) => `(tactic| (apply SameBut.use; with_reducible assumption; rotate_left; row_room_at hp; row_room_at ne))
local macro_rules | `(tactic| row_room_at hp) => `(tactic| (apply FoAt.same; rotate_left; with_reducible assumption; row_room_at hp))
local macro_rules | `(tactic| row_room_at hp) => `(tactic| (apply Sw.Same.use; with_reducible assumption; row_room_at hp))
local macro_rules | `(tactic| row_room_at hp) => `(tactic| (apply SqT.of; row_room_at hp))
local macro_rules | `(tactic| row_room_at hp) => `(tactic| (apply SqL.of; row_room_at hp))
local macro_rules | `(tactic| row_room_at hp) => `(tactic| with_reducible assumption)
local macro_rules | `(tactic| row_room_at ati) => `(tactic| first | with_reducible assumption | rfl | (apply atI_nat; rfl))
local macro_rules | `(tactic| row_room_at cc) => `(tactic| first | with_reducible assumption | omega | decide | (refine ⟨?_, ?_⟩ <;> first | decide | omega) | (refine ⟨?_, ?_, ?_⟩ <;> first | decide | omega) | (left; refine ⟨?_, ?_⟩ <;> first | decide | omega) | (right; refine ⟨?_, ?_⟩ <;> first | decide | omega))
local macro_rules | `(tactic| row_room_at rdts) => `(tactic| with_reducible apply rd_retN)
local macro_rules | `(tactic| row_room_at rdts) => `(tactic| with_reducible apply rd_cont)
local macro_rules | `(tactic| row_room_at rdts) => `(tactic| with_reducible apply rd_brk)
local macro_rules | `(tactic| row_room_at rdts) => `(tactic| with_reducible apply rd_dput)
local macro_rules | `(tactic| row_room_at rdts) => `(tactic| with_reducible apply rd_drop)
local macro_rules | `(tactic| row_room_at rdts) => `(tactic| with_reducible apply rd_for)
local macro_rules | `(tactic| row_room_at rdts) => `(tactic| with_reducible apply rd_ret)
local macro_rules | `(tactic| row_room_at rdts) => `(tactic| with_reducible apply rd_next)
local macro_rules | `(tactic| row_room_at rdts) => `(tactic| with_reducible apply rd_ifS)
local macro_rules | `(tactic| row_room_at rdts) => `(tactic| with_reducible apply rd_asg)
local macro_rules | `(tactic| row_room_at rdts) => `(tactic| with_reducible refine rd_seqN fun _ _ => ?_)
local macro_rules | `(tactic| row_room_at rdit) => `(tactic| with_reducible refine rd_iteNF (by with_unfolding_all decide +kernel) ?_)
local macro_rules | `(tactic| row_room_at rdit) => `(tactic| with_reducible refine rd_iteNT (by with_unfolding_all decide +kernel) ?_)
local macro_rules | `(tactic| row_room_at rdit) => `(tactic| with_reducible apply rd_iteN0)
local macro_rules | `(tactic| row_room_at rdit) => `(tactic| with_reducible apply rd_iteN1)
local macro_rules | `(tactic| row_room_at rdit) => `(tactic| with_reducible apply rd_ite1)
local macro_rules | `(tactic| row_room_at rdit) => `(tactic| with_reducible apply rd_ite0)
local macro_rules | `(tactic| row_room_at rdit) => `(tactic| with_reducible refine rd_iteT (by with_unfolding_all decide +kernel) ?_)
local macro_rules | `(tactic| row_room_at rdit) => `(tactic| with_reducible refine rd_iteF (by with_unfolding_all decide +kernel) ?_)
local macro_rules | `(tactic| row_room_at rdex) => `(tactic| with_reducible apply rd_inS)
local macro_rules | `(tactic| row_room_at rdex) => `(tactic| with_reducible apply rd_min2)
local macro_rules | `(tactic| row_room_at rdex) => `(tactic| with_reducible apply rd_1S)
local macro_rules | `(tactic| row_room_at rdex) => `(tactic| with_reducible apply rd_2S)
local macro_rules | `(tactic| row_room_at rdex) => `(tactic| with_reducible refine rd_fld' (by with_unfolding_all row_room_at hp) (by with_unfolding_all assumption) (by with_unfolding_all assumption) (by with_unfolding_all rfl) ?_)
local macro_rules | `(tactic| row_room_at rdex) => `(tactic| with_reducible refine rd_ty (by with_unfolding_all row_room_at hp) ?_)
local macro_rules | `(tactic| row_room_at rdex) => `(tactic| with_reducible refine rd_itup' (by with_unfolding_all row_room_at hp) ?_)
local macro_rules | `(tactic| row_room_at rdex) => `(tactic| with_reducible refine rd_ilist' (by with_unfolding_all row_room_at hp) ?_)
local macro_rules | `(tactic| row_room_at rdex) => `(tactic| with_reducible apply rd_1B)
local macro_rules | `(tactic| row_room_at rdex) => `(tactic| with_reducible refine rd_dgetS (by with_unfolding_all row_room_at hp) (by with_unfolding_all assumption) ?_)
local macro_rules | `(tactic| row_room_at rdex) => `(tactic| with_reducible refine rd_dget' (by with_unfolding_all row_room_at hp) (by with_unfolding_all rfl) (by with_unfolding_all assumption) ?_)
local macro_rules | `(tactic| row_room_at rdex) => `(tactic| with_reducible refine rd_len (by with_unfolding_all first | exact .inl (by row_room_at hp) | exact .inr (by row_room_at hp)) ?_)
local macro_rules | `(tactic| row_room_at rdex) => `(tactic| with_reducible refine rd_lenQ (by with_unfolding_all first | exact .inl (by row_room_at hp) | exact .inr (by row_room_at hp)) ?_)
local macro_rules | `(tactic| row_room_at rdex) => `(tactic| with_reducible apply rd_2I)
local macro_rules | `(tactic| row_room_at rdex) => `(tactic| with_reducible refine rd_b62 (by with_unfolding_all first | decide | (constructor <;> omega)) ?_)
local macro_rules | `(tactic| row_room_at rdex) => `(tactic| with_reducible refine rd_lenS (by with_unfolding_all omega) ?_)
local macro_rules | `(tactic| row_room_at rdex) => `(tactic| with_reducible apply rd_1I)
local macro_rules | `(tactic| row_room_at rdex) => `(tactic| with_reducible apply rd_int1)
local macro_rules | `(tactic| row_room_at rdex) => `(tactic| with_reducible apply rd_iv)
local macro_rules | `(tactic| row_room_at rdex) => `(tactic| with_reducible refine rd_sz (by with_unfolding_all first | decide | (simp only [List.length_append, List.length_map, List.length_cons, List.length_nil, List.length_take]; omega)) ?_)
local macro_rules | `(tactic| row_room_at rdex) => `(tactic| with_reducible apply rd_bl)
local macro_rules | `(tactic| row_room_at rdhd) => `(tactic| with_reducible apply rd_m1)
local macro_rules | `(tactic| row_room_at rdhd) => `(tactic| with_reducible apply rd_fld)
local macro_rules | `(tactic| row_room_at rdhd) => `(tactic| with_reducible refine rd_append (by with_unfolding_all row_room_at hp) (by with_unfolding_all first | decide | (simp only [List.length_append, List.length_map, List.length_cons, List.length_nil]; omega)) ?_)
local macro_rules | `(tactic| row_room_at rdhd) => `(tactic| with_reducible apply rd_bm)
local macro_rules | `(tactic| row_room_at rdhd) => `(tactic| with_reducible apply rd_yes)
local macro_rules | `(tactic| row_room_at rdhd) => `(tactic| with_reducible apply rd_lc)
local macro_rules | `(tactic| row_room_at rdhd) => `(tactic| with_reducible apply rd_itup)
local macro_rules | `(tactic| row_room_at rdhd) => `(tactic| with_reducible apply rd_ilist)
local macro_rules | `(tactic| row_room_at rdhd) => `(tactic| with_reducible refine rd_dictK (by with_unfolding_all row_room_at hp) ?_)
local macro_rules | `(tactic| row_room_at rdhd) => `(tactic| with_reducible refine rd_lenK (by with_unfolding_all first | exact .inl (by row_room_at hp) | exact .inr (by row_room_at hp)) ?_)
local macro_rules | `(tactic| row_room_at rdhd) => `(tactic| with_reducible apply rd_methI)
local macro_rules | `(tactic| row_room_at rdhd) => `(tactic| with_reducible apply rd_dget)
local macro_rules | `(tactic| row_room_at rdhd) => `(tactic| with_reducible apply rd_if)
local macro_rules | `(tactic| row_room_at rdhd) => `(tactic| with_reducible apply rd_notV)
local macro_rules | `(tactic| row_room_at rdhd) => `(tactic| with_reducible apply rd_orV)
local macro_rules | `(tactic| row_room_at rdhd) => `(tactic| with_reducible apply rd_andV)
local macro_rules | `(tactic| row_room_at rdhd) => `(tactic| with_reducible apply rd_U)
local macro_rules | `(tactic| row_room_at rdhd) => `(tactic| with_reducible apply rd_un)
local macro_rules | `(tactic| row_room_at rdhd) => `(tactic| with_reducible refine rd_cat (by with_unfolding_all row_room_at hp) (by with_unfolding_all row_room_at hp) (by with_unfolding_all first | decide | (simp only [List.length_append, List.length_map, List.length_cons, List.length_nil, List.length_take]; omega)) ?_)
local macro_rules | `(tactic| row_room_at rdhd) => `(tactic| with_reducible refine rd_slL (by with_unfolding_all row_room_at hp) ?_)
local macro_rules | `(tactic| row_room_at rdhd) => `(tactic| with_reducible apply rd_nopart)
local macro_rules | `(tactic| row_room_at rdhd) => `(tactic| with_reducible apply rd_make)
local macro_rules | `(tactic| row_room_at rdhd) => `(tactic| with_reducible apply rd_kt)
local macro_rules | `(tactic| row_room_at rdhd) => `(tactic| with_reducible apply rd_rng1)
local macro_rules | `(tactic| row_room_at rdhd) => `(tactic| with_reducible refine rd_ne (by with_unfolding_all rfl) ?_)
local macro_rules | `(tactic| row_room_at rdhd) => `(tactic| with_reducible apply rd_and)
local macro_rules | `(tactic| row_room_at rdhd) => `(tactic| with_reducible apply rd_B)
local macro_rules | `(tactic| row_room_at rdhd) => `(tactic| with_reducible apply rd_not)
local macro_rules | `(tactic| row_room_at rdhd) => `(tactic| with_reducible refine rd_ixL (by with_unfolding_all row_room_at hp) (by with_unfolding_all row_room_at ati) ?_)
local macro_rules | `(tactic| row_room_at rdhd) => `(tactic| with_reducible apply rd_gNil)
local macro_rules | `(tactic| row_room_at rdhd) => `(tactic| with_reducible refine rd_gTup (by with_unfolding_all (apply SqT.of; row_room_at hp)) (by with_unfolding_all rfl) ?_)
local macro_rules | `(tactic| row_room_at rdhd) => `(tactic| with_reducible apply rd_sl)
local macro_rules | `(tactic| row_room_at rdhd) => `(tactic| with_reducible refine rd_I (by with_unfolding_all row_room_at cc) ?_)
local macro_rules | `(tactic| row_room_at rdhd) => `(tactic| with_reducible apply rd_or)
local macro_rules | `(tactic| row_room_at rdhd) => `(tactic| with_reducible apply rd_lst)
local macro_rules | `(tactic| row_room_at rdhd) => `(tactic| with_reducible apply rd_gCons)
local macro_rules | `(tactic| row_room_at rdhd) => `(tactic| with_reducible apply rd_part)
local macro_rules | `(tactic| row_room_at rdhd) => `(tactic| with_reducible apply rd_tup)
local macro_rules | `(tactic| row_room_at rdhd) => `(tactic| with_reducible apply rd_I0)
local macro_rules | `(tactic| row_room_at rdhd) => `(tactic| with_reducible apply rd_CB)
local macro_rules | `(tactic| row_room_at rdhd) => `(tactic| with_reducible refine rd_ixT (by with_unfolding_all row_room_at hp) (by with_unfolding_all row_room_at ati) ?_)
local macro_rules | `(tactic| row_room_at rdhd) => `(tactic| with_reducible refine rd_eq (by with_unfolding_all rfl) ?_)
local macro_rules | `(tactic| row_room_at rdhd) => `(tactic| with_reducible apply rd_call)
local macro_rules | `(tactic| row_room_at rdhd) => `(tactic| with_reducible apply rd_gName)
local macro_rules | `(tactic| row_room_at rdhd) => `(tactic| with_reducible apply rd_test)
local macro_rules | `(tactic| row_room_at rdhd) => `(tactic| with_reducible apply rd_cons)
local macro_rules | `(tactic| row_room_at rdhd) => `(tactic| with_reducible apply rd_consC)
local macro_rules | `(tactic| row_room_at rdhd) => `(tactic| with_reducible refine rd_consV (by with_unfolding_all rfl) ?_)
local macro_rules | `(tactic| row_room_at rdhd) => `(tactic| with_reducible apply rd_nil)
local macro_rules | `(tactic| row_room_at rdhd) => `(tactic| with_reducible apply rd_c)
local macro_rules | `(tactic| row_room_at rdhd) => `(tactic| with_reducible refine rd_var (by with_unfolding_all rfl) ?_)
local macro_rules | `(tactic| row_room_at rdhd) => `(tactic| with_reducible apply rd_op)
local macro_rules | `(tactic| row_room_at rdsz) => `(tactic| with_reducible refine rd_sz (by with_unfolding_all first | decide | (simp only [List.length_append, List.length_map, List.length_cons, List.length_nil, List.length_take]; omega)) ?_)
local macro_rules | `(tactic| row_room_at rd1) => `(tactic| with_reducible refine rd_unN (by with_reducible assumption) ?_)
local macro_rules | `(tactic| row_room_at rd1) => `(tactic| ((fail_if_success with_reducible apply g_sp); (fail_if_success with_reducible apply g_ite); row_room_at rdex))
local macro_rules | `(tactic| row_room_at rd1) => `(tactic| ((fail_if_success with_reducible apply g_sp); (fail_if_success with_reducible intro _); row_room_at rdhd))
local macro_rules | `(tactic| row_room_at rd1) => `(tactic| row_room_at rdsz)
local macro_rules | `(tactic| row_room_at rd1) => `(tactic| ((with_reducible apply g_ex); row_room_at rdex))
local macro_rules | `(tactic| row_room_at rd1) => `(tactic| ((with_reducible apply g_ite); row_room_at rdit))
local macro_rules | `(tactic| row_room_at rd1) => `(tactic| ((with_reducible apply g_ts); row_room_at rdts))
local macro_rules | `(tactic| row_room_at rd) => `(tactic| repeat row_room_at rd1)
mutual
theorem TrW.base {H0 H1 H : Hp} (s : ∀ x, H0 x = none → H x ≠ none → H1 x = none) : ∀ {f : Fo} {t : Addr}, TrW H0 H f t → TrW H1 H f t
  | .num n, t, e => by simp only [TrW] at e ⊢; exact e
  | .nam z, t, e => by simp only [TrW] at e ⊢; exact e
  | .neg f, t, e => by
    simp only [TrW] at e ⊢
    obtain ⟨a, e, g⟩ := e
    exact ⟨a, e, TrW.base s g⟩
  | .shl f n, t, e => by
    simp only [TrW] at e ⊢
    obtain ⟨a, e, g⟩ := e
    exact ⟨a, e, TrW.base s g⟩
  | .bin o f g, t, e => by
    simp only [TrW] at e ⊢
    obtain ⟨a, b, e, g1, g2⟩ := e
    exact ⟨a, b, e, TrW.base s g1, TrW.base s g2⟩
  | .sum i b f, t, e => by
    simp only [TrW] at e ⊢
    obtain ⟨c, a, e, g1, g2⟩ := e
    exact ⟨c, a, e, TrW.base s g1, TrW.base s g2⟩
  | .call z fs, t, e => by
    simp only [TrW] at e ⊢
    obtain ⟨l, xs, e, e2, hn, g⟩ := e
    exact ⟨l, xs, e, e2, s _ hn (by rw [e2]; exact fun z => nomatch z), TrWs.base s g⟩
theorem TrWs.base {H0 H1 H : Hp} (s : ∀ x, H0 x = none → H x ≠ none → H1 x = none) : ∀ {fs : List Fo} {xs : List Addr}, TrWs H0 H fs xs → TrWs H1 H fs xs
  | [], xs, e => by simp only [TrWs] at e ⊢; exact e
  | f :: fs, xs, e => by
    simp only [TrWs] at e ⊢
    obtain ⟨a, as, e, g1, g2⟩ := e
    exact ⟨a, as, e, TrW.base s g1, TrWs.base s g2⟩
end
theorem pMore_succ (L : List Nat) (n k p : Nat) : pMore L n (k + 1) p = if L[p]? = some 44 then (sgAt L p [44, 32] >>= fun a => pTree L n a >>= fun fe => pMore L n k fe.2 >>= fun ge => .ok (fe.1 :: ge.1, ge.2)) else .ok ([], p) := by rw [pMore]; try rfl
theorem pMore_zero (L : List Nat) (n p : Nat) : pMore L n 0 p = .ok ([], p) := by rw [pMore]
/-- what is still to come of a call -/
def pRest (L : List Nat) (n : Nat) (w : Str) (fs : List Fo) (k e : Nat) : Except Nat (Fo × Nat) := pMore L n k e >>= fun ge => sgAt L ge.2 [41] >>= fun e' => .ok (.call w (fs ++ ge.1), e')
theorem pCallA_eq (L : List Nat) (n : Nat) (w : Str) (p : Nat) : pCallA (pTree L n) (pMore L n 3) L w p = pTree L n p >>= fun fe => pRest L n w [fe.1] 3 fe.2 := by
  unfold pCallA pRest
  cases pTree L n p <;> rfl
theorem pRest_go {L : List Nat} {n : Nat} {w : Str} {fs : List Fo} {k e : Nat} (h : L[e]? = some 44) : pRest L n w fs (k + 1) e = sgAt L e [44, 32] >>= fun a => pTree L n a >>= fun fe => pRest L n w (fs ++ [fe.1]) k fe.2 := by
  unfold pRest
  rw [pMore_succ, if_pos h]
  cases sgAt L e [44, 32] with
  | error q => rfl
  | ok a =>
    show (pTree L n a >>= fun fe => pMore L n k fe.2 >>= fun ge => Except.ok (fe.1 :: ge.1, ge.2)) >>= _ = pTree L n a >>= _
    cases pTree L n a with
    | error q => rfl
    | ok fe =>
      show (pMore L n k fe.2 >>= fun ge => Except.ok (fe.1 :: ge.1, ge.2)) >>= _ = pMore L n k fe.2 >>= _
      cases pMore L n k fe.2 with
      | error q => rfl
      | ok ge =>
        show (sgAt L ge.2 [41] >>= fun e' => Except.ok (Fo.call w (fs ++ fe.1 :: ge.1), e')) = (sgAt L ge.2 [41] >>= fun e' => Except.ok (Fo.call w (fs ++ [fe.1] ++ ge.1), e'))
        rw [List.append_assoc]; rfl
theorem pRest_end {L : List Nat} {n : Nat} {w : Str} {fs : List Fo} {k e : Nat} (h : k = 0 ∨ L[e]? ≠ some 44) : pRest L n w fs k e = sgAt L e [41] >>= fun e' => .ok (.call w fs, e') := by
  unfold pRest
  have : pMore L n k e = .ok ([], e) := by
    cases k with
    | zero => exact pMore_zero L n e
    | succ k => rw [pMore_succ, if_neg (h.resolve_left (by omega))]
  rw [this]
  show (sgAt L e [41] >>= fun e' => Except.ok (Fo.call w (fs ++ []), e')) = _
  rw [List.append_nil]
theorem scE_call_at : FnScope ["text", "at", "name", "thing", "end", "things"] ["text", "at", "name"] (defScope s_call_at) := ⟨rfl, rfl, rfl, by decide +kernel, rfl, by decide +kernel, by decide +kernel⟩
theorem okE_call_at (T : Txt K mg) {n n' : Nat} (hnn : 10 ≤ n') (CT : Cal P w K mg base (L2N.CX P w) n' (ga K "tree_at") ["text", "at"] (spTreeAt K n)) : Cal P w K mg base (L2N.CX P w) (n'+1) (ga K "call_at") ["text", "at", "name"] (spCallAt K n) := by
  obtain ⟨fd, F⟩ := T.f_call_at
  refine ⟨fd, ?_, F.kp, F.bindsN fun _ _ _ _ _ _ us hl => match us, hl with | [_, _, _], _ => rfl⟩
  refine F.ok scE_call_at (fun vs H Q E h => ?_) (fun cdv A outer s H vs Q E hr h => ?_)
  · obtain ⟨_, _, _, rfl, _⟩ := h
    rfl
  have nod := scE_call_at.nd
  have hu := hu_of hr
  refine ⟨_, (pss_cons (ps_asg (pe_callC (E := E) CT (hr.mono (by omega)) rfl (T.g "tree_at") (L2N.passes_call (E := E) (L2N.takes_of rfl rfl rfl rfl) (fun _ _ _ _ h => h)) (pa_cons (pv 0) (pa_cons (pv 1) pa_nil))) (pg_tup rfl (pgs_cons (pg_name (i := 3) nod rfl (Or.inl rfl)) (pgs_cons (pg_name (i := 4) nod rfl (Or.inl rfl)) pgs_nil))))
  (pss_cons (ps_set (i := 5) nod rfl (Or.inl rfl) (pe_lst (pa_cons (pv 3) pa_nil)))
  (pss_cons (ps_while PassesOwn.leaving (PW.pt (pw_and (pt_cmpR op_lt (pe_callB call_len_seq rfl (T.f "len") (by decide +kernel) (pa_cons (pv 5) pa_nil)) (pe_gi (n := 4) rfl T.mThg) (nomark _)) (pw_and1 (pt_cmpR op_eq (pe_slice sl_str (pv 0) (po_some (pv 4)) (po_some (pe_op op_add (pv 4) pe_int))) pe_str (nomark _)))))
    (pss_cons (ps_asg (pe_callC (E := E) CT (hr.mono (by omega)) rfl (T.g "tree_at") (L2N.passes_call (E := E) (L2N.takes_of rfl rfl rfl rfl) (fun _ _ _ _ h => h)) (pa_cons (pv 0) (pa_cons (pe_callC (E := E) (okE_after T) (hr.mono (by omega)) rfl (T.g "after") (L2N.passes_call (E := E) (L2N.takes_of rfl rfl rfl rfl) (fun _ _ _ _ h => h)) (pa_cons (pv 0) (pa_cons (pv 4) (pa_cons pe_str pa_nil)))) pa_nil))) (pg_tup rfl (pgs_cons (pg_name (i := 3) nod rfl (Or.inl rfl)) (pgs_cons (pg_name (i := 4) nod rfl (Or.inl rfl)) pgs_nil))))
    (pss_one (ps_expr (pe_bm PySem.F.plainAttrs_list PySem.F.slot_list_append PySem.F.type_list_append mt_append (pv 5) (pa_cons (pv 3) pa_nil))))))
  (pss_one (ps_ret (pe_tup (pa_cons (pe_tup (pa_cons pe_str (pa_cons (pv 2) (pa_cons (pv 5) pa_nil)))) (pa_cons (pe_callC (E := E) (okE_after T) (hr.mono (by omega)) rfl (T.g "after") (L2N.passes_call (E := E) (L2N.takes_of rfl rfl rfl rfl) (fun _ _ _ _ h => h)) (pa_cons (pv 0) (pa_cons (pv 4) (pa_cons pe_str pa_nil)))) pa_nil)))))))), ?_⟩
  obtain ⟨z, wd, p, rfl, gw, hp, hz, hne, q, r⟩ := h
  have lz := TL.len_tl z
  have ln := lns
  have tt := tls
  have hm : (Str.ofString "," : Str) = ⟨#[44]⟩ := by decide +kernel
  generalize hF0 : (fun L => pCallA (pTree L n) (pMore L n 3) L wd) (TL.tl z) p = F at hne q r
  have hF : F = pTree (TL.tl z) n p >>= _ := hF0.symm.trans (pCallA_eq _ _ _ _)
  clear hF0
  row_room_at rd
  refine ⟨z, p, rfl, hp, hz, fun h2 => hne (ber hF h2), fun f e u t1 H1 h1 he s1 e1 tf pf => ?_, fun q' h1 => r q' (ber hF h1)⟩
  have hF := bok hF h1; replace hF : F = pRest (TL.tl z) n wd [f] 3 e := hF
  clear h1
  row_room_at rd
  refine fun D hD => ?_
  have hHD : H D = none := none_back s1 hD
  have b1 : ∀ x, H x = none → H1 x ≠ none → (upd H D (.lst [])) x = none := fun x hx hy => by
    rw [upd_ne (fun z => hy (by rw [z]; exact hD))]; exact hx
  have up0 : ∀ {H' : Hp} {o : HO}, Same H H' → Same H (upd H' D o) := fun {H' o} s' b o' e => by rw [upd_ne (ne_of_none e hHD)]; exact s' _ _ e
  have e2 : (upd H1 D (.lst [V.ref t1])) D = some (.lst (([t1] : List Addr).map V.ref)) := upd_same
  have s2 : Same H (upd H1 D (.lst [V.ref t1])) := up0 s1
  have tf2 : TrWs (upd H D (.lst [])) (upd H1 D (.lst [V.ref t1])) [f] [t1] := ⟨t1, [], rfl, TrW.same (upd_new hD) (TrW.base b1 tf), rfl⟩
  have d2 : ∀ x, (upd H1 D (.lst [V.ref t1])) x = none → (upd H D (.lst [])) x = none := fun x hx => by
    have nx : x ≠ D := fun z => by rw [z, upd_same] at hx; cases hx
    rw [upd_ne nx] at hx ⊢
    exact none_back s1 hx
  generalize upd H1 D (.lst [V.ref t1]) = H2 at e2 s2 tf2 d2 ⊢
  clear b1 tf e1 s1 hD
  row_room_at rd
  refine ⟨fun m σ H' => ∃ (fs : List Fo) (xs : List Addr) (e : Nat) (tv : V), m = 4 - fs.length ∧ 1 ≤ fs.length ∧ fs.length ≤ 4 ∧ e ≤ z.length ∧ F = pRest (TL.tl z) n wd fs (4 - fs.length) e ∧ Fo.PreL fs ∧ TrWs (upd H D (.lst [])) H' fs xs ∧ H' D = some (.lst (xs.map V.ref)) ∧ Same H H' ∧ (∀ x, H' x = none → (upd H D (.lst [])) x = none) ∧ σ = [some (.str z), some (.int p), some (.str wd), some tv, some (.int e), some (.ref D)], ⟨3, [f], [t1], e, _, rfl, Nat.le_refl _, by show 1 ≤ 4; decide, he, hF, ⟨pf, trivial⟩, tf2, e2, s2, d2, rfl⟩, ?_⟩
  clear hF he pf tf2 e2 s2 d2
  rintro m σ H3 ⟨fs, xs, e, tv, rfl, l1, l4, he, hF, pf, tf, e3, s3, d3, rfl⟩
  have lx := tf.len
  row_room_at rd
  refine ⟨D, _, rfl, .inl (SqL.of e3), ?_⟩
  rw [List.length_map, lx]
  row_room_at rd
  by_cases hk : fs.length < 4
  · rw [decide_eq_true (by omega : ((fs.length : Nat) : Int) < 4)]
    row_room_at rd
    refine rd_one e rfl rfl hz ?_
    row_room_at rd
    rw [chE hm]
    by_cases h44 : (TL.tl z)[e]? = some 44
    · rw [decide_eq_true h44]
      rw [show 4 - fs.length = (4 - (fs.length + 1)) + 1 by omega, pRest_go h44] at hF
      row_room_at rd
      refine ⟨_, fun _ _ h => h, ?_⟩
      row_room_at rd
      refine ⟨z, e, _, rfl, he, hz, by rw [ln.k]; decide, fun a H4 h4 ha s4 => ?_, fun q' h4 => (r q' (ber hF (by rw [tt.k] at h4; exact h4))).same s3⟩
      rw [tt.k] at h4
      have hF := bok hF h4; replace hF : F = pTree (TL.tl z) n a >>= _ := hF
      have s04 := s3.trans s4
      clear h4
      row_room_at rd
      refine ⟨z, a, rfl, ha, hz, fun h5 => hne (ber hF h5), fun g e5 u t5 H5 h5 he5 s5 e5' tg pg => ?_, fun q' h5 => (r q' (ber hF h5)).same s04⟩
      have hF := bok hF h5; replace hF : F = pRest (TL.tl z) n wd (fs ++ [g]) (4 - (fs.length + 1)) e5 := hF
      clear h5
      have s05 := s04.trans s5
      have eD := s5 _ _ (s4 _ _ e3)
      have D4 : ∀ x, H4 x = none → (upd H D (.lst [])) x = none := fun x hx => d3 x (none_back s4 hx)
      have tg5 := TrW.weak D4 tg
      have tf5 := TrWs.same (s4.trans s5) tf
      have dD : H5 D = some (.lst (xs.map V.ref)) ∧ (upd H D (.lst [])) D ≠ none := ⟨eD, by rw [upd_same]; exact fun z => nomatch z⟩
      row_room_at rd
      refine ⟨4 - (fs.length + 1), by omega, fs ++ [g], xs ++ [t5], e5, _, by rw [List.length_append]; rfl, by rw [List.length_append]; omega, by rw [List.length_append]; show fs.length + 1 ≤ 4; omega, he5, by rw [List.length_append]; exact hF, Fo.preL_snoc pf pg, TrWs.snoc (TrWs.updD dD tf5) (TrW.updD dD tg5), by rw [upd_same, List.map_append]; rfl, up0 s05, fun x hx => ?_, rfl⟩
      have nx : x ≠ D := fun z => by rw [z, upd_same] at hx; cases hx
      rw [upd_ne nx] at hx
      exact D4 x (none_back s5 hx)
    · rw [decide_eq_false h44]
      row_room_at rd
      have hF : F = sgAt (TL.tl z) e [41] >>= _ := hF.trans (pRest_end (.inr h44))
      row_room_at rd
      refine rd_new fun t6 H6 ht6 s6 e6 => ?_
      row_room_at rd
      refine ⟨z, e, _, rfl, he, hz, by rw [ln.c]; decide, fun a7 H7 h7 ha7 s7 => ?_, fun q' h7 => (r q' (ber hF (by rw [tt.c] at h7; exact h7))).same (s3.trans s6)⟩
      rw [tt.c] at h7
      have hF := bok hF h7
      row_room_at rd
      refine rd_new fun u8 H8 hu8 s8 e8 => ?_
      have s58 := s6.trans (s7.trans s8)
      refine q (.call wd fs) a7 u8 t6 H8 hF ha7 (s3.trans s58) e8 ?_ ⟨gw, l1, l4, pf⟩
      simp only [TrW]
      exact ⟨D, xs, s8 _ _ (s7 _ _ e6), s58 _ _ e3, hHD, TrWs.same s58 (TrWs.weak (fun x hx => by
        have nx : x ≠ D := fun z => by rw [z, upd_same] at hx; cases hx
        rw [upd_ne nx] at hx; exact hx) tf)⟩
  · rw [decide_eq_false (by omega : ¬ ((fs.length : Nat) : Int) < 4)]
    row_room_at rd
    have hF : F = sgAt (TL.tl z) e [41] >>= _ := hF.trans (pRest_end (.inl (by omega)))
    row_room_at rd
    refine rd_new fun t6 H6 ht6 s6 e6 => ?_
    row_room_at rd
    refine ⟨z, e, _, rfl, he, hz, by rw [ln.c]; decide, fun a7 H7 h7 ha7 s7 => ?_, fun q' h7 => (r q' (ber hF (by rw [tt.c] at h7; exact h7))).same (s3.trans s6)⟩
    rw [tt.c] at h7
    have hF := bok hF h7
    row_room_at rd
    refine rd_new fun u8 H8 hu8 s8 e8 => ?_
    have s58 := s6.trans (s7.trans s8)
    refine q (.call wd fs) a7 u8 t6 H8 hF ha7 (s3.trans s58) e8 ?_ ⟨gw, l1, l4, pf⟩
    simp only [TrW]
    exact ⟨D, xs, s8 _ _ (s7 _ _ e6), s58 _ _ e3, hHD, TrWs.same s58 (TrWs.weak (fun x hx => by
      have nx : x ≠ D := fun z => by rw [z, upd_same] at hx; cases hx
      rw [upd_ne nx] at hx; exact hx) tf)⟩

end
end KM
set_option Elab.async false
set_option linter.all false
set_option maxRecDepth 100000
set_option maxHeartbeats 8000000
namespace KM
open PySem PySem.Spec PyProof.Rows L2 He Sw L2H
section
variable {P : Program} {w : World} {K : PySem.W.Frag} {mg : Str → Option Value} {base : Heap}
local macro_rules | `(tactic| row_room_at ne) => `(tactic| with_reducible assumption)
local macro_rules | `(tactic| row_room_at hp) => `(tactic| (apply SameBut.use; with_reducible assumption; rotate_left; row_room_at hp; row_room_at ne))
local macro_rules | `(tactic| row_room_at hp) => `(tactic| (apply FoAt.same; rotate_left; with_reducible assumption; row_room_at hp))
local macro_rules | `(tactic| row_room_at hp) => `(tactic| (apply Sw.Same.use; with_reducible assumption; row_room_at hp))
local macro_rules | `(tactic| row_room_at hp) => `(tactic| (apply SqT.of; row_room_at hp))
local macro_rules | `(tactic| row_room_at hp) => `(tactic| (apply SqL.of; row_room_at hp))
local macro_rules | `(tactic| row_room_at hp) => `(tactic| with_reducible assumption)
local macro_rules | `(tactic| row_room_at ati) => `(tactic| first | with_reducible assumption | rfl | (apply atI_nat; rfl))
local macro_rules | `(tactic| row_room_at cc) => `(tactic| first | with_reducible assumption | omega | decide | (refine ⟨?_, ?_⟩ <;> first | decide | omega) | (refine ⟨?_, ?_, ?_⟩ <;> first | decide | omega) | (left; refine ⟨?_, ?_⟩ <;> first | decide | omega) | (right; refine ⟨?_, ?_⟩ <;> first | decide | omega))
local macro_rules | `(tactic| row_room_at rdts) => `(tactic| with_reducible apply rd_retN)
local macro_rules | `(tactic| row_room_at rdts) => `(tactic| with_reducible apply rd_cont)
local macro_rules | `(tactic| row_room_at rdts) => `(tactic| with_reducible apply rd_brk)
local macro_rules | `(tactic| row_room_at rdts) => `(tactic| with_reducible apply rd_dput)
local macro_rules | `(tactic| row_room_at rdts) => `(tactic| with_reducible apply rd_drop)
local macro_rules | `(tactic| row_room_at rdts) => `(tactic| with_reducible apply rd_for)
local macro_rules | `(tactic| row_room_at rdts) => `(tactic| with_reducible apply rd_ret)
local macro_rules | `(tactic| row_room_at rdts) => `(tactic| with_reducible apply rd_next)
local macro_rules | `(tactic| row_room_at rdts) => `(tactic| with_reducible apply rd_ifS)
local macro_rules | `(tactic| row_room_at rdts) => `(tactic| with_reducible apply rd_asg)
local macro_rules | `(tactic| row_room_at rdts) => `(tactic| with_reducible refine rd_seqN fun _ _ => ?_)
local macro_rules | `(tactic| row_room_at rdit) => `(tactic| with_reducible refine rd_iteNF (by with_unfolding_all decide +kernel) ?_)
local macro_rules | `(tactic| row_room_at rdit) => `(tactic| with_reducible refine rd_iteNT (by with_unfolding_all decide +kernel) ?_)
local macro_rules | `(tactic| row_room_at rdit) => `(tactic| with_reducible apply rd_iteN0)
local macro_rules | `(tactic| row_room_at rdit) => `(tactic| with_reducible apply rd_iteN1)
local macro_rules | `(tactic| row_room_at rdit) => `(tactic| with_reducible apply rd_ite1)
local macro_rules | `(tactic| row_room_at rdit) => `(tactic| with_reducible apply rd_ite0)
local macro_rules | `(tactic| row_room_at rdit) => `(tactic| with_reducible refine rd_iteT (by with_unfolding_all decide +kernel) ?_)
local macro_rules | `(tactic| row_room_at rdit) => `(tactic| with_reducible refine rd_iteF (by with_unfolding_all decide +kernel) ?_)
local macro_rules | `(tactic| row_room_at rdex) => `(tactic| with_reducible apply rd_inS)
local macro_rules | `(tactic| row_room_at rdex) => `(tactic| with_reducible apply rd_min2)
local macro_rules | `(tactic| row_room_at rdex) => `(tactic| with_reducible apply rd_1S)
local macro_rules | `(tactic| row_room_at rdex) => `(tactic| with_reducible apply rd_2S)
local macro_rules | `(tactic| row_room_at rdex) => `(tactic| with_reducible refine rd_fld' (by with_unfolding_all row_room_at hp) (by with_unfolding_all assumption) (by with_unfolding_all assumption) (by with_unfolding_all rfl) ?_)
local macro_rules | `(tactic| row_room_at rdex) => `(tactic| with_reducible refine rd_ty (by with_unfolding_all row_room_at hp) ?_)
local macro_rules | `(tactic| row_room_at rdex) => `(tactic| with_reducible refine rd_itup' (by with_unfolding_all row_room_at hp) ?_)
local macro_rules | `(tactic| row_room_at rdex) => `(tactic| with_reducible refine rd_ilist' (by with_unfolding_all row_room_at hp) ?_)
local macro_rules | `(tactic| row_room_at rdex) => `(tactic| with_reducible apply rd_1B)
local macro_rules | `(tactic| row_room_at rdex) => `(tactic| with_reducible refine rd_dgetS (by with_unfolding_all row_room_at hp) (by with_unfolding_all assumption) ?_)
local macro_rules | `(tactic| row_room_at rdex) => `(tactic| with_reducible refine rd_dget' (by with_unfolding_all row_room_at hp) (by with_unfolding_all rfl) (by with_unfolding_all assumption) ?_)
local macro_rules | `(tactic| row_room_at rdex) => `(tactic| with_reducible refine rd_len (by with_unfolding_all first | exact .inl (by row_room_at hp) | exact .inr (by row_room_at hp)) ?_)
local macro_rules | `(tactic| row_room_at rdex) => `(tactic| with_reducible refine rd_lenQ (by with_unfolding_all first | exact .inl (by row_room_at hp) | exact .inr (by row_room_at hp)) ?_)
local macro_rules | `(tactic| row_room_at rdex) => `(tactic| with_reducible apply rd_2I)
local macro_rules | `(tactic| row_room_at rdex) => `(tactic| with_reducible refine rd_b62 (by with_unfolding_all first | decide | (constructor <;> omega)) ?_)
local macro_rules | `(tactic| row_room_at rdex) => `(tactic| with_reducible refine rd_lenS (by with_unfolding_all omega) ?_)
local macro_rules | `(tactic| row_room_at rdex) => `(tactic| with_reducible apply rd_1I)
local macro_rules | `(tactic| row_room_at rdex) => `(tactic| with_reducible apply rd_int1)
local macro_rules | `(tactic| row_room_at rdex) => `(tactic| with_reducible apply rd_iv)
local macro_rules | `(tactic| row_room_at rdex) => `(tactic| with_reducible refine rd_sz (by with_unfolding_all first | decide | (simp only [List.length_append, List.length_map, List.length_cons, List.length_nil, List.length_take]; omega)) ?_)
local macro_rules | `(tactic| row_room_at rdex) => `(tactic| with_reducible apply rd_bl)
local macro_rules | `(tactic| row_room_at rdhd) => `(tactic| with_reducible apply rd_m1)
local macro_rules | `(tactic| row_room_at rdhd) => `(tactic| with_reducible apply rd_fld)
local macro_rules | `(tactic| row_room_at rdhd) => `(tactic| with_reducible refine rd_append (by with_unfolding_all row_room_at hp) (by with_unfolding_all first | decide | (simp only [List.length_append, List.length_map, List.length_cons, List.length_nil]; omega)) ?_)
local macro_rules | `(tactic| row_room_at rdhd) => `(tactic| with_reducible apply rd_bm)
local macro_rules | `(tactic| row_room_at rdhd) => `(tactic| with_reducible apply rd_yes)
local macro_rules | `(tactic| row_room_at rdhd) => `(tactic| with_reducible apply rd_lc)
local macro_rules | `(tactic| row_room_at rdhd) => `(tactic| with_reducible apply rd_itup)
local macro_rules | `(tactic| row_room_at rdhd) => `(tactic| with_reducible apply rd_ilist)
local macro_rules | `(tactic| row_room_at rdhd) => `(tactic| with_reducible refine rd_dictK (by with_unfolding_all row_room_at hp) ?_)
local macro_rules | `(tactic| row_room_at rdhd) => `(tactic| with_reducible refine rd_lenK (by with_unfolding_all first | exact .inl (by row_room_at hp) | exact .inr (by row_room_at hp)) ?_)
local macro_rules | `(tactic| row_room_at rdhd) => `(tactic| with_reducible apply rd_methI)
local macro_rules | `(tactic| row_room_at rdhd) => `(tactic| with_reducible apply rd_dget)
local macro_rules | `(tactic| row_room_at rdhd) => `(tactic| with_reducible apply rd_if)
local macro_rules | `(tactic| row_room_at rdhd) => `(tactic| with_reducible apply rd_notV)
local macro_rules | `(tactic| row_room_at rdhd) => `(tactic| with_reducible apply rd_orV)
local macro_rules | `(tactic| row_room_at rdhd) => `(tactic| with_reducible apply rd_andV)
local macro_rules | `(tactic| row_room_at rdhd) => `(tactic| with_reducible apply rd_U)
local macro_rules | `(tactic| row_room_at rdhd) => `(tactic| with_reducible apply rd_un)
local macro_rules | `(tactic| row_room_at rdhd) => `(tactic| with_reducible refine rd_cat (by with_unfolding_all row_room_at hp) (by with_unfolding_all row_room_at hp) (by with_unfolding_all first | decide | (simp only [List.length_append, List.length_map, List.length_cons, List.length_nil, List.length_take]; omega)) ?_)
local macro_rules | `(tactic| row_room_at rdhd) => `(tactic| with_reducible refine rd_slL (by with_unfolding_all row_room_at hp) ?_)
local macro_rules | `(tactic| row_room_at rdhd) => `(tactic| with_reducible apply rd_nopart)
local macro_rules | `(tactic| row_room_at rdhd) => `(tactic| with_reducible apply rd_make)
local macro_rules | `(tactic| row_room_at rdhd) => `(tactic| with_reducible apply rd_kt)
local macro_rules | `(tactic| row_room_at rdhd) => `(tactic| with_reducible apply rd_rng1)
local macro_rules | `(tactic| row_room_at rdhd) => `(tactic| with_reducible refine rd_ne (by with_unfolding_all rfl) ?_)
local macro_rules | `(tactic| row_room_at rdhd) => `(tactic| with_reducible apply rd_and)
local macro_rules | `(tactic| row_room_at rdhd) => `(tactic| with_reducible apply rd_B)
local macro_rules | `(tactic| row_room_at rdhd) => `(tactic| with_reducible apply rd_not)
local macro_rules | `(tactic| row_room_at rdhd) => `(tactic| with_reducible refine rd_ixL (by with_unfolding_all row_room_at hp) (by with_unfolding_all row_room_at ati) ?_)
local macro_rules | `(tactic| row_room_at rdhd) => `(tactic| with_reducible apply rd_gNil)
local macro_rules | `(tactic| row_room_at rdhd) => `(tactic| with_reducible refine rd_gTup (by with_unfolding_all (apply SqT.of; row_room_at hp)) (by with_unfolding_all rfl) ?_)
local macro_rules | `(tactic| row_room_at rdhd) => `(tactic| with_reducible apply rd_sl)
local macro_rules | `(tactic| row_room_at rdhd) => `(tactic| with_reducible refine rd_I (by with_unfolding_all row_room_at cc) ?_)
local macro_rules | `(tactic| row_room_at rdhd) => `(tactic| with_reducible apply rd_or)
local macro_rules | `(tactic| row_room_at rdhd) => `(tactic| with_reducible apply rd_lst)
local macro_rules | `(tactic| row_room_at rdhd) => `(tactic| with_reducible apply rd_gCons)
local macro_rules | `(tactic| row_room_at rdhd) => `(tactic| with_reducible apply rd_part)
local macro_rules | `(tactic| row_room_at rdhd) => `(tactic| with_reducible apply rd_tup)
local macro_rules | `(tactic| row_room_at rdhd) => `(tactic| with_reducible apply rd_I0)
local macro_rules | `(tactic| row_room_at rdhd) => `(tactic| with_reducible apply rd_CB)
local macro_rules | `(tactic| row_room_at rdhd) => `(tactic| with_reducible refine rd_ixT (by with_unfolding_all row_room_at hp) (by with_unfolding_all row_room_at ati) ?_)
local macro_rules | `(tactic| row_room_at rdhd) => `(tactic| with_reducible refine rd_eq (by with_unfolding_all rfl) ?_)
local macro_rules | `(tactic| row_room_at rdhd) => `(tactic| with_reducible apply rd_call)
local macro_rules | `(tactic| row_room_at rdhd) => `(tactic| with_reducible apply rd_gName)
local macro_rules | `(tactic| row_room_at rdhd) => `(tactic| with_reducible apply rd_test)
local macro_rules | `(tactic| row_room_at rdhd) => `(tactic| with_reducible apply rd_cons)
local macro_rules | `(tactic| row_room_at rdhd) => `(tactic| with_reducible apply rd_consC)
local macro_rules | `(tactic| row_room_at rdhd) => `(tactic| with_reducible refine rd_consV (by with_unfolding_all rfl) ?_)
local macro_rules | `(tactic| row_room_at rdhd) => `(tactic| with_reducible apply rd_nil)
local macro_rules | `(tactic| row_room_at rdhd) => `(tactic| with_reducible apply rd_c)
local macro_rules | `(tactic| row_room_at rdhd) => `(tactic| with_reducible refine rd_var (by with_unfolding_all rfl) ?_)
local macro_rules | `(tactic| row_room_at rdhd) => `(tactic| with_reducible apply rd_op)
local macro_rules | `(tactic| row_room_at rdsz) => `(tactic| with_reducible refine rd_sz (by with_unfolding_all first | decide | (simp only [List.length_append, List.length_map, List.length_cons, List.length_nil, List.length_take]; omega)) ?_)
local macro_rules | `(tactic| row_room_at rd1) => `(tactic| with_reducible refine rd_unN (by with_reducible assumption) ?_)
local macro_rules | `(tactic| row_room_at rd1) => `(tactic| ((fail_if_success with_reducible apply g_sp); (fail_if_success with_reducible apply g_ite); row_room_at rdex))
local macro_rules | `(tactic| row_room_at rd1) => `(tactic| ((fail_if_success with_reducible apply g_sp); (fail_if_success with_reducible intro _); row_room_at rdhd))
local macro_rules | `(tactic| row_room_at rd1) => `(tactic| row_room_at rdsz)
local macro_rules | `(tactic| row_room_at rd1) => `(tactic| ((with_reducible apply g_ex); row_room_at rdex))
local macro_rules | `(tactic| row_room_at rd1) => `(tactic| ((with_reducible apply g_ite); row_room_at rdit))
local macro_rules | `(tactic| row_room_at rd1) => `(tactic| ((with_reducible apply g_ts); row_room_at rdts))
local macro_rules | `(tactic| row_room_at rd) => `(tactic| repeat row_room_at rd1)
/-! ### tree_at -/
theorem scE_tree_at : FnScope ["text", "at", "letter", "word", "end", "opened"] ["text", "at"] (defScope s_tree_at) := ⟨rfl, rfl, rfl, by decide +kernel, rfl, by decide +kernel, by decide +kernel⟩
theorem okE_tree_at (T : Txt K mg) (KD : KeysAt K w (ga K "KINDS") ["+", "-", "*", "<"]) : ∀ n, Cal P w K mg base (L2N.CX P w) (2*n+10) (ga K "tree_at") ["text", "at"] (spTreeAt K n)
  | 0 => by
    obtain ⟨fd, F⟩ := T.f_tree_at
    refine ⟨fd, ⟨fun vs H Q E h => ?_, fun A outer s H args us vs Q E _ _ _ _ h => ?_⟩, F.kp, F.bindsN fun _ _ _ _ _ _ us hl => match us, hl with | [_, _], _ => rfl⟩
    · obtain ⟨_, _, rfl, _⟩ := h
      rfl
    · obtain ⟨z, p, _, _, _, hne, _⟩ := h; exact absurd (by show pTree _ _ _ = _; rw [pTree]) hne
  | n + 1 => by
    have GX := okE_tree_at T KD n
    obtain ⟨fd, F⟩ := T.f_tree_at
    refine ⟨fd, ?_, F.kp, F.bindsN fun _ _ _ _ _ _ us hl => match us, hl with | [_, _], _ => rfl⟩
    refine F.ok scE_tree_at (fun vs H Q E h => ?_) (fun cdv A outer s H vs Q E hr h => ?_)
    · obtain ⟨_, _, rfl, _⟩ := h
      rfl
    have nod := scE_tree_at.nd
    have hu := hu_of hr
    refine ⟨_, (pss_cons (ps_set (i := 2) nod rfl (Or.inl rfl) (pe_slice sl_str (pv 0) (po_some (pv 1)) (po_some (pe_op op_add (pv 1) pe_int))))
    (pss_cons (ps_if (pt_cmpR op_eq (pv 2) pe_str (nomark _))
      (pss_one (ps_ret (pe_callC (E := E) (okE_operation_at T (by omega) GX KD) (hr.mono (by omega)) rfl (T.g "operation_at") (L2N.passes_call (E := E) (L2N.takes_of rfl rfl rfl rfl) (fun _ _ _ _ h => h)) (pa_cons (pv 0) (pa_cons (pe_op op_add (pv 1) pe_int) pa_nil)))))
      pss_nil)
    (pss_cons (ps_if (PW.pt (pw_and (pt_cmpR op_ne (pv 2) pe_str (nomark _)) (pw_and1 (pt_cmpR op_in_sign (pv 2) (pe_gs (n := "0123456789") rfl T.dig) rfl))))
      (pss_one (ps_ret (pe_callC (ok_number_at T) (hr.mono (by omega)) rfl (T.g "number_at") pass0 (pa_cons (pv 0) (pa_cons (pv 1) pa_nil)))))
      pss_nil)
    (pss_cons (ps_asg (pe_callC (ok_letters_at T) (hr.mono (by omega)) rfl (T.g "letters_at") pass0 (pa_cons (pv 0) (pa_cons (pv 1) pa_nil))) (pg_tup rfl (pgs_cons (pg_name (i := 3) nod rfl (Or.inl rfl)) (pgs_cons (pg_name (i := 4) nod rfl (Or.inl rfl)) pgs_nil))))
    (pss_cons (ps_set (i := 5) nod rfl (Or.inl rfl) (pe_cmpR op_eq (pe_slice sl_str (pv 0) (po_some (pv 4)) (po_some (pe_op op_add (pv 4) pe_int))) pe_str (nomark _)))
    (pss_cons (ps_if (PW.pt (pw_and (pt_val (pv 5)) (pw_and1 (pt_cmpR op_eq (pv 3) pe_str (nomark _)))))
      (pss_one (ps_ret (pe_callC (E := E) (okE_sum_at T (by omega) GX) (hr.mono (by omega)) rfl (T.g "sum_at") (L2N.passes_call (E := E) (L2N.takes_of rfl rfl rfl rfl) (fun _ _ _ _ h => h)) (pa_cons (pv 0) (pa_cons (pe_op op_add (pv 4) pe_int) pa_nil)))))
      pss_nil)
    (pss_cons (ps_if (PW.pt (pw_and (pt_val (pv 5)) (pw_and1 (pt_val (pe_callC (ok_is_name T) (hr.mono (by omega)) rfl (T.g "is_name") pass0 (pa_cons (pv 3) pa_nil))))))
      (pss_one (ps_ret (pe_callC (E := E) (okE_call_at T (by omega) GX) (hr.mono (by omega)) rfl (T.g "call_at") (L2N.passes_call (E := E) (L2N.takes_of rfl rfl rfl rfl) (fun _ _ _ _ h => h)) (pa_cons (pv 0) (pa_cons (pe_op op_add (pv 4) pe_int) (pa_cons (pv 3) pa_nil))))))
      pss_nil)
    (pss_one (ps_ret (pe_callC (E := E) (okE_name_at T) (hr.mono (by omega)) rfl (T.g "name_at") (L2N.passes_call (E := E) (L2N.takes_of rfl rfl rfl rfl) (fun _ _ _ _ h => h)) (pa_cons (pv 0) (pa_cons (pv 1) pa_nil)))))))))))), ?_⟩
    obtain ⟨z, p, rfl, hp, hz, hne, q, r⟩ := h
    have lz := TL.len_tl z
    have hm : (Str.ofString "(" : Str) = ⟨#[40]⟩ := by decide +kernel
    generalize hF0 : (fun L => pTree L (n + 1)) (TL.tl z) p = F at hne q r
    have hF := hF0.symm.trans (pTree_succ _ _ _)
    clear hF0
    row_room_at rd
    refine rd_one p rfl rfl hz ?_
    row_room_at rd
    rw [chE hm]
    by_cases h40 : (TL.tl z)[p]? = some 40
    · rw [decide_eq_true h40]
      rw [if_pos h40] at hF
      have hl : p < (TL.tl z).length := (List.getElem?_eq_some_iff.mp h40).1
      row_room_at rd
      exact ⟨z, p + 1, rfl, by omega, hz, fun h => hne (hF.trans h), fun f e u t H' h => q f e u t H' (hF.trans h), fun q' h => r q' (hF.trans h)⟩
    rw [decide_eq_false h40]
    rw [if_neg h40] at hF
    row_room_at rd
    rename_i nx hnx
    have key : ((TL.tl z)[p]?.map isD).getD false = false → nx [some (.str z), some (.int p), some (.str (ch (TL.tl z) p)), none, none, none] H := fun hd => by
      rw [if_neg (by rw [hd]; decide)] at hF
      rw [hnx]
      row_room_at rd
      refine ⟨z, p, rfl, hp, hz, fun u H1 hl s1 e1 => ?_⟩
      have l8 := mk_len8 (L := TL.tl z) (letE_le (L := TL.tl z) (p := p)).2
      generalize hw : mk (subL (TL.tl z) p (letE (TL.tl z) p)) = W at e1 l8 hF
      generalize letE (TL.tl z) p = e at hl e1 hF
      clear hnx
      have nmQ : ∀ {H' : Hp}, Same H H' → F = (match pName (TL.tl z) p with
        | .ok (z, e) => .ok (.nam z, e)
        | .error e => .error e) → spRd K pName NmG [.str z, .int p] H' Q E := fun {H'} s' hF => ⟨z, p, rfl, hp, hz, fun w e u v H2 h2 he s2 e2 ⟨g, l8, t, ev, et⟩ => by
          subst ev
          exact q (.nam w) e u t H2 (by rw [hF, h2]) he (s'.trans s2) e2 (by simp only [TrW]; exact et) ⟨g, by omega⟩, fun q' h2 => (r q' (by rw [hF, h2])).same s'⟩
      row_room_at rd
      refine rd_one e rfl rfl hz ?_
      row_room_at rd
      rw [chE hm]
      have hsum : decide (V.str W = V.str (Str.ofString "sum")) = decide (W = "sum") := by simp
      by_cases ho : (TL.tl z)[e]? = some 40
      · have hel : e < (TL.tl z).length := (List.getElem?_eq_some_iff.mp ho).1
        rw [decide_eq_true ho]
        row_room_at rd
        rw [hsum]
        by_cases hsu : W = "sum"
        · rw [if_pos ⟨ho, hsu⟩] at hF
          rw [decide_eq_true hsu]
          row_room_at rd
          exact ⟨z, e + 1, rfl, by omega, hz, fun h => hne (hF.trans h), fun f e u t H' h he s' eu tr => q f e u t H' (hF.trans h) he (s1.trans s') eu (TrW.weak (fun x hx => none_back s1 hx) tr), fun q' h => (r q' (hF.trans h)).same s1⟩
        · rw [if_neg (fun h => hsu h.2)] at hF
          rw [decide_eq_false hsu]
          row_room_at rd
          refine ⟨_, _, rfl, .str W (by omega), fun H2 s2 => ?_⟩
          have s12 := s1.trans s2
          show ∃ k, V.bl (isNmS W) = .bl k ∧ _
          row_room_at rd
          cases g : isNmS W with
          | true =>
            rw [if_pos ⟨ho, g⟩] at hF
            row_room_at rd
            exact ⟨z, W, e + 1, rfl, ⟨g, by omega⟩, by omega, hz, fun h => hne (hF.trans h), fun f e u t H' h he s' eu tr => q f e u t H' (hF.trans h) he (s12.trans s') eu (TrW.weak (fun x hx => none_back s12 hx) tr), fun q' h => (r q' (hF.trans h)).same s12⟩
          | false =>
            rw [if_neg (fun h => by rw [g] at h; exact absurd h.2 (by decide))] at hF
            row_room_at rd
            exact nmQ s12 hF
      · rw [if_neg (fun h => ho h.1), if_neg (fun h => ho h.1)] at hF
        rw [decide_eq_false ho]
        row_room_at rd
        exact nmQ s1 hF
    clear hnx
    cases hc : (TL.tl z)[p]? with
    | none =>
      rw [ch_none hc, decide_eq_true (show V.str (⟨#[]⟩ : Str) = V.str (Str.ofString "") from congrArg V.str (by decide +kernel))]
      have k := key (by rw [hc]; rfl)
      rw [ch_none hc] at k
      row_room_at rd
      exact k
    | some c =>
      have nz : decide (V.str (⟨#[c]⟩ : Str) = V.str (Str.ofString "")) = false := decide_eq_false fun h => by
        injection h with h
        have := congrArg Str.length h
        rw [show (Str.ofString "").length = 0 by decide +kernel] at this
        cases this
      rw [ch_some hc, nz]
      row_room_at rd
      rw [DIG_isD]
      cases il : isD c with
      | false =>
        have k := key (by rw [hc]; exact il)
        rw [ch_some hc] at k
        row_room_at rd
        exact k
      | true =>
        rw [if_pos (by rw [hc]; exact il)] at hF
        row_room_at rd
        refine ⟨z, p, c, rfl, hz, hc, il, fun t u H' hl s' et eu n0 n1 => ?_⟩
        exact q (.num (pNum (TL.tl z) p).1) (numE (TL.tl z) p) u t H' hF hl s' eu (by simp only [TrW]; exact et) ⟨n0, n1⟩

end
end KM
set_option Elab.async false
set_option linter.all false
set_option maxRecDepth 100000
set_option maxHeartbeats 4000000
namespace PySem.SeqAt
open AutoSeq1 (wpAny_loadPart')
open MeetsSeq
theorem swAA_str_dict (b : Str) (u : Tok) (l : Addr) (o : Obj) (hc : o.cls = .type "dict") (hd : ∃ es n, o.data = .dict es n) :
    Meets (Builtin.«str.__eq__» ⟨[.str b u, .ref l], []⟩) (fun _ R s => s.heap.get? l = some o ∧ R (.ok (.ret .notImplemented)) s) :=
  .of_wp fun prog w A R s h => by obtain ⟨c, dd, da, sl⟩ := o; obtain ⟨es, n, hd⟩ := hd; simp only at hc hd; subst hc hd; obtain ⟨hp, g, d, tk, os⟩ := s; obtain ⟨hl, h⟩ := h; wp_walk using wpAny_loadPart' hl, wpAny_load hl; exact ⟨_, rfl, h⟩
theorem swAA_dict_str {prog : Program} {w : World} {A : Around} {E : Value → Shared → Prop} {s : Shared} {d : Addr} {b : Str} {u : Tok} {Q : Value → Shared → Prop} (hT : s.TypeIs (.ref d) "dict") (h : Q .notImplemented s) :
    wpAny (model prog w) A (call (.builtin "dict.__eq__") [.ref d, .str b u]) Q E s := by
  refine wpAny_call_entry PySem.F.slot_dict_eq_refl hT PySem.F.entry_dict_eq ?_ (PySem.F.args_dict_eq_2 _ _)
  show wpAny _ _ (Builtin.Dict.dictSlotArgs "__eq__" ⟨[.ref d, .str b u], []⟩ >>= _) _ _ s
  refine wpAny_bind ?_
  unfold Builtin.Dict.dictSlotArgs
  refine wpAny_bind (wpAny_notOrdered_dict hT ?_)
  show wpAny _ _ (pure (Value.ref d, Value.str b u)) _ _ s
  refine wpAny_pure ?_
  refine wpAny_bind (wpAny_isInstance (T := "str") (typeIs_str s b u) PySem.F.sub_str_dict ?_)
  simp only [Bool.not_false, if_true]
  exact wpAny_bind (wpAny_rule (wpAny_pure ⟨_, rfl, h⟩))
theorem swAA_eq {A : Around} {s : Shared} {d : Addr} {o : Obj} (b : Str) (u : Tok) (ho : s.heap.get? d = some o) (hc : o.cls = .type "dict") (hd : ∃ es n, o.data = .dict es n) (hu : A.units < cLine) : EqAt A s (.str b u) (.ref d) false := fun prog w E Q h => by
  have hT : s.TypeIs (.ref d) "dict" := ⟨o, ho, hc⟩
  unfold eqBool
  refine wpAny_holding ?_
  refine wpAny_ite_split (fun hab => absurd (eq_of_beq hab) nofun) (fun _ => ?_)
  refine wpAny_bind ?_
  exact rc_eq_decline_or (k := false) (typeIs_str s b u) hT (by decide) F.sub_dict_str F.slot_str_eq F.slot_dict_eq_refl
    (fun _ hq => call_meets F.slot_str_eq (typeIs_str s b u) F.entry_str_eq (F.args_str_eq_2 _ _) (swAA_str_dict b u d o hc hd) ⟨ho, hq⟩)
    (fun _ hq => swAA_dict_str hT hq)
    (fun _ hq => wpAny_of_eq (rfl : isSame (.str b u) (.ref d) = pure false) hq) (.inr hu) (wpAny_truthy_bool h)
end PySem.SeqAt
namespace Sw
open PySem PySem.Spec PyProof.Rows L2
/-- x in a list of texts, x a list, a tuple or a dict -/
def rInT (K : PySem.W.Frag) (neg : Bool) : R2 := fun x y H Q => ∃ (p a : Addr) (zs : List Str), x = .ref a ∧ y = .ref p ∧ H p = some (.lst (zs.map V.str)) ∧ ((∃ xs, SqL K H a xs) ∨ (∃ xs, SqT K H a xs) ∨ ∃ kvs, H a = some (.dK kvs)) ∧ Q (.bl neg) H
theorem strs_vals {zs : List Str} {us : List Value} (h : Vals (zs.map V.str) us) : ∀ u ∈ us, ∃ b t, u = Value.str b t := by
  induction zs generalizing us with
  | nil => cases h; intro u hu; cases hu
  | cons z zs ih =>
    cases h with
    | cons r t =>
      intro u hu
      rcases List.mem_cons.mp hu with rfl | hu
      · obtain ⟨t, rfl⟩ := r; exact ⟨_, _, rfl⟩
      · exact ih t u hu
section
variable {X : Cx}
theorem inT_eq {pins : List (Addr × Obj)} {σ : L2.St} {H : Hp} {s : Shared} {A : Around} (I : Inv X pins σ H s) (hu : A.units < cLine) {a : Addr} (ha : (∃ xs, SqL X.K H a xs) ∨ (∃ xs, SqT X.K H a xs) ∨ ∃ kvs, H a = some (.dK kvs)) (b : Str) (t : Tok) : SeqAt.EqAt A s (.str b t) (.ref a) false := by
  rcases ha with ⟨xs, e⟩ | ⟨xs, e⟩ | ⟨kvs, e⟩
  · obtain ⟨its, r, pl, hz⟩ := I.list e
    exact SeqAt.EqAt.str_list b t pl.isList hu
  · obtain ⟨its, r, pl, hz⟩ := I.tuple e
    exact SeqAt.EqAt.str_tuple b t pl hu
  · obtain ⟨_, _, vs, _, da⟩ := (show ObjOk X.prog X.w H s.heap a (.dK kvs) from I.hok a _ e)
    obtain ⟨o, es, ep, ho, hx, hd, _⟩ := da
    exact SeqAt.swAA_eq b t ho hx.1 ⟨es, ep, hd⟩ hu
theorem op_notInT (hu : X.A.units + 1 < cLine) : OpR X (compareOp .NotIn) (rInT X.K true) := by
  intro pins s σ H x y v u Q I rx ry h
  obtain ⟨p, a, zs, rfl, rfl, hp, ha, q⟩ := h
  cases rx
  cases ry
  obtain ⟨its, r, pl, hz⟩ := I.list (SqL.of hp)
  refine SeqAt.notIn_listAt (fun _ => false) pl.isList (fun w hw => ?_) ⟨.bl _, H, I, rfl, ?_⟩
  · obtain ⟨b, t, rfl⟩ := strs_vals r w (by simpa using hw)
    exact inT_eq I hu ha b t
  · rw [show its.toArray.any (fun _ => false) = false by simp]
    exact q
theorem op_inT (hu : X.A.units + 1 < cLine) : OpR X (compareOp .In) (rInT X.K false) := by
  intro pins s σ H x y v u Q I rx ry h
  obtain ⟨p, a, zs, rfl, rfl, hp, ha, q⟩ := h
  cases rx
  cases ry
  obtain ⟨its, r, pl, hz⟩ := I.list (SqL.of hp)
  refine SeqAt.in_listAt (fun _ => false) pl.isList (fun w hw => ?_) ⟨.bl _, H, I, rfl, ?_⟩
  · obtain ⟨b, t, rfl⟩ := strs_vals r w (by simpa using hw)
    exact inT_eq I hu ha b t
  · rw [show its.toArray.any (fun _ => false) = false by simp]
    exact q
end
end Sw
set_option Elab.async false
set_option linter.all false
set_option maxRecDepth 100000
set_option maxHeartbeats 4000000
/-! A list comprehension whose element may raise: pe_lcE, ps_setLcE. Its exceptions are those of calls (L2N.CX); the block's frame is the def's own. -/
namespace Sw
open PySem PySem.Spec PyProof.Rows L2
theorem funFrames_sub {h h' base : Heap} : ∀ {l : List Env}, h.FunFrames base l → (∀ b ∈ frs l, ∀ o, h.get? b = some o → h'.get? b = some o) → h'.FunFrames base l
  | [], _, _ => trivial
  | env :: l, ⟨hk, ⟨L, o, hf, hn, ho, hd⟩, hr⟩, k => ⟨hk, ⟨L, o, hf, hn, k L (List.mem_filterMap.mpr ⟨env, List.mem_cons_self, hf⟩) o ho, hd⟩, funFrames_sub hr fun b hb => by
      obtain ⟨e, he, q⟩ := List.mem_filterMap.mp hb
      exact k b (List.mem_filterMap.mpr ⟨e, List.mem_cons_of_mem _ he, q⟩)⟩
theorem noteFrame_frame {x : Value} {e e' : Env} (h : e.frame = e'.frame) : noteFrame x e = noteFrame x e' := by
  unfold noteFrame PySem.frameOf
  rw [h]
/-- P holds once the block's variables at C are gone -/
def Gone (C : Addr) (P : Shared → Prop) (s : Shared) : Prop := ∃ m, s.heap.Ns C m ∧ ∀ h', Heap.SameBut C s.heap h' → P { s with heap := h' }
/-- behind a comprehension's block of the variables ce -/
structure BehindBlk (M : Model) (A : Around) (E : Value → Shared → Prop) (use : Option (Value → Sem Unit)) (Q : Value → Shared → Prop) (acc : Value) (ce : Env) (r : Result) (s : Shared) : Prop where
  plain : ∀ f, r = .ok f → use = none → Gone ce.locals (Q acc) s
  stored : ∀ f u, r = .ok f → use = some u → wpAny M A (u acc) (fun _ => Gone ce.locals (Q .none)) E s
  raised : ∀ x, r = .error x → Gone ce.locals (fun s' => ∀ c : Env, c.frame = ce.frame → wpAny M A (PySem.passOn "comprehension.variables-let-go" x c : Sem Value) (fun _ _ => False) E s') s
theorem wp_block {M : Model} {A : Around} {E : Value → Shared → Prop} {s : Shared} {env : Env} {e : Expr} {sc : Scope} {p : Pos} {mk first : Sem Value} {g : Comprehension} {gs : List Comprehension} {cl : List (Str × Addr)} {use : Option (Value → Sem Unit)} {Q : Value → Shared → Prop}
    (c1 : clausesOf e = g :: gs) (c2 : ∀ x, foldedSetIterable g.iter env x = pure x) (c3 : closureFor sc env = pure cl) (kd : sc.kind = .function) (nm : ∀ y ∈ sc.names, y.2 = .local → sc.names.lookup y.1 = some .local)
    (h : wpAny M A first (fun x s1 => wpAny M A (pyIter x) (fun it s2 => wpAny M A mk (fun acc s3 => wpAny M A (newFunctionEnv sc env.globals cl [] env.qual none .none (some env))
      (fun ce s4 => codeAny M A (.compStart e 0 it acc { ce with scope := relabel sc env }) (BehindBlk M A E use Q acc ce) s4) E s3) E s2) E s1) E s) :
    wpAny M A (comprehension e sc env p mk false first use) Q E s := by
  unfold comprehension
  rw [c3, c1]
  refine wpAny_bind (wpAny_mono h ?_ fun _ _ z => z)
  intro x s1 h1
  refine wpAny_bind (wpAny_standAt ?_)
  refine wpAny_bind (wpAny_of_eq (c2 x) ?_)
  refine wpAny_bind (wpAny_holding (wpAny_mono h1 ?_ fun _ _ z => z))
  intro it s2 h2
  refine wpAny_standIf ?_
  refine wpAny_bind (wpAny_mono h2 ?_ fun _ _ z => z)
  intro acc s3 h3
  refine wpAny_bind (wpAny_pure ?_)
  refine wpAny_bind (wpAny_mono h3 ?_ fun _ _ z => z)
  intro ce s4 h4
  have loc : ∀ (l : List (Str × NameKind)), (∀ y ∈ l, y ∈ sc.names) → ∀ y ∈ l, y.2 = .local → Env.kindOf { ce with scope := relabel sc env } y.1 = some .local := fun l hl y hy e => lookup_relabel_local (nm y (hl y hy) e)
  have sub : ∀ y ∈ (sc.names.filter fun x => (x.2 == .local || x.2 == .cell) && x.1 != (".0" : Str)).reverse, y ∈ sc.names := fun y hy => (List.mem_filter.mp (List.mem_reverse.mp hy)).1
  have go : ∀ {Q' : Unit → Shared → Prop} {E' : Value → Shared → Prop} {f : List (Str × NameKind) → List Value} (l : List (Str × NameKind)) (s : Shared), (∀ y ∈ l, y ∈ sc.names) → Gone ce.locals (Q' ()) s → wpAny M A (comprehension.letGo { ce with scope := relabel sc env } f l) Q' E' s :=
    fun {Q' E' f} l s hl ⟨m, n, k⟩ => wpAny_comp_letGo kd l s m (loc l hl) n fun h' _ _ sb => k h' sb
  dsimp only
  refine wpAny_holding (wpAny_bind (wpAny_attempt (wpAny_holding (wpAny_run (codeAny_mono h4 ?_)))))
  intro r s5 hr
  match r, use, hr with
  | .ok f, none, hr => exact wpAny_bind (wpAny_holding (go (Q' := fun _ s' => _) _ s5 sub (by
      obtain ⟨m, n, k⟩ := hr.plain f rfl rfl
      exact ⟨m, n, fun h' sb => wpAny_pure (k h' sb)⟩)))
  | .ok f, some u, hr =>
    refine wpAny_bind (wpAny_rule (wpAny_bind (wpAny_holding (wpAny_mono (hr.stored f u rfl rfl) ?_ fun _ _ z => z))))
    intro _ s6 ⟨m, n, k⟩
    refine wpAny_bind (go (Q' := fun _ s' => _) _ s6 (fun y hy => ?_) ⟨m, n, fun h' sb => wpAny_pure (k h' sb)⟩)
    rcases List.mem_append.mp hy with z | z
    · exact sub y (List.mem_of_mem_drop z)
    · exact sub y (List.mem_of_mem_take z)
  | .error x, use, hr =>
    obtain ⟨m, n, k⟩ := hr.raised x rfl
    cases use <;> exact wpAny_bind (wpAny_holding (go (Q' := fun _ s' => _) _ s5 sub ⟨m, n, fun h' sb => wpAny_mono (k h' sb _ rfl) (fun _ _ z => z.elim) fun _ _ z => z⟩))
/-- a call in the block Y let an exception out -/
def XB (Y : Cx) (W : XK) (u : Value) (s' : Shared) : Prop := ∃ (pins : List (Addr × Obj)) (σ : L2.St) (H : Hp) (s : Shared) (E : XK), Inv Y pins σ H s ∧ L2N.CX Y.prog Y.w Y.stack H s E u s' ∧ ∀ cls d H', E cls d H' → W cls d H'
section
variable {X : Cx}
/-- a block whose elements may raise W -/
abbrev blkE (X : Cx) (s : Shared) (H : Hp) (scope : Scope) (cenv : Env) (fp : List Addr) (W : XK) : Cx := (X.blk s H scope cenv fp).wish (XB (X.blk s H scope cenv fp) W)
/-- what a callee lets out in a block is taken -/
theorem passes_blk {Y : Cx} {W E : XK} (hW : ∀ cls d H, E cls d H → W cls d H) : ∀ (pins : List (Addr × Obj)) (σ : L2.St) (H : Hp) (s : Shared) (e : Value) (s' : Shared), Inv (Y.wish (XB Y W)) pins σ H s → L2N.CX Y.prog Y.w Y.stack H s E e s' → (Y.wish (XB Y W)).xe e s' :=
  fun pins σ H s _ _ I c => ⟨pins, σ, H, s, _, I.unwish, c, hW⟩
/-- out of the block -/
theorem out_blk {pins : List (Addr × Obj)} {σ : L2.St} {H3 : Hp} {s3 s5 : Shared} {scope : Scope} {ce c0 : Env} {fp : List Addr} {W : XK} {use : Option (Value → Sem Unit)} {Qf : Value → Shared → Prop} {acc u : Value} (I3 : Inv X pins σ H3 s3)
    (hs : X.stack = X.env :: X.outer) (hf : X.env.frame = some X.env.locals) (tk : L2N.Takes X (fun cls d _ H => W cls d H)) (cL : ce.locals = s3.heap.objs.size) (cF : ce.frame = X.env.frame) (c0L : c0.locals = ce.locals) (c0F : c0.frame = ce.frame)
    (f3 : ∀ b ∈ fp, FpOk X pins H3 b ∧ b < s3.heap.objs.size) (x : XB (X.blk s3 H3 scope ce fp) W u s5) :
    notedBy (model X.prog X.w) X.A ce (fun e s' => BehindBlk (model X.prog X.w) X.A X.xe use Qf acc c0 (.error e) s') u s5 := by
  obtain ⟨pinsY, σY, H, s, E, I, c, hW⟩ := x
  have c : L2N.CX X.prog X.w X.stack H s E u s5 := c
  have I7 : Inv X pins σ H s := I3.call' (ch := fp) I.os I.base I.hok I.bare fun b hb => ⟨(f3 b hb).1.2.2.2.1, (f3 b hb).1.2.1, (f3 b hb).1.2.2.2.2.1, (f3 b hb).1.2.2.2.2.2⟩
  generalize hC : s3.heap.objs.size = C at cL
  have nC : C ∉ frs X.stack := fun z => by
    rcases List.mem_cons.mp (I3.stkSub C z) with e | e
    · have h0 := I3.lt
      rw [hC, e] at h0
      exact Nat.lt_irrefl _ h0
    · exact I3.nofs (Nat.le_of_eq hC) e
  -- the block's variables are where they were
  obtain ⟨m, ⟨o, es, ep, ho, od, r⟩, _⟩ := I.loc
  have ho : s.heap.get? C = some o := by rw [← cL]; exact ho
  have nH : H C = none := by
    have z : H ce.locals = none := I.free
    rw [cL] at z
    exact z
  have oF : ∀ vs, o.data ≠ .fields vs := fun vs z => by rw [od] at z; cases z
  obtain ⟨a, B, H', cls, d, rfl, fl, hok, ub, na, os, ag, hE⟩ := c
  have st5 : B.StaysIn s5.heap := fl.1
  have bC : B.get? C = some o := ub.keep C o ho nH nC
  have nH' : H' C = none := ub.free C o ho nH
  have hfr : X.A.frames = some (X.env :: X.outer) := by rw [I3.ok.frames, hs]
  have fl : HandSPX.FlyingZ B (X.env :: X.outer) a (L2N.Zn cls d) s5.heap := by rw [← hs]; exact fl
  unfold notedBy
  rw [noteFrame_frame cF]
  refine PXN.looks_onZ L2N.Zn.steady hfr hf fl fun h1 held up1 => ?_
  obtain ⟨st1, na1, ff1, oe, vs, T, oT, ts, he, hz, hd, e1, hnT, hTe, hT, hdT, h3⟩ := held
  have ca : a ≠ C := fun z => by rw [← z, na1] at bC; cases bC
  have cT : T ≠ C := fun z => by rw [← z, hnT] at bC; cases bC
  refine ⟨fun _ z => (nomatch z), fun _ _ z => (nomatch z), fun x ex => ?_⟩
  injection ex with ex
  subst ex
  rw [c0L, cL]
  refine ⟨m, ⟨o, es, ep, st1 C o bC, od, r⟩, fun h2 sb cv hcf => ?_⟩
  -- all but the block's variables
  obtain ⟨B1, b1, b0⟩ := restrict B fun b => b != C
  have inB : ∀ b o, b ≠ C → B.get? b = some o → B1.get? b = some o := fun b o n e => by rw [b1 b (by simp [n])]; exact e
  have ofB : ∀ b o, B1.get? b = some o → b ≠ C ∧ B.get? b = some o := fun b o e => by
    by_cases z : b = C
    · rw [b0 b (by simp [z])] at e; cases e
    · exact ⟨z, by rw [← b1 b (by simp [z])]; exact e⟩
  have noB : ∀ b, B.get? b = none → B1.get? b = none := fun b e => by
    cases q : B1.get? b with
    | none => rfl
    | some o => rw [(ofB b o q).2] at e; cases e
  obtain ⟨S, g1, g0⟩ := restrict s.heap fun b => b != C
  have ofS : ∀ b o, S.get? b = some o → b ≠ C ∧ s.heap.get? b = some o := fun b o e => by
    by_cases z : b = C
    · rw [g0 b (by simp [z])] at e; cases e
    · exact ⟨z, by rw [← g1 b (by simp [z])]; exact e⟩
  obtain ⟨q0, q1, _, q3, q4, q5⟩ := I3.fpOk (b := C) (H' := H) (Nat.le_of_eq hC) nH
  have I8 : Inv X pins σ H { s with heap := S, toks := s.toks } := I7.turned (it := C) (fun b o hb e => by rw [g1 b (by simp [hb])]; exact e) q0 q1 q3 q4 q5
  -- the ground and the frames, as they are now
  obtain ⟨G, k1, k0⟩ := restrict s5.heap fun b => (B1.get? b).isSome || decide (b ∈ frs X.stack)
  have inG : ∀ b o, B1.get? b = some o → G.get? b = some o := fun b o e => by
    rw [k1 b (by simp [e])]
    exact st5 b o (ofB b o e).2
  have frG : ∀ b ∈ frs X.stack, G.get? b = s5.heap.get? b := fun b hb => k1 b (by simp [hb])
  have ofG : ∀ b o, G.get? b = some o → s5.heap.get? b = some o ∧ (B1.get? b = some o ∨ b ∈ frs X.stack) := fun b o e => by
    by_cases hb : b ∈ frs X.stack
    · exact ⟨by rw [← frG b hb]; exact e, .inr hb⟩
    · cases q : B1.get? b with
      | none => rw [k0 b (by simp [q, hb])] at e; cases e
      | some o' =>
        rw [inG b o' q] at e
        exact ⟨(st5 b o' (ofB b o' q).2).trans e, .inl e⟩
  have hok1 : HOk X.prog X.w H' B1 := fun b ob q => (hok b ob q).stay (fun c v hc e => inB c v (fun z => by
    rw [z] at hc
    rcases hc with h | h
    · rw [← h, nH'] at q; cases q
    · rw [nH'] at h; cases h) e) (fun _ e => e) fun _ _ e => e
  have un : Un (frs X.stack) [] H H' S G := by
    refine ⟨fun b o e n hb _ => ?_, fun b o e n hb _ => ?_, fun b o e n _ => ub.free b o (ofS b o e).2 n, fun b o e _ => ?_, ub.tups, ub.frzs, ub.tbls⟩
    · exact inG b o (inB b o (ofS b o e).1 (ub.keep b o (ofS b o e).2 n hb))
    · obtain ⟨sl, q⟩ := ub.slot b o (ofS b o e).2 hb
      exact ⟨sl, by rw [frG b hb]; exact q⟩
    · by_cases hb : b ∈ frs X.stack
      · obtain ⟨sl, q⟩ := ub.slot b o (ofS b o e).2 hb
        exact ⟨_, by rw [frG b hb]; exact q⟩
      · obtain ⟨o', q⟩ := ub.there b o (ofS b o e).2 hb
        exact ⟨o', inG b o' (inB b o' (ofS b o e).1 q)⟩
  have I9 : Inv X pins σ H' { ({ s with heap := S, toks := s.toks } : Shared) with heap := G, gens := s5.gens, drawn := s5.drawn, toks := s5.toks } := I8.call (ch := []) un (hok1.kept inG) ag (fun _ z => nomatch z)
  -- the exception stands where it stood
  have keep : ∀ b o, b ≠ C → h1.get? b = some o → h2.get? b = some o := fun b o hb e => (sb.2 b hb).trans e
  have fC : ∀ b ∈ frs (X.env :: X.outer), b ≠ C := fun b hb z => nC (by rw [← z, hs]; exact hb)
  have st2 : B1.StaysIn h2 := fun b o e => keep b o (ofB b o e).1 (st1 b o (ofB b o e).2)
  have ff2 : h2.FunFrames B1 (X.env :: X.outer) := funFrames_sub (funFrames_none ff1 fun b hb => noB b (ff1.mem hb).1) fun b hb o e => keep b o (fC b hb) e
  have tr2 : HandSPX.TracedZ h2 B1 a (L2N.Zn cls d) (rawInt X.env.locals) := ⟨oe, vs, T, oT, ts, keep _ _ ca he, hz, hd, e1, noB T hnT, hTe, keep _ _ cT hT, hdT, h3⟩
  unfold PySem.passOn
  refine wpAny_bind (wpAny_field (keep _ _ ca he) hd e1 ?_)
  rw [if_neg (by simp)]
  refine wpAny_bind (HandSPX.setFlight_anyZ st2 ff2 tr2 fun h4 m1 m2 m3 m4 => wpAny_throw ?_)
  have m3 : HandSPX.TracedZ h4 B1 a (L2N.Zn cls d) (rawInt X.env.locals) := by rw [hcf, c0F, cF, hf] at m3; exact m3
  refine tk _ _ ⟨a, B1, _, pins, σ, H', cls, d, rfl, I9, fun b o e hb => (ofG b o e).2.elim id fun z => absurd z hb, fun b o e hnf => ?_, .inr (.inr ⟨m1, noB a na1, ?_, m3⟩), na, os, ag, hW _ _ _ hE⟩
  · have hb : b ≠ C := (ofG b o e).2.elim (fun z => (ofB b o z).1) fun z => fun y => nC (by rw [← y]; exact z)
    obtain ⟨sl, e⟩ := up1 b o (ofG b o e).1 hnf
    obtain ⟨sl, e⟩ := m4 b _ (keep b _ hb e) hnf
    exact ⟨sl, e⟩
  · rw [hs]; exact m2
/-- the comprehension as it runs in the def X: D the new list, C the block's variables -/
theorem lcE_core {pins : List (Addr × Obj)} {s : Shared} {σ : L2.St} {H : Hp} {Q : VK} {W : XK} {elt tg iter : Expr} {ifs : List Expr} {scope : Scope} {own : List (Str × Nat)} {pos pos' : Pos} {wi : TI} {g : TG} {tt : TT} {te : TE} {use : Option (Value → Sem Unit)} {Qf : Value → Shared → Prop}
    (hs : X.stack = X.env :: X.outer) (hf : X.env.frame = some X.env.locals) (tk : L2N.Takes X (fun cls d _ H => W cls d H)) (hc : X.calm = true) (hN : X.N.Nodup) (I : Inv X pins σ H s) (hi : PI X tg iter wi) (ok : BlkOk X.N X.env.scope scope own)
    (hg : ∀ s H C cl fp, PG (blkE X s H scope (compEnvC scope cl C X.env) fp W) tg g) (ht : ∀ s H C cl fp, PTs (blkE X s H scope (compEnvC scope cl C X.env) fp W) ifs tt) (he : ∀ s H C cl fp, PE (blkE X s H scope (compEnvC scope cl C X.env) fp W) elt te)
    (hfs : ∀ x, foldedSetIterable iter X.env x = pure x) (h : tLc wi g tt te (own.map (·.2)) σ H Q)
    (fin : ∀ D s' H' (ce : Env) m, Inv X pins σ H' s' → Q (.ref D) H' → s'.heap.Ns ce.locals m → FpOk X pins H' ce.locals → BehindBlk (model X.prog X.w) X.A X.xe use Qf (.ref D) ce (.ok .next) s') :
    wpAny (model X.prog X.w) X.A (comprehension (.ListComp elt [⟨tg, iter, ifs, 0⟩] scope pos) scope X.env pos' (newList []) false (eval iter X.env) use) Qf X.xe s := by
  refine wp_block rfl hfs (closure_ok fun y hy e => I.ok.has _ (ok.free y hy e)) ok.kind (fun y hy e => by rw [ok.uniq y hy, e]) ?_
  refine thn (hi.run pins s σ H _ I h) fun xv s1 h1 => thn h1 fun itv s2 h2 => ?_
  obtain ⟨it, fp, tn, J, H2, rfl, I2, T, st2, f2, q⟩ := h2
  refine wpAny_newObj_type (newEnv_comp ?_) (Nat.zero_le _)
  have fresh : H2 s2.heap.objs.size = none := I2.hok.fresh (Nat.le_refl _)
  obtain ⟨Wt, ⟨m0, w0⟩, turn⟩ := q _ fresh
  have fp2 : ∀ b ∈ fp, b < s2.heap.objs.size := fun b hb => by
    obtain ⟨o, e, _⟩ := T.obj _ _ st2 b hb
    exact Heap.lt_size e
  have up : ∀ b o, s2.heap.get? b = some o → (s2.heap.push { cls := .type "list", data := .seq ([] : List Value).toArray }).get? b = some o := fun b o e => Heap.get?_push_of_some _ e
  have I3 : Inv X pins σ (upd H2 s2.heap.objs.size (.lst [])) { s2 with heap := s2.heap.push { cls := .type "list", data := .seq ([] : List Value).toArray }, toks := s2.toks } :=
    I2.laid up (Nat.le_refl _) ⟨Nat.zero_le _, [], 0, .nil, Heap.get?_push_size _ rfl⟩
  have st3 : tn 0 (s2.heap.push { cls := .type "list", data := .seq ([] : List Value).toArray }) := T.keep _ _ _ st2 fun b _ o e => up b o e
  have f3 : ∀ b ∈ fp, FpOk X pins (upd H2 s2.heap.objs.size (.lst [])) b ∧ b < (s2.heap.push { cls := .type "list", data := .seq ([] : List Value).toArray }).objs.size := fun b hb => by
    obtain ⟨a1, a2⟩ := f2 b hb
    exact ⟨⟨by rw [upd_ne (Nat.ne_of_lt (fp2 b hb))]; exact a1, a2⟩, by rw [Heap.size_push]; exact Nat.lt_succ_of_lt (fp2 b hb)⟩
  generalize hD : s2.heap.objs.size = D at *
  generalize hh : s2.heap.push { cls := .type "list", data := .seq ([] : List Value).toArray } = h3 at *
  generalize hH : upd H2 D (.lst []) = H3 at *
  generalize hs3 : ({ s2 with heap := h3, toks := s2.toks } : Shared) = s3 at I3
  have e3 : s3.heap = h3 := by rw [← hs3]
  have I4 := block_start I3 ok hN (fp := fp) fun b hb => by rw [e3]; exact f3 b hb
  have st4 : tn 0 ({ s3 with heap := pushCells (s3.heap.push { cls := .type "dict", data := .dict #[] }) scope.names } : Shared).heap := T.keep _ _ _ st3 fun b _ o e => pushCells_keeps _ _ _ _ (Heap.get?_push_of_some _ (by rw [e3]; exact e))
  generalize hs4 : ({ s3 with heap := pushCells (s3.heap.push { cls := .type "dict", data := .dict #[] }) scope.names } : Shared) = s4 at I4 st4 ⊢
  generalize hcl : cellsFrom (s3.heap.objs.size + 1) scope.names (cloFrom X.env.cells scope.names []) = cl at I4 ⊢
  have f3' : ∀ b ∈ fp, FpOk X pins H3 b ∧ b < s3.heap.objs.size := fun b hb => by rw [e3]; exact f3 b hb
  have pg := hg s3 H3 s3.heap.objs.size cl fp
  have pt := ht s3 H3 s3.heap.objs.size cl fp
  have pe := he s3 H3 s3.heap.objs.size cl fp
  obtain ⟨ce, hce⟩ : ∃ ce, ce = compEnvC scope cl s3.heap.objs.size X.env := ⟨_, rfl⟩
  have cL : ce.locals = s3.heap.objs.size := by rw [hce]; rfl
  have cF : ce.frame = X.env.frame := by rw [hce]; rfl
  rw [← hce] at I4 pg pt pe
  show codeAny _ _ (.compStart (.ListComp elt [⟨tg, iter, ifs, 0⟩] scope pos) 0 (.ref it) (.ref D) (compEnvC scope cl s3.heap.objs.size X.env)) (BehindBlk _ _ _ _ _ _ (newEnv scope s3.heap.objs.size X.env.globals cl X.env.qual none .none (some X.env) builtinsNs)) s4
  rw [← hce]
  have c0L : (newEnv scope s3.heap.objs.size X.env.globals cl X.env.qual none .none (some X.env) builtinsNs).locals = ce.locals := by rw [hce]; rfl
  have c0F : (newEnv scope s3.heap.objs.size X.env.globals cl X.env.qual none .none (some X.env) builtinsNs).frame = ce.frame := by rw [hce]; rfl
  generalize newEnv scope s3.heap.objs.size X.env.globals cl X.env.qual none .none (some X.env) builtinsNs = c0 at c0L c0F ⊢
  have away : ∀ {e : Value} {s' : Shared}, XB (X.blk s3 H3 scope ce fp) W e s' → notedBy (model X.prog X.w) X.A ce (fun e s' => BehindBlk (model X.prog X.w) X.A X.xe use Qf (.ref D) c0 (.error e) s') e s' := fun x => out_blk I3 hs hf tk cL cF c0L c0F f3' x
  have own0 : ∀ {σ' : L2.St} {H' : Hp} {s' : Shared}, Inv (X.blk s3 H3 scope ce fp) [] σ' H' s' → (∀ b ∈ fp, H' b = none) → ∀ b ∈ fp, FpOk (X.blk s3 H3 scope ce fp) [] H' b := fun J no b hb =>
    ⟨no b hb, (J.ok.exf b hb).1, J.ok.exfs b hb, .inl hb, (J.ok.exf b hb).2, fun p hp => absurd (show p ∈ ([] : List (Addr × Obj)) ++ [] from hp) (by simp)⟩
  refine codeAny_compStart_list ?lp (T.self X.A 0 _ _ _ st4 ?lp)
  refine compLoop_any (fun n s' => ∃ i H', Inv (X.blk s3 H3 scope ce fp) [] (wipe σ (own.map (·.2))) H' s' ∧ tn i s'.heap ∧ (∀ b ∈ fp, H' b = none) ∧ Wt i n H') ?_ m0 ⟨0, H3, I4, st4, fun b hb => (f3' b hb).1.1, w0⟩
  intro n s5 ⟨i, H5, I5, st5, n5, w5⟩
  rcases turn i n H5 w5 with ⟨stop, qe⟩ | ⟨go, Nx, hNx, step⟩
  · -- at the end
    refine thnF (T.done (X.blk s3 H3 scope ce fp) rfl rfl rfl hc i [] s5 _ H5 (fun _ _ => False) I5 (own0 I5 n5) st5 stop) ?_
    rintro r s6 ⟨rfl, I6⟩
    have I7 : Inv X pins σ H5 s6 := I3.call' (ch := fp) I6.os I6.base I6.hok I6.bare fun b hb => ⟨(f3' b hb).1.2.2.2.1, (f3' b hb).1.2.1, (f3' b hb).1.2.2.2.2.1, (f3' b hb).1.2.2.2.2.2⟩
    obtain ⟨m, hm, _⟩ := I6.loc
    have no : H5 ce.locals = none := I6.free
    refine fin D s6 H5 c0 m I7 qe (by rw [c0L]; exact hm) ?_
    rw [c0L]
    rw [cL] at no ⊢
    exact I3.fpOk (Nat.le_refl _) no
  -- a turn
  refine thnF (T.item (X.blk s3 H3 scope ce fp) rfl rfl rfl hc i [] s5 _ H5 (fun _ _ => False) I5 (own0 I5 n5) st5 go) ?_
  rintro r s6 ⟨u, rfl, h6⟩
  refine thnF h6 ?_
  rintro _ s7 ⟨x, H7, I7, r7, y7, st7, n7⟩
  have Ip := I7.pinned (own0 I7 n7) (T.obj _ _ st7)
  refine wpAny_mono (pg.run _ s7 _ H7 x u _ (Ip.wish _) r7 (step x H7 y7)) ?_ fun e s' z => away z
  rintro _ s8 ⟨σ8, H8, I8, hw8, q8⟩
  refine wpAny_mono (pt.run _ s8 σ8 H8 _ I8 q8) ?_ fun e s' z => away z
  rintro b s9 ⟨H9, I9, q9⟩
  have back : ∀ {s' : Shared} {H' : Hp}, Inv (X.blk s3 H3 scope ce fp) ([] ++ pinsAt fp s7.heap) σ8 H' s' → Nx H' → ∃ m, m < n ∧ ∃ i H', Inv (X.blk s3 H3 scope ce fp) [] (wipe σ (own.map (·.2))) H' s' ∧ tn i s'.heap ∧ (∀ b ∈ fp, H' b = none) ∧ Wt i m H' := by
    intro s' H' I' nx
    obtain ⟨m', hm, w'⟩ := hNx H' nx
    have stay : ∀ b ∈ fp, ∀ o, s7.heap.get? b = some o → s'.heap.get? b = some o ∧ H' b = none := fun b hb o e =>
      ⟨(I'.pin (b, o) (List.mem_append_right _ (List.mem_append_right _ (mem_pinsAt hb e)))).1, (I'.pin (b, o) (List.mem_append_right _ (List.mem_append_right _ (mem_pinsAt hb e)))).2.1⟩
    refine ⟨m', hm, i + 1, H', (I'.unpinned (pins := [])).weak (by rw [← hw8, wipe_length]) (fun j v e => ?_), T.keep _ _ _ st7 fun b hb o e => (stay b hb o e).1, fun b hb => ?_, w'⟩
    · rw [← hw8] at e
      exact (wipe_some e).1
    · obtain ⟨o, e, _⟩ := T.obj _ _ st7 b hb
      exact (stay b hb o e).2
  match b, q9 with
  | false, q9 => exact back I9.unwish q9
  | true, q9 =>
    refine wpAny_mono (pe.run _ s9 σ8 H9 _ I9 q9) ?_ fun e s' z => away z
    rintro z s10 ⟨y, H10, I10, r10, acc, eD, lz, nx⟩
    exact app_ok (X := X.blk s3 H3 scope ce fp) I10.unwish eD lz r10 fun s11 I11 => back I11 nx
/-- [elt for x in xs ..], elt may raise -/
theorem pe_lcE {W : XK} {elt tg iter : Expr} {ifs : List Expr} {scope : Scope} {own : List (Str × Nat)} {pos : Pos} {wi : TI} {g : TG} {tt : TT} {te : TE}
    (hs : X.stack = X.env :: X.outer) (hf : X.env.frame = some X.env.locals) (tk : L2N.Takes X (fun cls d _ H => W cls d H)) (hc : X.calm = true) (hN : X.N.Nodup) (hi : PI X tg iter wi) (ok : BlkOk X.N X.env.scope scope own)
    (hg : ∀ s H C cl fp, PG (blkE X s H scope (compEnvC scope cl C X.env) fp W) tg g) (ht : ∀ s H C cl fp, PTs (blkE X s H scope (compEnvC scope cl C X.env) fp W) ifs tt) (he : ∀ s H C cl fp, PE (blkE X s H scope (compEnvC scope cl C X.env) fp W) elt te)
    (hfs : ∀ x, foldedSetIterable iter X.env x = pure x := by intro _; rfl) : PE X (.ListComp elt [⟨tg, iter, ifs, 0⟩] scope pos) (tLc wi g tt te (own.map (·.2))) := by
  refine ⟨fun pins s σ H Q I h => ?_⟩
  rw [eval_ListComp]
  refine lcE_core hs hf tk hc hN I hi ok hg ht he hfs h fun D s' H' ce m J q hn f => ⟨fun _ _ _ => ⟨m, hn, fun h' sb => ?_⟩, fun _ _ _ z => (nomatch z), fun _ z => (nomatch z)⟩
  exact ⟨.ref D, H', J.turned (t' := s'.toks) (fun b o hb e => (sb.2 b hb).trans e) f.1 f.2.1 f.2.2.2.1 f.2.2.2.2.1 f.2.2.2.2.2, rfl, q⟩
end
end Sw
set_option Elab.async false
set_option linter.all false
set_option maxRecDepth 100000
set_option maxHeartbeats 8000000
namespace KM
open PySem PySem.Spec PyProof.Rows L2 He Sw L2H
section
variable {P : Program} {w : World} {K : PySem.W.Frag} {mg : Str → Option Value} {base : Heap}
local macro_rules | `(tactic| row_room_at ne) => `(tactic| with_reducible assumption)
local macro_rules | `(tactic| row_room_at hp) => `(tactic| (apply SameBut.use; with_reducible assumption; rotate_left; row_room_at hp; row_room_at ne))
local macro_rules | `(tactic| row_room_at hp) => `(tactic| (apply FoAt.same; rotate_left; with_reducible assumption; row_room_at hp))
local macro_rules | `(tactic| row_room_at hp) => `(tactic| (apply Sw.Same.use; with_reducible assumption; row_room_at hp))
local macro_rules | `(tactic| row_room_at hp) => `(tactic| (apply SqT.of; row_room_at hp))
local macro_rules | `(tactic| row_room_at hp) => `(tactic| (apply SqL.of; row_room_at hp))
local macro_rules | `(tactic| row_room_at hp) => `(tactic| with_reducible assumption)
local macro_rules | `(tactic| row_room_at ati) => `(tactic| first | with_reducible assumption | rfl | (apply atI_nat; rfl))
local macro_rules | `(tactic| row_room_at cc) => `(tactic| first | with_reducible assumption | omega | decide | (refine ⟨?_, ?_⟩ <;> first | decide | omega) | (refine ⟨?_, ?_, ?_⟩ <;> first | decide | omega) | (left; refine ⟨?_, ?_⟩ <;> first | decide | omega) | (right; refine ⟨?_, ?_⟩ <;> first | decide | omega))
local macro_rules | `(tactic| row_room_at rdts) => `(tactic| with_reducible apply rd_retN)
local macro_rules | `(tactic| row_room_at rdts) => `(tactic| with_reducible apply rd_cont)
local macro_rules | `(tactic| row_room_at rdts) => `(tactic| with_reducible apply rd_brk)
local macro_rules | `(tactic| row_room_at rdts) => `(tactic| with_reducible apply rd_dput)
local macro_rules | `(tactic| row_room_at rdts) => `(tactic| with_reducible apply rd_drop)
local macro_rules | `(tactic| row_room_at rdts) => `(tactic| with_reducible apply rd_for)
local macro_rules | `(tactic| row_room_at rdts) => `(tactic| with_reducible apply rd_ret)
local macro_rules | `(tactic| row_room_at rdts) => `(tactic| with_reducible apply rd_next)
local macro_rules | `(tactic| row_room_at rdts) => `(tactic| with_reducible apply rd_ifS)
local macro_rules | `(tactic| row_room_at rdts) => `(tactic| with_reducible apply rd_asg)
local macro_rules | `(tactic| row_room_at rdts) => `(tactic| with_reducible refine rd_seqN fun _ _ => ?_)
local macro_rules | `(tactic| row_room_at rdit) => `(tactic| with_reducible refine rd_iteNF (by with_unfolding_all decide +kernel) ?_)
local macro_rules | `(tactic| row_room_at rdit) => `(tactic| with_reducible refine rd_iteNT (by with_unfolding_all decide +kernel) ?_)
local macro_rules | `(tactic| row_room_at rdit) => `(tactic| with_reducible apply rd_iteN0)
local macro_rules | `(tactic| row_room_at rdit) => `(tactic| with_reducible apply rd_iteN1)
local macro_rules | `(tactic| row_room_at rdit) => `(tactic| with_reducible apply rd_ite1)
local macro_rules | `(tactic| row_room_at rdit) => `(tactic| with_reducible apply rd_ite0)
local macro_rules | `(tactic| row_room_at rdit) => `(tactic| with_reducible refine rd_iteT (by with_unfolding_all decide +kernel) ?_)
local macro_rules | `(tactic| row_room_at rdit) => `(tactic| with_reducible refine rd_iteF (by with_unfolding_all decide +kernel) ?_)
local macro_rules | `(tactic| row_room_at rdex) => `(tactic| with_reducible apply rd_inS)
local macro_rules | `(tactic| row_room_at rdex) => `(tactic| with_reducible apply rd_min2)
local macro_rules | `(tactic| row_room_at rdex) => `(tactic| with_reducible apply rd_1S)
local macro_rules | `(tactic| row_room_at rdex) => `(tactic| with_reducible apply rd_2S)
local macro_rules | `(tactic| row_room_at rdex) => `(tactic| with_reducible refine rd_fld' (by with_unfolding_all row_room_at hp) (by with_unfolding_all assumption) (by with_unfolding_all assumption) (by with_unfolding_all rfl) ?_)
local macro_rules | `(tactic| row_room_at rdex) => `(tactic| with_reducible refine rd_ty (by with_unfolding_all row_room_at hp) ?_)
local macro_rules | `(tactic| row_room_at rdex) => `(tactic| with_reducible refine rd_itup' (by with_unfolding_all row_room_at hp) ?_)
local macro_rules | `(tactic| row_room_at rdex) => `(tactic| with_reducible refine rd_ilist' (by with_unfolding_all row_room_at hp) ?_)
local macro_rules | `(tactic| row_room_at rdex) => `(tactic| with_reducible apply rd_1B)
local macro_rules | `(tactic| row_room_at rdex) => `(tactic| with_reducible refine rd_dgetS (by with_unfolding_all row_room_at hp) (by with_unfolding_all assumption) ?_)
local macro_rules | `(tactic| row_room_at rdex) => `(tactic| with_reducible refine rd_dget' (by with_unfolding_all row_room_at hp) (by with_unfolding_all rfl) (by with_unfolding_all assumption) ?_)
local macro_rules | `(tactic| row_room_at rdex) => `(tactic| with_reducible refine rd_len (by with_unfolding_all first | exact .inl (by row_room_at hp) | exact .inr (by row_room_at hp)) ?_)
local macro_rules | `(tactic| row_room_at rdex) => `(tactic| with_reducible refine rd_lenQ (by with_unfolding_all first | exact .inl (by row_room_at hp) | exact .inr (by row_room_at hp)) ?_)
local macro_rules | `(tactic| row_room_at rdex) => `(tactic| with_reducible apply rd_2I)
local macro_rules | `(tactic| row_room_at rdex) => `(tactic| with_reducible refine rd_b62 (by with_unfolding_all first | decide | (constructor <;> omega)) ?_)
local macro_rules | `(tactic| row_room_at rdex) => `(tactic| with_reducible refine rd_lenS (by with_unfolding_all omega) ?_)
local macro_rules | `(tactic| row_room_at rdex) => `(tactic| with_reducible apply rd_1I)
local macro_rules | `(tactic| row_room_at rdex) => `(tactic| with_reducible apply rd_int1)
local macro_rules | `(tactic| row_room_at rdex) => `(tactic| with_reducible apply rd_iv)
local macro_rules | `(tactic| row_room_at rdex) => `(tactic| with_reducible refine rd_sz (by with_unfolding_all first | decide | (simp only [List.length_append, List.length_map, List.length_cons, List.length_nil, List.length_take]; omega)) ?_)
local macro_rules | `(tactic| row_room_at rdex) => `(tactic| with_reducible apply rd_bl)
local macro_rules | `(tactic| row_room_at rdhd) => `(tactic| with_reducible apply rd_m1)
local macro_rules | `(tactic| row_room_at rdhd) => `(tactic| with_reducible apply rd_fld)
local macro_rules | `(tactic| row_room_at rdhd) => `(tactic| with_reducible refine rd_append (by with_unfolding_all row_room_at hp) (by with_unfolding_all first | decide | (simp only [List.length_append, List.length_map, List.length_cons, List.length_nil]; omega)) ?_)
local macro_rules | `(tactic| row_room_at rdhd) => `(tactic| with_reducible apply rd_bm)
local macro_rules | `(tactic| row_room_at rdhd) => `(tactic| with_reducible apply rd_yes)
local macro_rules | `(tactic| row_room_at rdhd) => `(tactic| with_reducible apply rd_lc)
local macro_rules | `(tactic| row_room_at rdhd) => `(tactic| with_reducible apply rd_itup)
local macro_rules | `(tactic| row_room_at rdhd) => `(tactic| with_reducible apply rd_ilist)
local macro_rules | `(tactic| row_room_at rdhd) => `(tactic| with_reducible refine rd_dictK (by with_unfolding_all row_room_at hp) ?_)
local macro_rules | `(tactic| row_room_at rdhd) => `(tactic| with_reducible refine rd_lenK (by with_unfolding_all first | exact .inl (by row_room_at hp) | exact .inr (by row_room_at hp)) ?_)
local macro_rules | `(tactic| row_room_at rdhd) => `(tactic| with_reducible apply rd_methI)
local macro_rules | `(tactic| row_room_at rdhd) => `(tactic| with_reducible apply rd_dget)
local macro_rules | `(tactic| row_room_at rdhd) => `(tactic| with_reducible apply rd_if)
local macro_rules | `(tactic| row_room_at rdhd) => `(tactic| with_reducible apply rd_notV)
local macro_rules | `(tactic| row_room_at rdhd) => `(tactic| with_reducible apply rd_orV)
local macro_rules | `(tactic| row_room_at rdhd) => `(tactic| with_reducible apply rd_andV)
local macro_rules | `(tactic| row_room_at rdhd) => `(tactic| with_reducible apply rd_U)
local macro_rules | `(tactic| row_room_at rdhd) => `(tactic| with_reducible apply rd_un)
local macro_rules | `(tactic| row_room_at rdhd) => `(tactic| with_reducible refine rd_cat (by with_unfolding_all row_room_at hp) (by with_unfolding_all row_room_at hp) (by with_unfolding_all first | decide | (simp only [List.length_append, List.length_map, List.length_cons, List.length_nil, List.length_take]; omega)) ?_)
local macro_rules | `(tactic| row_room_at rdhd) => `(tactic| with_reducible refine rd_slL (by with_unfolding_all row_room_at hp) ?_)
local macro_rules | `(tactic| row_room_at rdhd) => `(tactic| with_reducible apply rd_nopart)
local macro_rules | `(tactic| row_room_at rdhd) => `(tactic| with_reducible apply rd_make)
local macro_rules | `(tactic| row_room_at rdhd) => `(tactic| with_reducible apply rd_kt)
local macro_rules | `(tactic| row_room_at rdhd) => `(tactic| with_reducible apply rd_rng1)
local macro_rules | `(tactic| row_room_at rdhd) => `(tactic| with_reducible refine rd_ne (by with_unfolding_all rfl) ?_)
local macro_rules | `(tactic| row_room_at rdhd) => `(tactic| with_reducible apply rd_and)
local macro_rules | `(tactic| row_room_at rdhd) => `(tactic| with_reducible apply rd_B)
local macro_rules | `(tactic| row_room_at rdhd) => `(tactic| with_reducible apply rd_not)
local macro_rules | `(tactic| row_room_at rdhd) => `(tactic| with_reducible refine rd_ixL (by with_unfolding_all row_room_at hp) (by with_unfolding_all row_room_at ati) ?_)
local macro_rules | `(tactic| row_room_at rdhd) => `(tactic| with_reducible apply rd_gNil)
local macro_rules | `(tactic| row_room_at rdhd) => `(tactic| with_reducible refine rd_gTup (by with_unfolding_all (apply SqT.of; row_room_at hp)) (by with_unfolding_all rfl) ?_)
local macro_rules | `(tactic| row_room_at rdhd) => `(tactic| with_reducible apply rd_sl)
local macro_rules | `(tactic| row_room_at rdhd) => `(tactic| with_reducible refine rd_I (by with_unfolding_all row_room_at cc) ?_)
local macro_rules | `(tactic| row_room_at rdhd) => `(tactic| with_reducible apply rd_or)
local macro_rules | `(tactic| row_room_at rdhd) => `(tactic| with_reducible apply rd_lst)
local macro_rules | `(tactic| row_room_at rdhd) => `(tactic| with_reducible apply rd_gCons)
local macro_rules | `(tactic| row_room_at rdhd) => `(tactic| with_reducible apply rd_part)
local macro_rules | `(tactic| row_room_at rdhd) => `(tactic| with_reducible apply rd_tup)
local macro_rules | `(tactic| row_room_at rdhd) => `(tactic| with_reducible apply rd_I0)
local macro_rules | `(tactic| row_room_at rdhd) => `(tactic| with_reducible apply rd_CB)
local macro_rules | `(tactic| row_room_at rdhd) => `(tactic| with_reducible refine rd_ixT (by with_unfolding_all row_room_at hp) (by with_unfolding_all row_room_at ati) ?_)
local macro_rules | `(tactic| row_room_at rdhd) => `(tactic| with_reducible refine rd_eq (by with_unfolding_all rfl) ?_)
local macro_rules | `(tactic| row_room_at rdhd) => `(tactic| with_reducible apply rd_call)
local macro_rules | `(tactic| row_room_at rdhd) => `(tactic| with_reducible apply rd_gName)
local macro_rules | `(tactic| row_room_at rdhd) => `(tactic| with_reducible apply rd_test)
local macro_rules | `(tactic| row_room_at rdhd) => `(tactic| with_reducible apply rd_cons)
local macro_rules | `(tactic| row_room_at rdhd) => `(tactic| with_reducible apply rd_consC)
local macro_rules | `(tactic| row_room_at rdhd) => `(tactic| with_reducible refine rd_consV (by with_unfolding_all rfl) ?_)
local macro_rules | `(tactic| row_room_at rdhd) => `(tactic| with_reducible apply rd_nil)
local macro_rules | `(tactic| row_room_at rdhd) => `(tactic| with_reducible apply rd_c)
local macro_rules | `(tactic| row_room_at rdhd) => `(tactic| with_reducible refine rd_var (by with_unfolding_all rfl) ?_)
local macro_rules | `(tactic| row_room_at rdhd) => `(tactic| with_reducible apply rd_op)
local macro_rules | `(tactic| row_room_at rdsz) => `(tactic| with_reducible refine rd_sz (by with_unfolding_all first | decide | (simp only [List.length_append, List.length_map, List.length_cons, List.length_nil, List.length_take]; omega)) ?_)
local macro_rules | `(tactic| row_room_at rd1) => `(tactic| with_reducible refine rd_unN (by with_reducible assumption) ?_)
local macro_rules | `(tactic| row_room_at rd1) => `(tactic| ((fail_if_success with_reducible apply g_sp); (fail_if_success with_reducible apply g_ite); row_room_at rdex))
local macro_rules | `(tactic| row_room_at rd1) => `(tactic| ((fail_if_success with_reducible apply g_sp); (fail_if_success with_reducible intro _); row_room_at rdhd))
local macro_rules | `(tactic| row_room_at rd1) => `(tactic| row_room_at rdsz)
local macro_rules | `(tactic| row_room_at rd1) => `(tactic| ((with_reducible apply g_ex); row_room_at rdex))
local macro_rules | `(tactic| row_room_at rd1) => `(tactic| ((with_reducible apply g_ite); row_room_at rdit))
local macro_rules | `(tactic| row_room_at rd1) => `(tactic| ((with_reducible apply g_ts); row_room_at rdts))
local macro_rules | `(tactic| row_room_at rd) => `(tactic| repeat row_room_at rd1)
theorem sc_BadBound___init__ : FnScope ["self", "value"] ["self", "value"] (defScope s_BadBound___init__) := ⟨rfl, rfl, rfl, by decide +kernel, rfl, by decide +kernel, by decide +kernel⟩
theorem ok_BadBound___init__ (T : Txt K mg) : Cal P w K mg base CX0 2 (ma K (ga K "BadBound") "__init__") ["self", "value"] (spEInit K) := by
  obtain ⟨fd, F⟩ := T.f_BadBound___init__
  refine ⟨fd, ?_, F.kp, F.bindsN fun _ _ _ _ _ _ us hl => match us, hl with | [_, _], _ => rfl⟩
  refine F.ok sc_BadBound___init__ spEInit_len (fun cdv A outer s H vs Q E hr h => ?_)
  obtain ⟨a, C, v, rfl, ha, TC, k⟩ := h
  refine ⟨_, pss_one (ps_expr (pe_clfnC (x := "SameError") (c_SE T) T.seI (hr.mono (by omega)) rfl (T.g "SameError") pass0 (pa_cons (pv 0) (pa_cons (pv 1) pa_nil)))), ?_⟩
  exact ⟨_, rfl, _, rfl, a, C, v, rfl, ha, TC, k⟩
theorem sc_BadName___init__ : FnScope ["self", "value"] ["self", "value"] (defScope s_BadName___init__) := ⟨rfl, rfl, rfl, by decide +kernel, rfl, by decide +kernel, by decide +kernel⟩
theorem ok_BadName___init__ (T : Txt K mg) : Cal P w K mg base CX0 2 (ma K (ga K "BadName") "__init__") ["self", "value"] (spEInit K) := by
  obtain ⟨fd, F⟩ := T.f_BadName___init__
  refine ⟨fd, ?_, F.kp, F.bindsN fun _ _ _ _ _ _ us hl => match us, hl with | [_, _], _ => rfl⟩
  refine F.ok sc_BadName___init__ spEInit_len (fun cdv A outer s H vs Q E hr h => ?_)
  obtain ⟨a, C, v, rfl, ha, TC, k⟩ := h
  refine ⟨_, pss_one (ps_expr (pe_clfnC (x := "SameError") (c_SE T) T.seI (hr.mono (by omega)) rfl (T.g "SameError") pass0 (pa_cons (pv 0) (pa_cons (pv 1) pa_nil)))), ?_⟩
  exact ⟨_, rfl, _, rfl, a, C, v, rfl, ha, TC, k⟩
theorem binds_SE1 {fd : FuncData} (F : FnM K "SameError" "SameError.__init__" s_SameError___init__ [.non] fd) : ∃ ds, Vals [V.non] ds ∧ Binds K fd ["self", "value"] ds :=
  F.binds1 (ps := ["self", "value"]) 1 0 (by simp) rfl (fun _ _ _ _ _ _ _ us its hu hi => match us, hu, its, hi with | [_], _, [_], _ => ⟨_, rfl, rfl⟩)
def spEInit0 (K : PySem.W.Frag) : Sp := fun vs H Q _ => ∃ (a C : Addr), vs = [.ref a] ∧ H a = some (exo a C none) ∧ ErrC K C ∧ ∀ dx, H dx = none → dx ≠ a → Q .non (upd (upd H dx (exd dx [("value", .non)])) a (exo a C (some dx)))
theorem sc_TooMany___init__ : FnScope ["self"] ["self"] (defScope s_TooMany___init__) := ⟨rfl, rfl, rfl, by decide +kernel, rfl, by decide +kernel, by decide +kernel⟩
theorem ok_TooMany___init__ (T : Txt K mg) : Cal P w K mg base CX0 2 (ma K (ga K "TooMany") "__init__") ["self"] (spEInit0 K) := by
  obtain ⟨fd, F⟩ := T.f_TooMany___init__
  obtain ⟨fdS, FS⟩ := f_SE T
  obtain ⟨ds, hv, hb⟩ := binds_SE1 FS
  refine ⟨fd, ?_, F.kp, F.bindsN fun _ _ _ _ _ _ us hl => match us, hl with | [_], _ => rfl⟩
  refine F.ok sc_TooMany___init__ (fun vs H Q E h => ?_) (fun cdv A outer s H vs Q E hr h => ?_)
  · obtain ⟨a, C, rfl, _⟩ := h
    rfl
  obtain ⟨a, C, rfl, ha, TC, k⟩ := h
  refine ⟨_, PSs.nox (pss_one (ps_expr (pe_clfn (x := "SameError") rfl (T.g "SameError") T.seI (ok_SE T FS) hr FS.kp hb hv pass0 (pa_cons (pv 0) pa_nil)))), ?_⟩
  exact ⟨_, rfl, a, C, .non, rfl, ha, TC, k⟩
theorem err_made0 {C : Addr} {H : Hp} {W : XK} {E : XK} (T : ErrC K C) (k : ∀ H' d, Same H H' → H d = none → H' d = some (.xd [("value", .non)]) → W (.ref C) (some d) H') :
    ∀ a, H a = none → spEInit0 K [.ref a] (upd H a (exo a C none)) (fun r H2 => r = .non ∧ ∃ (d : Addr) (fs : List (Str × V)), H2 a = some (exo a C (some d)) ∧ H2 d = some (exd d fs) ∧ H d = none ∧ W (.ref C) (some d) (upd (del H2 a) d (.xd fs))) E := by
  intro a ha
  refine ⟨a, C, rfl, upd_same, T, fun dx h1 h2 => ⟨rfl, dx, _, upd_same, by rw [upd_ne h2, upd_same], by rw [upd_ne h2] at h1; exact h1, ?_⟩⟩
  rw [upd_ne h2] at h1
  refine k _ dx (fun b o e => ?_) h1 upd_same
  rw [upd_ne (ne_of_none e h1), del_ne (ne_of_none e ha), upd_ne (ne_of_none e ha), upd_ne (ne_of_none e h1), upd_ne (ne_of_none e ha)]
  exact e
def spFormE (K : PySem.W.Frag) : Sp := fun vs H Q E => ∃ (a C dx e : Addr) (kd th : V) (ks : List Kd), vs = [.ref a, kd, th, .ref e] ∧ H a = some (.ins C dx []) ∧ InsT K C ∧ H e = some (.tup (refs ks)) ∧ (∀ k ∈ ks, KidAt K H k) ∧ ks.length ≤ 10 ∧ ¬ Fits ks ∧ RaisesC K "TooMany" H .non E
theorem okE_Formula___init__ (T : Txt K mg) : Cal P w K mg base (L2N.CX P w) 4 (ma K (ga K "Formula") "__init__") ["self", "kind", "things", "inner"] (spFormE K) := by
  obtain ⟨fd, F⟩ := T.f_Formula___init__
  obtain ⟨fdM, GM, kM, bM⟩ := ok_TooMany___init__ (P := P) (w := w) (base := base) T
  have TB := T.err "TooMany" (by decide +kernel)
  refine ⟨fd, ?_, F.kp, F.bindsN fun _ _ _ _ _ _ us hl => match us, hl with | [_, _, _, _], _ => rfl⟩
  refine F.ok scForm (fun vs H Q E h => ?_) (fun cdv A outer s H vs Q E hr h => ?_)
  · obtain ⟨a, C, dx, e, kd, th, ks, rfl, _⟩ := h
    rfl
  obtain ⟨a, C, dx, e, kd, th, ks, rfl, ha, TC, he, hk, hl, nf, r⟩ := h
  obtain ⟨tP, hP⟩ := T.mPar
  obtain ⟨tD, hD⟩ := T.mDep
  have nd := scForm.nd
  refine ⟨_, pss_cons (ps_set (i := 4) nd rfl (Or.inl rfl) (pe_op op_add pe_int (pe_callB (cr_sum rfl) rfl (T.f "sum") (by decide +kernel) (pa_cons (pe_lc (own := [("one", 6)]) (te := tFld K (tVar 6) "parts") (g := gName 6) (tt := tYes) rfl nd (pi_tup (pv 3))
        (blkOk_by (N := ["self", "kind", "things", "inner", "parts", "depth", "one"]) (sc := defScope sForm) (by decide +kernel)) (fun _ _ _ _ _ => pg_name (i := 6) nd rfl (Or.inl rfl)) (fun _ _ _ _ _ => pts_nil)
        (fun _ _ _ _ _ => pe_fld (pv 6) rfl)) pa_nil))))
    (pss_cons (ps_set (i := 5) nd rfl (Or.inl rfl) (pe_op op_add pe_int (pe_callBK (crk_max rfl) rfl (T.f "max") (by decide +kernel) (pa_cons (pe_lc (own := [("one", 6)]) (te := tFld K (tVar 6) "depth") (g := gName 6) (tt := tYes) rfl nd (pi_tup (pv 3))
        (blkOk_by (N := ["self", "kind", "things", "inner", "parts", "depth", "one"]) (sc := defScope sForm) (by decide +kernel)) (fun _ _ _ _ _ => pg_name (i := 6) nd rfl (Or.inl rfl)) (fun _ _ _ _ _ => pts_nil)
        (fun _ _ _ _ _ => pe_fld (pv 6) rfl)) pa_nil) (pk_cons pe_int pk_nil))))
    (pss_cons (ps_if (PW.pt (pw_or (pt_cmpR op_gt (pv 4) (pe_glob (v := .int 300) rfl hP ⟨_, rfl⟩) (nomark _)) (pw_or1 (pt_cmpR op_gt (pv 5) (pe_glob (v := .int 40) rfl hD ⟨_, rfl⟩) (nomark _)))))
      (pss_one (L2N.ps_raise rfl (L2N.takes_of rfl rfl rfl rfl) (pmkN_oex0 (x := "TooMany") TB.o TB.ini TB.inT GM (hr.mono (by omega)) bM pass0 rfl (T.g "TooMany")))) pss_nil)
    (pss_cons (ps_fld (pv 0) (pv 1) rfl) (pss_cons (ps_fld (pv 0) (pv 2) rfl) (pss_cons (ps_fld (pv 0) (pv 4) rfl) (pss_one (ps_fld (pv 0) (pv 5) rfl))))))), ?_⟩
  -- parts = 1 + sum([..])
  refine ⟨_, rfl, e, rfl, ⟨_, .inl (.inl he)⟩, fun D hDn => ?_⟩
  refine lc_kids T (g := fun k => k.p) he hk hl hDn (by decide +kernel) (fun _ _ _ => rfl) (fun _ => rfl) (fun _ => rfl) (fun H1 e1 s1 => ?_)
  refine ⟨D, ks.map fun k => (k.p : Int), rfl, SqL.of e1, _, _, rfl, rfl, ?_⟩
  rw [sum_int]
  -- depth = 1 + max([..], default=0)
  refine ⟨_, rfl, e, rfl, ⟨_, .inl (.inl (s1 _ _ he))⟩, fun D2 hD2 => ?_⟩
  refine lc_kids T (g := fun k => k.d) (s1 _ _ he) (fun k hk' => (hk k hk').same s1) hl hD2 (by decide +kernel) (fun _ _ _ => rfl) (fun _ => rfl) (fun _ => rfl) (fun H2 e2 s2 => ?_)
  have s02 := s1.trans s2
  refine ⟨D2, ks.map fun k => (k.d : Int), .int 0, rfl, rfl, SqL.of e2, And.symm (max_kids ?_)⟩
  refine ⟨_, _, rfl, rfl, ?_⟩
  refine ⟨_, rfl, _, _, rfl, rfl, _, rfl, ?_⟩
  refine ite2 (fun h => ?_) (fun h => ?_)
  · refine ite2 (fun _ => ?_) (fun h2 => absurd rfl h2)
    exact ⟨by show 0 ≤ 1000; decide, err_made0 TB fun H3 d s3 hd hx => r H3 d (s02.trans s3) (none_back s02 hd) hx⟩
  have h : ¬ ((300 : Int) < 1 + (sumP ks : Nat)) := fun z => h (decide_eq_true z)
  refine ⟨_, rfl, _, _, rfl, rfl, _, rfl, ?_⟩
  refine ite2 (fun h4 => ?_) (fun h4 => ?_)
  · exact ⟨by show 0 ≤ 1000; decide, err_made0 TB fun H3 d s3 hd hx => r H3 d (s02.trans s3) (none_back s02 hd) hx⟩
  have h4 : ¬ ((40 : Int) < 1 + (maxD ks : Nat)) := fun z => h4 (decide_eq_true z)
  exact absurd ⟨by omega, by omega⟩ nf
theorem form_readE {H H2 : Hp} {f : Fo} {th : List V} {ks : List Kd} {t e : Addr} {E : XK} (T : Txt K mg) (hc : f.cls = "Formula") (s02 : Same H H2) (r : ∀ k ∈ ks, KidAt K H k) (hl : ks.length ≤ 10) (ep : f.parts = 1 + sumP ks) (ed : f.depth = 1 + maxD ks) (nf : ¬ f.Fits)
    (ee : H2 e = some (.tup (refs ks))) (q : RaisesC K "TooMany" H .non E) :
    ∀ x dx, H2 x = none → H2 dx = none → dx ≠ x → ∀ Q, spFormE K [.ref x, .str f.kind, .ref t, .ref e] (upd (upd H2 dx (.own x)) x (.ins (ga K "Formula") dx [])) Q E := by
  intro x dx hx hdx ne Q
  have s3 : Same H2 (upd (upd H2 dx (.own x)) x (.ins (ga K "Formula") dx [])) := fun b o q => by rw [upd_ne (ne_of_none q hx), upd_ne (ne_of_none q hdx)]; exact q
  exact ⟨x, ga K "Formula", dx, e, _, _, ks, rfl, upd_same, T.ins _ (by decide +kernel), s3 _ _ ee, fun k hk => (r k hk).same (s02.trans s3), hl, fun z => nf ⟨by rw [ep]; exact z.1, by rw [ed]; exact z.2⟩, q.same (s02.trans s3)⟩
def spBinM (K : PySem.W.Frag) (o : B3) : Sp := fun vs H Q E => ∃ (f g : Fo) (a b : Addr), vs = [.ref a, .ref b] ∧ FoAt K H f a ∧ FoAt K H g b ∧ ¬ (Fo.bin o f g).Fits ∧ RaisesC K "TooMany" H .non E
theorem bin_readE (T : Txt K mg) {o : B3} {f g : Fo} {a b : Addr} {H : Hp} {E : XK} (hf : FoAt K H f a) (hg : FoAt K H g b) (nf : ¬ (Fo.bin o f g).Fits) (q : RaisesC K "TooMany" H .non E) :
    ∀ t, H t = none → ∀ e, (upd H t (.tup [.ref a, .ref b])) e = none → ∀ x dx, (upd (upd H t (.tup [.ref a, .ref b])) e (.tup [.ref a, .ref b])) x = none → (upd (upd H t (.tup [.ref a, .ref b])) e (.tup [.ref a, .ref b])) dx = none → dx ≠ x → ∀ Q,
      spFormE K [.ref x, .str o.str, .ref t, .ref e] (upd (upd (upd (upd H t (.tup [.ref a, .ref b])) e (.tup [.ref a, .ref b])) dx (.own x)) x (.ins (ga K "Formula") dx [])) Q E := by
  intro t ht e he x dx hx hdx ne Q
  have s1 := upd_new (o := .tup [V.ref a, .ref b]) ht
  have s2 := upd_new (o := .tup [V.ref a, .ref b]) he
  obtain ⟨th1, k1⟩ := hf.kid
  obtain ⟨th2, k2⟩ := hg.kid
  refine form_readE (f := .bin o f g) (th := [.ref a, .ref b]) (ks := [f.kd a th1, g.kd b th2]) T rfl (s1.trans s2) (fun k hk => ?_) (by show 2 ≤ 10; decide) ?_ ?_ nf upd_same q x dx hx hdx ne Q
  · rcases List.mem_cons.mp hk with rfl | hk
    · exact k1
    · rw [List.mem_singleton.mp hk]; exact k2
  · rw [Fo.parts]
    show 1 + (f.parts + g.parts) = 1 + (f.parts + (g.parts + 0))
    omega
  · rw [Fo.depth]
    show 1 + max f.depth g.depth = 1 + max f.depth (max g.depth 0)
    omega
theorem scE_Formula___add__ : FnScope ["self", "other"] ["self", "other"] (defScope sAdd) := ⟨rfl, rfl, rfl, by decide +kernel, rfl, by decide +kernel, by decide +kernel⟩
theorem okE_Formula___add__ (T : Txt K mg) : Cal P w K mg base (L2N.CX P w) (6) (ma K (ga K "Formula") "__add__") ["self", "other"] (spBinM K .plus) := by
  obtain ⟨fd, F⟩ := T.f_Formula___add__
  refine ⟨fd, ?_, F.kp, F.bindsN fun _ _ _ _ _ _ us hl => match us, hl with | [_, _], _ => rfl⟩
  refine F.ok scE_Formula___add__ (fun vs H Q E h => ?_) (fun cdv A outer s H vs Q E hr h => ?_)
  · obtain ⟨_, _, _, _, rfl, _⟩ := h
    rfl
  have nod := scE_Formula___add__.nd
  have hu := hu_of hr
  refine ⟨_, (pss_cons (ps_expr (pe_callC (ok_check_formula T) (hr.mono (by omega)) rfl (T.g "check_formula") pass0 (pa_cons (pv 1) pa_nil)))
  (pss_one (ps_ret (pe_alt (pe_makeC (E := E) (T.ins "Formula" (by decide +kernel)).mkr (okE_Formula___init__ T) (hr.mono (by omega)) rfl (T.g "Formula") (L2N.passes_call (E := E) (L2N.takes_of rfl rfl rfl rfl) (fun _ _ _ _ h => h)) (pa_cons pe_str (pa_cons (pe_tup (pa_cons (pv 0) (pa_cons (pv 1) pa_nil))) (pa_cons (pe_tup (pa_cons (pv 0) (pa_cons (pv 1) pa_nil))) pa_nil)))) (pe_makeC (T.ins "Formula" (by decide +kernel)).mkr (c_form T) (hr.mono (by omega)) rfl (T.g "Formula") pass0 (pa_cons pe_str (pa_cons (pe_tup (pa_cons (pv 0) (pa_cons (pv 1) pa_nil))) (pa_cons (pe_tup (pa_cons (pv 0) (pa_cons (pv 1) pa_nil))) pa_nil)))))))), ?_⟩
  obtain ⟨f, g, a, b, rfl, hf, hg, nf, q⟩ := h
  exact ⟨_, rfl, g, b, rfl, hg, .inl ⟨_, rfl, _, rfl, tsz (by show 2 ≤ 1000000; decide), fun t ht => ⟨_, rfl, _, rfl, tsz (by show 2 ≤ 1000000; decide), fun e he x dx hx hdx ne => bin_readE T hf hg nf q t ht e he x dx hx hdx ne _⟩⟩⟩
theorem scE_Formula___sub__ : FnScope ["self", "other"] ["self", "other"] (defScope sSub) := ⟨rfl, rfl, rfl, by decide +kernel, rfl, by decide +kernel, by decide +kernel⟩
theorem okE_Formula___sub__ (T : Txt K mg) : Cal P w K mg base (L2N.CX P w) (6) (ma K (ga K "Formula") "__sub__") ["self", "other"] (spBinM K .minus) := by
  obtain ⟨fd, F⟩ := T.f_Formula___sub__
  refine ⟨fd, ?_, F.kp, F.bindsN fun _ _ _ _ _ _ us hl => match us, hl with | [_, _], _ => rfl⟩
  refine F.ok scE_Formula___sub__ (fun vs H Q E h => ?_) (fun cdv A outer s H vs Q E hr h => ?_)
  · obtain ⟨_, _, _, _, rfl, _⟩ := h
    rfl
  have nod := scE_Formula___sub__.nd
  have hu := hu_of hr
  refine ⟨_, (pss_cons (ps_expr (pe_callC (ok_check_formula T) (hr.mono (by omega)) rfl (T.g "check_formula") pass0 (pa_cons (pv 1) pa_nil)))
  (pss_one (ps_ret (pe_alt (pe_makeC (E := E) (T.ins "Formula" (by decide +kernel)).mkr (okE_Formula___init__ T) (hr.mono (by omega)) rfl (T.g "Formula") (L2N.passes_call (E := E) (L2N.takes_of rfl rfl rfl rfl) (fun _ _ _ _ h => h)) (pa_cons pe_str (pa_cons (pe_tup (pa_cons (pv 0) (pa_cons (pv 1) pa_nil))) (pa_cons (pe_tup (pa_cons (pv 0) (pa_cons (pv 1) pa_nil))) pa_nil)))) (pe_makeC (T.ins "Formula" (by decide +kernel)).mkr (c_form T) (hr.mono (by omega)) rfl (T.g "Formula") pass0 (pa_cons pe_str (pa_cons (pe_tup (pa_cons (pv 0) (pa_cons (pv 1) pa_nil))) (pa_cons (pe_tup (pa_cons (pv 0) (pa_cons (pv 1) pa_nil))) pa_nil)))))))), ?_⟩
  obtain ⟨f, g, a, b, rfl, hf, hg, nf, q⟩ := h
  exact ⟨_, rfl, g, b, rfl, hg, .inl ⟨_, rfl, _, rfl, tsz (by show 2 ≤ 1000000; decide), fun t ht => ⟨_, rfl, _, rfl, tsz (by show 2 ≤ 1000000; decide), fun e he x dx hx hdx ne => bin_readE T hf hg nf q t ht e he x dx hx hdx ne _⟩⟩⟩
theorem scE_Formula___mul__ : FnScope ["self", "other"] ["self", "other"] (defScope sMul) := ⟨rfl, rfl, rfl, by decide +kernel, rfl, by decide +kernel, by decide +kernel⟩
theorem okE_Formula___mul__ (T : Txt K mg) : Cal P w K mg base (L2N.CX P w) (6) (ma K (ga K "Formula") "__mul__") ["self", "other"] (spBinM K .times) := by
  obtain ⟨fd, F⟩ := T.f_Formula___mul__
  refine ⟨fd, ?_, F.kp, F.bindsN fun _ _ _ _ _ _ us hl => match us, hl with | [_, _], _ => rfl⟩
  refine F.ok scE_Formula___mul__ (fun vs H Q E h => ?_) (fun cdv A outer s H vs Q E hr h => ?_)
  · obtain ⟨_, _, _, _, rfl, _⟩ := h
    rfl
  have nod := scE_Formula___mul__.nd
  have hu := hu_of hr
  refine ⟨_, (pss_cons (ps_expr (pe_callC (ok_check_formula T) (hr.mono (by omega)) rfl (T.g "check_formula") pass0 (pa_cons (pv 1) pa_nil)))
  (pss_one (ps_ret (pe_alt (pe_makeC (E := E) (T.ins "Formula" (by decide +kernel)).mkr (okE_Formula___init__ T) (hr.mono (by omega)) rfl (T.g "Formula") (L2N.passes_call (E := E) (L2N.takes_of rfl rfl rfl rfl) (fun _ _ _ _ h => h)) (pa_cons pe_str (pa_cons (pe_tup (pa_cons (pv 0) (pa_cons (pv 1) pa_nil))) (pa_cons (pe_tup (pa_cons (pv 0) (pa_cons (pv 1) pa_nil))) pa_nil)))) (pe_makeC (T.ins "Formula" (by decide +kernel)).mkr (c_form T) (hr.mono (by omega)) rfl (T.g "Formula") pass0 (pa_cons pe_str (pa_cons (pe_tup (pa_cons (pv 0) (pa_cons (pv 1) pa_nil))) (pa_cons (pe_tup (pa_cons (pv 0) (pa_cons (pv 1) pa_nil))) pa_nil)))))))), ?_⟩
  obtain ⟨f, g, a, b, rfl, hf, hg, nf, q⟩ := h
  exact ⟨_, rfl, g, b, rfl, hg, .inl ⟨_, rfl, _, rfl, tsz (by show 2 ≤ 1000000; decide), fun t ht => ⟨_, rfl, _, rfl, tsz (by show 2 ≤ 1000000; decide), fun e he x dx hx hdx ne => bin_readE T hf hg nf q t ht e he x dx hx hdx ne _⟩⟩⟩
def spNegM (K : PySem.W.Frag) : Sp := fun vs H Q E => ∃ (f : Fo) (a : Addr), vs = [.ref a] ∧ FoAt K H f a ∧ ¬ (Fo.neg f).Fits ∧ RaisesC K "TooMany" H .non E
theorem scE_Formula___neg__ : FnScope ["self"] ["self"] (defScope sNeg) := ⟨rfl, rfl, rfl, by decide +kernel, rfl, by decide +kernel, by decide +kernel⟩
theorem okE_Formula___neg__ (T : Txt K mg) : Cal P w K mg base (L2N.CX P w) (6) (ma K (ga K "Formula") "__neg__") ["self"] (spNegM K) := by
  obtain ⟨fd, F⟩ := T.f_Formula___neg__
  refine ⟨fd, ?_, F.kp, F.bindsN fun _ _ _ _ _ _ us hl => match us, hl with | [_], _ => rfl⟩
  refine F.ok scE_Formula___neg__ (fun vs H Q E h => ?_) (fun cdv A outer s H vs Q E hr h => ?_)
  · obtain ⟨_, _, rfl, _⟩ := h
    rfl
  have nod := scE_Formula___neg__.nd
  have hu := hu_of hr
  refine ⟨_, (pss_one (ps_ret (pe_alt (pe_makeC (E := E) (T.ins "Formula" (by decide +kernel)).mkr (okE_Formula___init__ T) (hr.mono (by omega)) rfl (T.g "Formula") (L2N.passes_call (E := E) (L2N.takes_of rfl rfl rfl rfl) (fun _ _ _ _ h => h)) (pa_cons pe_str (pa_cons (pe_tup (pa_cons (pv 0) pa_nil)) (pa_cons (pe_tup (pa_cons (pv 0) pa_nil)) pa_nil)))) (pe_makeC (T.ins "Formula" (by decide +kernel)).mkr (c_form T) (hr.mono (by omega)) rfl (T.g "Formula") pass0 (pa_cons pe_str (pa_cons (pe_tup (pa_cons (pv 0) pa_nil)) (pa_cons (pe_tup (pa_cons (pv 0) pa_nil)) pa_nil))))))), ?_⟩
  obtain ⟨f, a, rfl, hf, nf, q⟩ := h
  refine .inl ⟨_, rfl, tsz (by show 1 ≤ 1000000; decide), fun t ht => ⟨_, rfl, tsz (by show 1 ≤ 1000000; decide), fun e he x dx hx hdx ne => ?_⟩⟩
  have s1 := upd_new (o := .tup [V.ref a]) ht
  have s2 := upd_new (o := .tup [V.ref a]) he
  obtain ⟨th1, k1⟩ := hf.kid
  refine form_readE (f := .neg f) (th := [.ref a]) (ks := [f.kd a th1]) T rfl (s1.trans s2) (fun k hk => by rw [List.mem_singleton.mp hk]; exact k1) (by show 1 ≤ 10; decide) ?_ ?_ nf upd_same q x dx hx hdx ne _
  · rw [Fo.parts]
    show 1 + f.parts = 1 + (f.parts + 0)
    omega
  · rw [Fo.depth]
    show 1 + f.depth = 1 + max f.depth 0
    omega
def spShlM (K : PySem.W.Frag) : Sp := fun vs H Q E => ∃ (f : Fo) (a : Addr) (i : Int), vs = [.ref a, .int i] ∧ 0 ≤ i ∧ i ≤ 64 ∧ FoAt K H f a ∧ ¬ (Fo.shl f i).Fits ∧ RaisesC K "TooMany" H .non E
theorem scE_Formula___lshift__ : FnScope ["self", "other"] ["self", "other"] (defScope sShl) := ⟨rfl, rfl, rfl, by decide +kernel, rfl, by decide +kernel, by decide +kernel⟩
theorem okE_Formula___lshift__ (T : Txt K mg) : Cal P w K mg base (L2N.CX P w) (6) (ma K (ga K "Formula") "__lshift__") ["self", "other"] (spShlM K) := by
  obtain ⟨fd, F⟩ := T.f_Formula___lshift__
  refine ⟨fd, ?_, F.kp, F.bindsN fun _ _ _ _ _ _ us hl => match us, hl with | [_, _], _ => rfl⟩
  refine F.ok scE_Formula___lshift__ (fun vs H Q E h => ?_) (fun cdv A outer s H vs Q E hr h => ?_)
  · obtain ⟨_, _, _, rfl, _⟩ := h
    rfl
  have nod := scE_Formula___lshift__.nd
  have hu := hu_of hr
  refine ⟨_, (pss_cons (ps_expr (pe_callC (ok_check_shift T) (hr.mono (by omega)) rfl (T.g "check_shift") pass0 (pa_cons (pv 1) pa_nil)))
  (pss_one (ps_ret (pe_alt (pe_makeC (E := E) (T.ins "Formula" (by decide +kernel)).mkr (okE_Formula___init__ T) (hr.mono (by omega)) rfl (T.g "Formula") (L2N.passes_call (E := E) (L2N.takes_of rfl rfl rfl rfl) (fun _ _ _ _ h => h)) (pa_cons pe_str (pa_cons (pe_tup (pa_cons (pv 0) (pa_cons (pv 1) pa_nil))) (pa_cons (pe_tup (pa_cons (pv 0) pa_nil)) pa_nil)))) (pe_makeC (T.ins "Formula" (by decide +kernel)).mkr (c_form T) (hr.mono (by omega)) rfl (T.g "Formula") pass0 (pa_cons pe_str (pa_cons (pe_tup (pa_cons (pv 0) (pa_cons (pv 1) pa_nil))) (pa_cons (pe_tup (pa_cons (pv 0) pa_nil)) pa_nil)))))))), ?_⟩
  obtain ⟨f, a, i, rfl, i0, i1, hf, nf, q⟩ := h
  refine ⟨_, rfl, i, rfl, i0, i1, .inl ⟨_, rfl, _, rfl, tsz (by show 2 ≤ 1000000; decide), fun t ht => ⟨_, rfl, tsz (by show 1 ≤ 1000000; decide), fun e he x dx hx hdx ne => ?_⟩⟩⟩
  have s1 := upd_new (o := .tup [V.ref a, .int i]) ht
  have s2 := upd_new (o := .tup [V.ref a]) he
  obtain ⟨th1, k1⟩ := hf.kid
  refine form_readE (f := .shl f i) (th := [.ref a, .int i]) (ks := [f.kd a th1]) T rfl (s1.trans s2) (fun k hk => by rw [List.mem_singleton.mp hk]; exact k1) (by show 1 ≤ 10; decide) ?_ ?_ nf upd_same q x dx hx hdx ne _
  · rw [Fo.parts]
    show 1 + f.parts = 1 + (f.parts + 0)
    omega
  · rw [Fo.depth]
    show 1 + f.depth = 1 + max f.depth 0
    omega

/-! ### Sum(..) that is refused -/
def spSumE3 (K : PySem.W.Frag) : Sp := fun vs H Q E => ∃ (a C dx y x : Addr) (i : Str) (b f : Fo), vs = [.ref a, .str i, .ref y, .ref x] ∧ GoodN i ∧ H a = some (.ins C dx []) ∧ InsT K C ∧ b.leaf ∧ FoAt K H b y ∧ FoAt K H f x ∧ f.Fits ∧
  ((b = .nam i ∧ RaisesC K "BadBound" H (.ref y) E) ∨ (b ≠ .nam i ∧ ((i ∈ f.ixs ∧ RaisesC K "BadName" H (.str i) E) ∨ (i ∉ f.ixs ∧ ¬ (Fo.sum i b f).Fits ∧ RaisesC K "TooMany" H .non E))))
theorem scE_Sum___init__ : FnScope ["self", "index", "below", "body"] ["self", "index", "below", "body"] (defScope sSum) := ⟨rfl, rfl, rfl, by decide +kernel, rfl, by decide +kernel, by decide +kernel⟩
theorem okE_Sum___init__ (T : Txt K mg) : Cal P w K mg base (L2N.CX P w) (46) (ma K (ga K "Sum") "__init__") ["self", "index", "below", "body"] (spSumE3 K) := by
  obtain ⟨fd, F⟩ := T.f_Sum___init__
  obtain ⟨fdB_BadBound, GB_BadBound, kB_BadBound, bB_BadBound⟩ := ok_BadBound___init__ (P := P) (w := w) (base := base) T
  have TB_BadBound := T.err "BadBound" (by decide +kernel)
  obtain ⟨fdB_BadName, GB_BadName, kB_BadName, bB_BadName⟩ := ok_BadName___init__ (P := P) (w := w) (base := base) T
  have TB_BadName := T.err "BadName" (by decide +kernel)
  refine ⟨fd, ?_, F.kp, F.bindsN fun _ _ _ _ _ _ us hl => match us, hl with | [_, _, _, _], _ => rfl⟩
  refine F.ok scE_Sum___init__ (fun vs H Q E h => ?_) (fun cdv A outer s H vs Q E hr h => ?_)
  · obtain ⟨_, _, _, _, _, _, _, _, rfl, _⟩ := h
    rfl
  have nod := scE_Sum___init__.nd
  have hu := hu_of hr
  refine ⟨_, (pss_cons (ps_expr (pe_callC (c_check_name T) (hr.mono (by omega)) rfl (T.g "check_name") pass0 (pa_cons (pv 1) pa_nil)))
  (pss_cons (ps_if (PW.pt (pw_or (pt_not (pt_val (pe_callB call_isiT rfl (T.f "isinstance") (by decide +kernel) (pa_cons (pv 2) (pa_cons (pe_tup (pa_cons (pe_glob (v := .ref (ga K "Name")) rfl (T.g "Name") rfl) (pa_cons (pe_glob (v := .ref (ga K "Number")) rfl (T.g "Number") rfl) pa_nil))) pa_nil))))) (pw_or1 (pt_cmpR op_eq (pe_ix ix_tup (pe_fld (pv 2) rfl) pe_int (fun _ _ => rfl)) (pv 1) (nomark _)))))
    (pss_one (L2N.ps_raise rfl (L2N.takes_of rfl rfl rfl rfl) (pmkN_oex (x := "BadBound") TB_BadBound.o TB_BadBound.ini TB_BadBound.inT GB_BadBound (hr.mono (by omega)) bB_BadBound .nil pass0 rfl (T.g "BadBound") (pa_cons (pv 2) pa_nil))))
    pss_nil)
  (pss_cons (ps_expr (pe_callC (ok_check_formula T) (hr.mono (by omega)) rfl (T.g "check_formula") pass0 (pa_cons (pv 3) pa_nil)))
  (pss_cons (ps_if (pt_cmpR op_in_seq (pv 1) (pe_callC (ok_index_names T 40) (hr.mono (by omega)) rfl (T.g "index_names") pass0 (pa_cons (pv 3) pa_nil)) rfl)
    (pss_one (L2N.ps_raise rfl (L2N.takes_of rfl rfl rfl rfl) (pmkN_oex (x := "BadName") TB_BadName.o TB_BadName.ini TB_BadName.inT GB_BadName (hr.mono (by omega)) bB_BadName .nil pass0 rfl (T.g "BadName") (pa_cons (pv 1) pa_nil))))
    pss_nil)
  (pss_one (ps_expr (pe_clfnC (E := E) (okE_Formula___init__ T) T.foI (hr.mono (by omega)) rfl (T.g "Formula") (L2N.passes_call (E := E) (L2N.takes_of rfl rfl rfl rfl) (fun _ _ _ _ h => h)) (pa_cons (pv 0) (pa_cons pe_str (pa_cons (pe_tup (pa_cons (pv 1) (pa_cons (pv 2) (pa_cons (pv 3) pa_nil)))) (pa_cons (pe_tup (pa_cons (pv 3) pa_nil)) pa_nil))))))))))), ?_⟩
  obtain ⟨a, C, dx, y, x, i, b, f, rfl, z0, ha, I, hl, hb, hf, ff, hc⟩ := h
  obtain ⟨dxb, tb, thb, xb, eb, etb, shb, _⟩ := hb.opened
  have Ib := T.ins _ b.cls_mem
  obtain ⟨bc, bt⟩ := leaf_th (dx := dxb) (t := tb) hl shb
  refine ⟨_, rfl, i, rfl, z0, fun H1 s1 => ?_⟩
  refine ⟨_, rfl, tsz (by show 2 ≤ 1000000; decide), fun tp htp => ?_⟩
  have s2 := upd_new (o := .tup [V.ref (ga K "Name"), .ref (ga K "Number")]) htp
  have etp : (upd H1 tp (.tup [.ref (ga K "Name"), .ref (ga K "Number")])) tp = some (.tup [.ref (ga K "Name"), .ref (ga K "Number")]) := upd_same
  generalize upd H1 tp (.tup [.ref (ga K "Name"), .ref (ga K "Number")]) = H2 at s2 etp ⊢
  have s02 := s1.trans s2
  have any : PySem.W.kitAny K (.ref (ga K b.cls)) [.ref (ga K "Name"), .ref (ga K "Number")] = some true := by
    rcases bc with ec | ec
    · rw [ec]
      exact kitAny_cons (T.kit "Name" (by decide +kernel) "Name" (by decide +kernel)) (fun h => absurd h (by decide +kernel)) (fun _ => rfl)
    · rw [ec]
      exact kitAny_cons (T.kit "Number" (by decide +kernel) "Name" (by decide +kernel)) (fun _ => kitAny_cons (T.kit "Number" (by decide +kernel) "Number" (by decide +kernel)) (fun h => absurd h (by decide +kernel)) (fun _ => rfl)) (fun _ => rfl)
  refine ⟨.ref y, tp, _, _, _, true, rfl, etp, .cons (.own _) (.cons (.own _) .nil), .base (.ins (s02 _ _ eb) Ib.cl Ib.ha Ib.hn Ib.ht Ib.hm), any, _, rfl, ?_⟩
  refine ite2 (fun h => Bool.noConfusion (show false = true from h)) (fun _ => ?_)
  rcases hc with ⟨rfl, r⟩ | ⟨hbi, hc⟩
  · have fin : L2.tMkO (ga K "BadBound") (spEInit K) [] (tCons (tVar 2) tNil) (L2.start ["self", "index", "below", "body"] [V.ref a, .str i, .ref y, .ref x]) H2 (fun cls d H' => E cls d H') :=
      ⟨_, rfl, by show 1 ≤ 1000; decide, err_made TB_BadBound fun H3 d s3 hd hx => r H3 d (s02.trans s3) (none_back s02 hd) hx⟩
    cases shb
    refine ⟨_, rfl, y, _, dxb, _, _, rfl, s02 _ _ eb, Ib.cl, Ib.no "things" (by decide +kernel), rfl, tb, _, _, _, rfl, rfl, SqT.of (s02 _ _ etb), rfl, _, rfl, rfl, _, rfl, ?_⟩
    exact ite2 (fun _ => fin) (fun h => absurd (decide_eq_true rfl) h)
  obtain ⟨v0, ev0, esc, ene⟩ : ∃ v0, atI thb 0 = some v0 ∧ scal v0 (.str i) = true ∧ decide (v0 = V.str i) = false := by
    rcases bt with ⟨n, _, et⟩ | ⟨z, eb', et⟩
    · exact ⟨.int n, by rw [et]; rfl, rfl, decide_eq_false (fun z => nomatch z)⟩
    · exact ⟨.str z, by rw [et]; rfl, rfl, decide_eq_false (fun y => hbi (by rw [eb']; injection y with y; rw [y]))⟩
  refine ⟨_, rfl, y, _, dxb, _, _, rfl, s02 _ _ eb, Ib.cl, Ib.no "things" (by decide +kernel), rfl, tb, _, _, v0, rfl, rfl, SqT.of (s02 _ _ etb), ev0, _, rfl, esc, _, rfl, ?_⟩
  refine ite2 (fun h => Bool.noConfusion (ene.symm.trans h)) (fun _ => ?_)
  refine ⟨_, rfl, f, x, rfl, hf.same s02, ?_⟩
  refine ⟨_, rfl, _, rfl, f, x, rfl, ff.2, ff.1, hf.same s02, fun l H3 s3 hl' el => ⟨l, _, rfl, .inl (SqL.of el), rfl, flat_strs _, _, rfl, ?_⟩⟩
  have s03 := s02.trans s3
  refine ite2 (fun h => ?_) (fun h => ?_)
  · have h : inV (.str i) (f.ixs.map V.str) = true := h
    rw [inV_strs] at h
    rcases hc with ⟨_, r⟩ | ⟨ni, _⟩
    · exact ⟨_, rfl, by show 1 ≤ 1000; decide, err_made TB_BadName fun H4 d s4 hd hx => r H4 d (s03.trans s4) (none_back s03 hd) hx⟩
    · exact absurd (of_decide_eq_true h) ni
  · rcases hc with ⟨ii, _⟩ | ⟨ni, nf, q⟩
    · exact absurd (show inV (.str i) (f.ixs.map V.str) = true by rw [inV_strs]; exact decide_eq_true ii) h
    refine ⟨_, rfl, _, rfl, _, rfl, _, rfl, tsz (by show 3 ≤ 1000000; decide), fun t ht => ⟨_, rfl, tsz (by show 1 ≤ 1000000; decide), fun e he => ?_⟩⟩
    have s4 := upd_new (o := .tup [V.str i, .ref y, .ref x]) ht
    have s5 := upd_new (o := .tup [V.ref x]) he
    obtain ⟨th1, k1⟩ := hf.kid
    have ep : (Fo.sum i b f).parts = 1 + sumP [f.kd x th1] := by rw [Fo.parts]; show 1 + f.parts = 1 + (f.parts + 0); omega
    have ed : (Fo.sum i b f).depth = 1 + maxD [f.kd x th1] := by rw [Fo.depth]; show 1 + f.depth = 1 + max f.depth 0; omega
    have s05 := (s03.trans s4).trans s5
    exact ⟨a, C, dx, e, _, _, [f.kd x th1], rfl, s05 _ _ ha, I, upd_same, (fun q hq => by rw [List.mem_singleton.mp hq]; exact k1.same s05), by show 1 ≤ 10; decide, fun z => nf ⟨by rw [ep]; exact z.1, by rw [ed]; exact z.2⟩, q.same s05⟩
def spCallM (K : PySem.W.Frag) : Sp := fun vs H Q E => ∃ (a C dx l : Addr) (z : Str) (fs : List Fo) (xs : List Addr), vs = [.ref a, .str z, .ref l] ∧ GoodN z ∧ H a = some (.ins C dx []) ∧ InsT K C ∧ H l = some (.lst (xs.map V.ref)) ∧ 1 ≤ fs.length ∧ fs.length ≤ 4 ∧ FoAts K H fs xs ∧ ¬ (Fo.call z fs).Fits ∧ RaisesC K "TooMany" H .non E
theorem scE_Call___init__ : FnScope ["self", "name", "things", "thing"] ["self", "name", "things"] (defScope sCall) := ⟨rfl, rfl, rfl, by decide +kernel, rfl, by decide +kernel, by decide +kernel⟩
theorem okE_Call___init__ (T : Txt K mg) : Cal P w K mg base (L2N.CX P w) (6) (ma K (ga K "Call") "__init__") ["self", "name", "things"] (spCallM K) := by
  obtain ⟨fd, F⟩ := T.f_Call___init__
  refine ⟨fd, ?_, F.kp, F.bindsN fun _ _ _ _ _ _ us hl => match us, hl with | [_, _, _], _ => rfl⟩
  refine F.ok scE_Call___init__ (fun vs H Q E h => ?_) (fun cdv A outer s H vs Q E hr h => ?_)
  · obtain ⟨_, _, _, _, _, _, _, rfl, _⟩ := h
    rfl
  have nod := scE_Call___init__.nd
  have hu := hu_of hr
  refine ⟨_, (pss_cons (ps_expr (pe_callC (c_check_name T) (hr.mono (by omega)) rfl (T.g "check_name") pass0 (pa_cons (pv 1) pa_nil)))
  (pss_cons (ps_if (PW.pt (pw_or (pt_not (pt_val (pe_callC (ok_is_row T) (hr.mono (by omega)) rfl (T.g "is_row") pass0 (pa_cons (pv 2) pa_nil)))) (pw_or1 (pt_not (pt_chain op_le op_le pe_int (pe_callB call_len_seq rfl (T.f "len") (by decide +kernel) (pa_cons (pv 2) pa_nil)) (pe_gi (n := 4) rfl T.mThg))))))
    (pss_one ps_never)
    pss_nil)
  (pss_cons (ps_for PassesOwn.leaving rfl (pi_list (pv 2)) (pg_name (i := 3) nod rfl (Or.inl rfl))
    (pss_one (ps_expr (pe_callC (ok_check_formula T) (hr.mono (by omega)) rfl (T.g "check_formula") pass0 (pa_cons (pv 3) pa_nil)))))
  (pss_one (ps_expr (pe_clfnC (E := E) (okE_Formula___init__ T) T.foI (hr.mono (by omega)) rfl (T.g "Formula") (L2N.passes_call (E := E) (L2N.takes_of rfl rfl rfl rfl) (fun _ _ _ _ h => h)) (pa_cons (pv 0) (pa_cons pe_str (pa_cons (pe_tup (pa_cons (pv 1) (pa_cons (pe_callTy call_tuple_of rfl (T.f "tuple") (by decide +kernel) (pa_cons (pv 2) pa_nil)) pa_nil))) (pa_cons (pe_callTy call_tuple_of rfl (T.f "tuple") (by decide +kernel) (pa_cons (pv 2) pa_nil)) pa_nil)))))))))), ?_⟩
  obtain ⟨a, C, dx, l, z, fs, xs, rfl, z0, ha, I, el, n1, n4, fk, nf, q⟩ := h
  have lx := fk.len
  refine ⟨_, rfl, z, rfl, z0, fun H1 s1 => ?_⟩
  refine ⟨_, rfl, l, _, rfl, s1 _ _ el, fun H2 s2 => ⟨_, rfl, ?_⟩⟩
  have s02 := s1.trans s2
  refine ite2 (fun h => Bool.noConfusion (show false = true from h)) (fun _ => ?_)
  refine ⟨_, rfl, l, _, rfl, .inl (SqL.of (s02 _ _ el)), _, _, rfl, rfl, _, rfl, ?_⟩
  refine ite2 (fun h => ?_) (fun h => absurd (decide_eq_true (by rw [List.length_map]; omega)) h)
  refine ⟨_, _, rfl, rfl, _, rfl, ?_⟩
  refine ite2 (fun h => ?_) (fun _ => ?_)
  · have h : (!decide (((xs.map V.ref).length : Int) ≤ 4)) = true := h
    rw [decide_eq_true (by rw [List.length_map]; omega)] at h
    cases h
  refine ⟨_, rfl, l, rfl, ⟨_, SqL.of (s02 _ _ el)⟩, for_list (xs := xs.map V.ref) (fun _ σ H' => (∃ v, σ = [some (.ref a), some (.str z), some (.ref l), v]) ∧ H' = H2) ⟨⟨none, rfl⟩, rfl⟩ (fun i σ H' _ ⟨_, eH⟩ => by rw [eH]; exact SqL.of (s02 _ _ el)) ?_ ?_⟩
  · rintro i x σ H' hx ⟨⟨v, rfl⟩, rfl⟩
    obtain ⟨y, hy, rfl⟩ := map_at hx
    obtain ⟨f, _, hf⟩ := fk.get hy
    exact ⟨_, rfl, f, y, rfl, hf.same s02, ⟨_, rfl⟩, rfl⟩
  · rintro σ H' ⟨⟨v, rfl⟩, rfl⟩
    refine ⟨_, rfl, _, rfl, _, rfl, l, _, rfl, .inl ⟨SqL.of (s02 _ _ el), fun u hu => ?_⟩⟩
    have s3 := upd_new (o := .tup (xs.map V.ref)) hu
    have eu : (upd H' u (.tup (xs.map V.ref))) u = some (.tup (xs.map V.ref)) := upd_same
    generalize upd H' u (.tup (xs.map V.ref)) = H3 at s3 eu ⊢
    refine ⟨tsz (by show 2 ≤ 1000000; decide), fun t ht => ?_⟩
    have s4 := upd_new (o := .tup [V.str z, .ref u]) ht
    have et : (upd H3 t (.tup [.str z, .ref u])) t = some (.tup [.str z, .ref u]) := upd_same
    generalize upd H3 t (.tup [.str z, .ref u]) = H4 at s4 et ⊢
    have s04 := (s02.trans s3).trans s4
    refine ⟨_, rfl, l, _, rfl, .inl ⟨SqL.of (s04 _ _ el), fun e he => ?_⟩⟩
    have s5 := upd_new (o := .tup (xs.map V.ref)) he
    have ee : (upd H4 e (.tup (xs.map V.ref))) e = some (.tup (xs.map V.ref)) := upd_same
    generalize upd H4 e (.tup (xs.map V.ref)) = H5 at s5 ee ⊢
    have s05 := s04.trans s5
    have ha5 := s05 _ _ ha
    obtain ⟨ks, k1, k2, k3, k4, k5⟩ := fk.kids
    have ep : (Fo.call z fs).parts = 1 + sumP ks := by rw [Fo.parts, k4]
    have ed : (Fo.call z fs).depth = 1 + maxD ks := by rw [Fo.depth, k5]
    rw [← k1] at ee
    exact ⟨a, C, dx, e, _, _, ks, rfl, ha5, I, ee, (fun q hq => (k2 q hq).same s05), by omega, fun z => nf ⟨by rw [ep]; exact z.1, by rw [ed]; exact z.2⟩, q.same s05⟩

end
end KM
set_option Elab.async false
set_option linter.all false
set_option maxRecDepth 100000
set_option maxHeartbeats 8000000
namespace KM
open PySem PySem.Spec PyProof.Rows L2 He Sw L2H
section
variable {P : Program} {w : World} {K : PySem.W.Frag} {mg : Str → Option Value} {base : Heap}
local macro_rules | `(tactic| row_room_at ne) => `(tactic| with_reducible assumption)
local macro_rules | `(tactic| row_room_at hp) => `(tactic| (apply SameBut.use; with_reducible assumption; rotate_left; row_room_at hp; row_room_at ne))
local macro_rules | `(tactic| row_room_at hp) => `(tactic| (apply FoAt.same; rotate_left; with_reducible assumption; row_room_at hp))
local macro_rules | `(tactic| row_room_at hp) => `(tactic| (apply Sw.Same.use; with_reducible assumption; row_room_at hp))
local macro_rules | `(tactic| row_room_at hp) => `(tactic| (apply SqT.of; row_room_at hp))
local macro_rules | `(tactic| row_room_at hp) => `(tactic| (apply SqL.of; row_room_at hp))
local macro_rules | `(tactic| row_room_at hp) => `(tactic| with_reducible assumption)
local macro_rules | `(tactic| row_room_at ati) => `(tactic| first | with_reducible assumption | rfl | (apply atI_nat; rfl))
local macro_rules | `(tactic| row_room_at cc) => `(tactic| first | with_reducible assumption | omega | decide | (refine ⟨?_, ?_⟩ <;> first | decide | omega) | (refine ⟨?_, ?_, ?_⟩ <;> first | decide | omega) | (left; refine ⟨?_, ?_⟩ <;> first | decide | omega) | (right; refine ⟨?_, ?_⟩ <;> first | decide | omega))
local macro_rules | `(tactic| row_room_at rdts) => `(tactic| with_reducible apply rd_retN)
local macro_rules | `(tactic| row_room_at rdts) => `(tactic| with_reducible apply rd_cont)
local macro_rules | `(tactic| row_room_at rdts) => `(tactic| with_reducible apply rd_brk)
local macro_rules | `(tactic| row_room_at rdts) => `(tactic| with_reducible apply rd_dput)
local macro_rules | `(tactic| row_room_at rdts) => `(tactic| with_reducible apply rd_drop)
local macro_rules | `(tactic| row_room_at rdts) => `(tactic| with_reducible apply rd_for)
local macro_rules | `(tactic| row_room_at rdts) => `(tactic| with_reducible apply rd_ret)
local macro_rules | `(tactic| row_room_at rdts) => `(tactic| with_reducible apply rd_next)
local macro_rules | `(tactic| row_room_at rdts) => `(tactic| with_reducible apply rd_ifS)
local macro_rules | `(tactic| row_room_at rdts) => `(tactic| with_reducible apply rd_asg)
local macro_rules | `(tactic| row_room_at rdts) => `(tactic| with_reducible refine rd_seqN fun _ _ => ?_)
local macro_rules | `(tactic| row_room_at rdit) => `(tactic| with_reducible refine rd_iteNF (by with_unfolding_all decide +kernel) ?_)
local macro_rules | `(tactic| row_room_at rdit) => `(tactic| with_reducible refine rd_iteNT (by with_unfolding_all decide +kernel) ?_)
local macro_rules | `(tactic| row_room_at rdit) => `(tactic| with_reducible apply rd_iteN0)
local macro_rules | `(tactic| row_room_at rdit) => `(tactic| with_reducible apply rd_iteN1)
local macro_rules | `(tactic| row_room_at rdit) => `(tactic| with_reducible apply rd_ite1)
local macro_rules | `(tactic| row_room_at rdit) => `(tactic| with_reducible apply rd_ite0)
local macro_rules | `(tactic| row_room_at rdit) => `(tactic| with_reducible refine rd_iteT (by with_unfolding_all decide +kernel) ?_)
local macro_rules | `(tactic| row_room_at rdit) => `(tactic| with_reducible refine rd_iteF (by with_unfolding_all decide +kernel) ?_)
local macro_rules | `(tactic| row_room_at rdex) => `(tactic| with_reducible apply rd_inS)
local macro_rules | `(tactic| row_room_at rdex) => `(tactic| with_reducible apply rd_min2)
local macro_rules | `(tactic| row_room_at rdex) => `(tactic| with_reducible apply rd_1S)
local macro_rules | `(tactic| row_room_at rdex) => `(tactic| with_reducible apply rd_2S)
local macro_rules | `(tactic| row_room_at rdex) => `(tactic| with_reducible refine rd_fld' (by with_unfolding_all row_room_at hp) (by with_unfolding_all assumption) (by with_unfolding_all assumption) (by with_unfolding_all rfl) ?_)
local macro_rules | `(tactic| row_room_at rdex) => `(tactic| with_reducible refine rd_ty (by with_unfolding_all row_room_at hp) ?_)
local macro_rules | `(tactic| row_room_at rdex) => `(tactic| with_reducible refine rd_itup' (by with_unfolding_all row_room_at hp) ?_)
local macro_rules | `(tactic| row_room_at rdex) => `(tactic| with_reducible refine rd_ilist' (by with_unfolding_all row_room_at hp) ?_)
local macro_rules | `(tactic| row_room_at rdex) => `(tactic| with_reducible apply rd_1B)
local macro_rules | `(tactic| row_room_at rdex) => `(tactic| with_reducible refine rd_dgetS (by with_unfolding_all row_room_at hp) (by with_unfolding_all assumption) ?_)
local macro_rules | `(tactic| row_room_at rdex) => `(tactic| with_reducible refine rd_dget' (by with_unfolding_all row_room_at hp) (by with_unfolding_all rfl) (by with_unfolding_all assumption) ?_)
local macro_rules | `(tactic| row_room_at rdex) => `(tactic| with_reducible refine rd_len (by with_unfolding_all first | exact .inl (by row_room_at hp) | exact .inr (by row_room_at hp)) ?_)
local macro_rules | `(tactic| row_room_at rdex) => `(tactic| with_reducible refine rd_lenQ (by with_unfolding_all first | exact .inl (by row_room_at hp) | exact .inr (by row_room_at hp)) ?_)
local macro_rules | `(tactic| row_room_at rdex) => `(tactic| with_reducible apply rd_2I)
local macro_rules | `(tactic| row_room_at rdex) => `(tactic| with_reducible refine rd_b62 (by with_unfolding_all first | decide | (constructor <;> omega)) ?_)
local macro_rules | `(tactic| row_room_at rdex) => `(tactic| with_reducible refine rd_lenS (by with_unfolding_all omega) ?_)
local macro_rules | `(tactic| row_room_at rdex) => `(tactic| with_reducible apply rd_1I)
local macro_rules | `(tactic| row_room_at rdex) => `(tactic| with_reducible apply rd_int1)
local macro_rules | `(tactic| row_room_at rdex) => `(tactic| with_reducible apply rd_iv)
local macro_rules | `(tactic| row_room_at rdex) => `(tactic| with_reducible refine rd_sz (by with_unfolding_all first | decide | (simp only [List.length_append, List.length_map, List.length_cons, List.length_nil, List.length_take]; omega)) ?_)
local macro_rules | `(tactic| row_room_at rdex) => `(tactic| with_reducible apply rd_bl)
local macro_rules | `(tactic| row_room_at rdhd) => `(tactic| with_reducible apply rd_m1)
local macro_rules | `(tactic| row_room_at rdhd) => `(tactic| with_reducible apply rd_fld)
local macro_rules | `(tactic| row_room_at rdhd) => `(tactic| with_reducible refine rd_append (by with_unfolding_all row_room_at hp) (by with_unfolding_all first | decide | (simp only [List.length_append, List.length_map, List.length_cons, List.length_nil]; omega)) ?_)
local macro_rules | `(tactic| row_room_at rdhd) => `(tactic| with_reducible apply rd_bm)
local macro_rules | `(tactic| row_room_at rdhd) => `(tactic| with_reducible apply rd_yes)
local macro_rules | `(tactic| row_room_at rdhd) => `(tactic| with_reducible apply rd_lc)
local macro_rules | `(tactic| row_room_at rdhd) => `(tactic| with_reducible apply rd_itup)
local macro_rules | `(tactic| row_room_at rdhd) => `(tactic| with_reducible apply rd_ilist)
local macro_rules | `(tactic| row_room_at rdhd) => `(tactic| with_reducible refine rd_dictK (by with_unfolding_all row_room_at hp) ?_)
local macro_rules | `(tactic| row_room_at rdhd) => `(tactic| with_reducible refine rd_lenK (by with_unfolding_all first | exact .inl (by row_room_at hp) | exact .inr (by row_room_at hp)) ?_)
local macro_rules | `(tactic| row_room_at rdhd) => `(tactic| with_reducible apply rd_methI)
local macro_rules | `(tactic| row_room_at rdhd) => `(tactic| with_reducible apply rd_dget)
local macro_rules | `(tactic| row_room_at rdhd) => `(tactic| with_reducible apply rd_if)
local macro_rules | `(tactic| row_room_at rdhd) => `(tactic| with_reducible apply rd_notV)
local macro_rules | `(tactic| row_room_at rdhd) => `(tactic| with_reducible apply rd_orV)
local macro_rules | `(tactic| row_room_at rdhd) => `(tactic| with_reducible apply rd_andV)
local macro_rules | `(tactic| row_room_at rdhd) => `(tactic| with_reducible apply rd_U)
local macro_rules | `(tactic| row_room_at rdhd) => `(tactic| with_reducible apply rd_un)
local macro_rules | `(tactic| row_room_at rdhd) => `(tactic| with_reducible refine rd_cat (by with_unfolding_all row_room_at hp) (by with_unfolding_all row_room_at hp) (by with_unfolding_all first | decide | (simp only [List.length_append, List.length_map, List.length_cons, List.length_nil, List.length_take]; omega)) ?_)
local macro_rules | `(tactic| row_room_at rdhd) => `(tactic| with_reducible refine rd_slL (by with_unfolding_all row_room_at hp) ?_)
local macro_rules | `(tactic| row_room_at rdhd) => `(tactic| with_reducible apply rd_nopart)
local macro_rules | `(tactic| row_room_at rdhd) => `(tactic| with_reducible apply rd_make)
local macro_rules | `(tactic| row_room_at rdhd) => `(tactic| with_reducible apply rd_kt)
local macro_rules | `(tactic| row_room_at rdhd) => `(tactic| with_reducible apply rd_rng1)
local macro_rules | `(tactic| row_room_at rdhd) => `(tactic| with_reducible refine rd_ne (by with_unfolding_all rfl) ?_)
local macro_rules | `(tactic| row_room_at rdhd) => `(tactic| with_reducible apply rd_and)
local macro_rules | `(tactic| row_room_at rdhd) => `(tactic| with_reducible apply rd_B)
local macro_rules | `(tactic| row_room_at rdhd) => `(tactic| with_reducible apply rd_not)
local macro_rules | `(tactic| row_room_at rdhd) => `(tactic| with_reducible refine rd_ixL (by with_unfolding_all row_room_at hp) (by with_unfolding_all row_room_at ati) ?_)
local macro_rules | `(tactic| row_room_at rdhd) => `(tactic| with_reducible apply rd_gNil)
local macro_rules | `(tactic| row_room_at rdhd) => `(tactic| with_reducible refine rd_gTup (by with_unfolding_all (apply SqT.of; row_room_at hp)) (by with_unfolding_all rfl) ?_)
local macro_rules | `(tactic| row_room_at rdhd) => `(tactic| with_reducible apply rd_sl)
local macro_rules | `(tactic| row_room_at rdhd) => `(tactic| with_reducible refine rd_I (by with_unfolding_all row_room_at cc) ?_)
local macro_rules | `(tactic| row_room_at rdhd) => `(tactic| with_reducible apply rd_or)
local macro_rules | `(tactic| row_room_at rdhd) => `(tactic| with_reducible apply rd_lst)
local macro_rules | `(tactic| row_room_at rdhd) => `(tactic| with_reducible apply rd_gCons)
local macro_rules | `(tactic| row_room_at rdhd) => `(tactic| with_reducible apply rd_part)
local macro_rules | `(tactic| row_room_at rdhd) => `(tactic| with_reducible apply rd_tup)
local macro_rules | `(tactic| row_room_at rdhd) => `(tactic| with_reducible apply rd_I0)
local macro_rules | `(tactic| row_room_at rdhd) => `(tactic| with_reducible apply rd_CB)
local macro_rules | `(tactic| row_room_at rdhd) => `(tactic| with_reducible refine rd_ixT (by with_unfolding_all row_room_at hp) (by with_unfolding_all row_room_at ati) ?_)
local macro_rules | `(tactic| row_room_at rdhd) => `(tactic| with_reducible refine rd_eq (by with_unfolding_all rfl) ?_)
local macro_rules | `(tactic| row_room_at rdhd) => `(tactic| with_reducible apply rd_call)
local macro_rules | `(tactic| row_room_at rdhd) => `(tactic| with_reducible apply rd_gName)
local macro_rules | `(tactic| row_room_at rdhd) => `(tactic| with_reducible apply rd_test)
local macro_rules | `(tactic| row_room_at rdhd) => `(tactic| with_reducible apply rd_cons)
local macro_rules | `(tactic| row_room_at rdhd) => `(tactic| with_reducible apply rd_consC)
local macro_rules | `(tactic| row_room_at rdhd) => `(tactic| with_reducible refine rd_consV (by with_unfolding_all rfl) ?_)
local macro_rules | `(tactic| row_room_at rdhd) => `(tactic| with_reducible apply rd_nil)
local macro_rules | `(tactic| row_room_at rdhd) => `(tactic| with_reducible apply rd_c)
local macro_rules | `(tactic| row_room_at rdhd) => `(tactic| with_reducible refine rd_var (by with_unfolding_all rfl) ?_)
local macro_rules | `(tactic| row_room_at rdhd) => `(tactic| with_reducible apply rd_op)
local macro_rules | `(tactic| row_room_at rdsz) => `(tactic| with_reducible refine rd_sz (by with_unfolding_all first | decide | (simp only [List.length_append, List.length_map, List.length_cons, List.length_nil, List.length_take]; omega)) ?_)
local macro_rules | `(tactic| row_room_at rd1) => `(tactic| with_reducible refine rd_unN (by with_reducible assumption) ?_)
local macro_rules | `(tactic| row_room_at rd1) => `(tactic| ((fail_if_success with_reducible apply g_sp); (fail_if_success with_reducible apply g_ite); row_room_at rdex))
local macro_rules | `(tactic| row_room_at rd1) => `(tactic| ((fail_if_success with_reducible apply g_sp); (fail_if_success with_reducible intro _); row_room_at rdhd))
local macro_rules | `(tactic| row_room_at rd1) => `(tactic| row_room_at rdsz)
local macro_rules | `(tactic| row_room_at rd1) => `(tactic| ((with_reducible apply g_ex); row_room_at rdex))
local macro_rules | `(tactic| row_room_at rd1) => `(tactic| ((with_reducible apply g_ite); row_room_at rdit))
local macro_rules | `(tactic| row_room_at rd1) => `(tactic| ((with_reducible apply g_ts); row_room_at rdts))
local macro_rules | `(tactic| row_room_at rd) => `(tactic| repeat row_room_at rd1)
theorem FoAt.cls {H : Hp} {f : Fo} {a : Addr} (h : FoAt K H f a) : ∃ x ∈ clsL, ∃ dx fs, H a = some (.ins (ga K x) dx fs) := by
  obtain ⟨dx, fs, e⟩ := h.ins
  exact ⟨f.cls, f.cls_mem, dx, fs, e⟩
/-! ### made_of, both ways -/
/-- the first fault is raised -/
def RaisesFt (K : PySem.W.Frag) (e : Ft) (H : Hp) (E : XK) : Prop := match e with
  | .bd i => ∀ H' b, Same H H' → FoAt K H' (.nam i) b → RaisesC K "BadBound" H' (.ref b) E
  | .nm i => RaisesC K "BadName" H (.str i) E
  | .mny => RaisesC K "TooMany" H .non E
theorem RaisesFt.same {e : Ft} {H H' : Hp} {E : XK} (h : RaisesFt K e H E) (s : Same H H') : RaisesFt K e H' E := by
  cases e with
  | bd i => exact fun H2 b s2 hb => h H2 b (s.trans s2) hb
  | nm i => exact RaisesC.same h s
  | mny => exact RaisesC.same h s
theorem lf_fault {b : Fo} (l : b.leaf) : b.fault = none := by cases b <;> first | exact l.elim | simp only [Fo.fault]
theorem orF_some {a b : Option Ft} {e : Ft} (h : a = some e) : orF a b = some e := by rw [h]; rfl
theorem orF_n {a b : Option Ft} (h : a = none) : orF a b = b := by rw [h]; rfl
theorem mny_some {f : Fo} (h : ¬ f.Fits) : mnyF f = some .mny := if_neg h
theorem mny_fit {f : Fo} (h : f.Fits) : mnyF f = none := if_pos h
theorem faultL_snoc : ∀ {l : List Fo} {g : Fo}, faultL l = none → faultL (l ++ [g]) = g.fault
  | [], g, _ => by
    show orF g.fault none = g.fault
    cases g.fault <;> rfl
  | f :: l, g, h => by
    simp only [faultL] at h
    obtain ⟨h1, h2⟩ := orF_none h
    show orF f.fault (faultL (l ++ [g])) = g.fault
    rw [orF_n h1, faultL_snoc h2]
theorem faultL_app : ∀ {l m : List Fo} {e : Ft}, faultL l = some e → faultL (l ++ m) = some e
  | [], m, e, h => by simp only [faultL] at h; cases h
  | f :: l, m, e, h => by
    simp only [faultL] at h
    show orF f.fault (faultL (l ++ m)) = some e
    cases hf : f.fault with
    | some x => rw [hf] at h; exact h
    | none => rw [hf] at h; exact faultL_app (l := l) h
theorem faultL_at {fs : List Fo} {i : Nat} {g : Fo} {e : Ft} (hg : fs[i]? = some g) (hp : faultL (fs.take i) = none) (he : g.fault = some e) : faultL fs = some e := by
  have h := faultL_app (m := fs.drop (i + 1)) ((faultL_snoc (g := g) hp).trans he)
  rw [← take_at hg, List.take_append_drop] at h
  exact h
def spMade (K : PySem.W.Frag) (n : Nat) : Sp := fun vs H Q E => ∃ (f : Fo) (a : Addr) (H0 : Hp), vs = [.ref a] ∧ f.depth ≤ n ∧ f.Pre ∧ TrW H0 H f a ∧ (f.fault = none → ∀ H' b, Same H H' → FoAt K H' f b → Q (.ref b) H') ∧ (∀ e, f.fault = some e → RaisesFt K e H E)
theorem scE_made_of : FnScope ["tree", "kind", "_", "index", "below", "body", "one", "other"] ["tree"] (defScope s_made_of) := ⟨rfl, rfl, rfl, by decide +kernel, rfl, by decide +kernel, by decide +kernel⟩
theorem okE_made_of (T : Txt K mg) : ∀ n, Cal P w K mg base (L2N.CX P w) (n+50) (ga K "made_of") ["tree"] (spMade K n)
  | 0 => by
    obtain ⟨fd, F⟩ := T.f_made_of
    refine ⟨fd, ⟨fun vs H Q E h => ?_, fun A outer s H args us vs Q E _ _ _ _ h => ?_⟩, F.kp, F.bindsN fun _ _ _ _ _ _ us hl => match us, hl with | [_], _ => rfl⟩
    · obtain ⟨_, _, _, rfl, _⟩ := h
      rfl
    · obtain ⟨_, _, _, _, h, _⟩ := h; exact absurd h (Nat.not_le_of_lt (Fo.depth_pos _))
  | n + 1 => by
    have GX := okE_made_of T  n
    obtain ⟨fd, F⟩ := T.f_made_of
    refine ⟨fd, ?_, F.kp, F.bindsN fun _ _ _ _ _ _ us hl => match us, hl with | [_], _ => rfl⟩
    refine F.ok scE_made_of (fun vs H Q E h => ?_) (fun cdv A outer s H vs Q E hr h => ?_)
    · obtain ⟨_, _, _, rfl, _⟩ := h
      rfl
    have nod := scE_made_of.nd
    have hu := hu_of hr
    refine ⟨_, (pss_cons (ps_set (i := 1) nod rfl (Or.inl rfl) (pe_ix ix_tup (pv 0) pe_int (fun _ _ => rfl)))
    (pss_cons (ps_if (pt_cmpR op_eq (pv 1) pe_str (nomark _))
      (pss_one (ps_ret (pe_makeC (T.ins "Number" (by decide +kernel)).mkr (ok_Number___init__ T) (hr.mono (by omega)) rfl (T.g "Number") pass0 (pa_cons (pe_ix ix_tup (pv 0) pe_int (fun _ _ => rfl)) pa_nil))))
      pss_nil)
    (pss_cons (ps_if (pt_cmpR op_eq (pv 1) pe_str (nomark _))
      (pss_one (ps_ret (pe_makeC (T.ins "Name" (by decide +kernel)).mkr (ok_Name___init__ T) (hr.mono (by omega)) rfl (T.g "Name") pass0 (pa_cons (pe_ix ix_tup (pv 0) pe_int (fun _ _ => rfl)) pa_nil))))
      pss_nil)
    (pss_cons (ps_if (pt_cmpR op_eq (pv 1) pe_str (nomark _))
      (pss_cons (ps_asg (pv 0) (pg_tup rfl (pgs_cons (pg_name (i := 2) nod rfl (Or.inl rfl)) (pgs_cons (pg_name (i := 3) nod rfl (Or.inl rfl)) (pgs_cons (pg_name (i := 4) nod rfl (Or.inl rfl)) (pgs_cons (pg_name (i := 5) nod rfl (Or.inl rfl)) pgs_nil))))))
      (pss_one (ps_ret (pe_alt (pe_makeC (E := E) (T.ins "Sum" (by decide +kernel)).mkr (okE_Sum___init__ T) (hr.mono (by omega)) rfl (T.g "Sum") (L2N.passes_call (E := E) (L2N.takes_of rfl rfl rfl rfl) (fun _ _ _ _ h => h)) (pa_cons (pv 3) (pa_cons (pe_callC (E := E) GX (hr.mono (by omega)) rfl (T.g "made_of") (L2N.passes_call (E := E) (L2N.takes_of rfl rfl rfl rfl) (fun _ _ _ _ h => h)) (pa_cons (pv 4) pa_nil)) (pa_cons (pe_callC (E := E) GX (hr.mono (by omega)) rfl (T.g "made_of") (L2N.passes_call (E := E) (L2N.takes_of rfl rfl rfl rfl) (fun _ _ _ _ h => h)) (pa_cons (pv 5) pa_nil)) pa_nil)))) (pe_makeC (T.ins "Sum" (by decide +kernel)).mkr (ok_Sum___init__ T) (hr.mono (by omega)) rfl (T.g "Sum") pass0 (pa_cons (pv 3) (pa_cons (pe_callC (E := E) GX (hr.mono (by omega)) rfl (T.g "made_of") (L2N.passes_call (E := E) (L2N.takes_of rfl rfl rfl rfl) (fun _ _ _ _ h => h)) (pa_cons (pv 4) pa_nil)) (pa_cons (pe_callC (E := E) GX (hr.mono (by omega)) rfl (T.g "made_of") (L2N.passes_call (E := E) (L2N.takes_of rfl rfl rfl rfl) (fun _ _ _ _ h => h)) (pa_cons (pv 5) pa_nil)) pa_nil))))))))
      pss_nil)
    (pss_cons (ps_if (pt_cmpR op_eq (pv 1) pe_str (nomark _))
      (pss_one (ps_ret (pe_alt (pe_makeC (E := E) (T.ins "Call" (by decide +kernel)).mkr (okE_Call___init__ T) (hr.mono (by omega)) rfl (T.g "Call") (L2N.passes_call (E := E) (L2N.takes_of rfl rfl rfl rfl) (fun _ _ _ _ h => h)) (pa_cons (pe_ix ix_tup (pv 0) pe_int (fun _ _ => rfl)) (pa_cons (pe_lcE (own := [("one", 6)]) (W := E) (te := (tCall (spMade K n) [] E (tCons (tVar 6) tNil))) (g := (gName 6)) (tt := tYes) rfl rfl (L2N.takes_of rfl rfl rfl rfl) rfl nod (pi_list (pe_ix ix_tup (pv 0) pe_int (fun _ _ => rfl))) (blkOk_by (N := ["tree", "kind", "_", "index", "below", "body", "one", "other"]) (sc := defScope s_made_of) (by decide +kernel)) (fun _ _ _ _ _ => (pg_name (i := 6) nod rfl (Or.inl rfl))) (fun _ _ _ _ _ => pts_nil) (fun _ _ _ _ _ => (pe_callC (E := E) GX (hr.mono (by omega)) rfl (T.g "made_of") (passes_blk (fun _ _ _ h => h)) (pa_cons (pv 6) pa_nil)))) pa_nil))) (pe_makeC (T.ins "Call" (by decide +kernel)).mkr (ok_Call___init__ T) (hr.mono (by omega)) rfl (T.g "Call") pass0 (pa_cons (pe_ix ix_tup (pv 0) pe_int (fun _ _ => rfl)) (pa_cons (pe_lcE (own := [("one", 6)]) (W := E) (te := (tCall (spMade K n) [] E (tCons (tVar 6) tNil))) (g := (gName 6)) (tt := tYes) rfl rfl (L2N.takes_of rfl rfl rfl rfl) rfl nod (pi_list (pe_ix ix_tup (pv 0) pe_int (fun _ _ => rfl))) (blkOk_by (N := ["tree", "kind", "_", "index", "below", "body", "one", "other"]) (sc := defScope s_made_of) (by decide +kernel)) (fun _ _ _ _ _ => (pg_name (i := 6) nod rfl (Or.inl rfl))) (fun _ _ _ _ _ => pts_nil) (fun _ _ _ _ _ => (pe_callC (E := E) GX (hr.mono (by omega)) rfl (T.g "made_of") (passes_blk (fun _ _ _ h => h)) (pa_cons (pv 6) pa_nil)))) pa_nil))))))
      pss_nil)
    (pss_cons (ps_set (i := 6) nod rfl (Or.inl rfl) (pe_callC (E := E) GX (hr.mono (by omega)) rfl (T.g "made_of") (L2N.passes_call (E := E) (L2N.takes_of rfl rfl rfl rfl) (fun _ _ _ _ h => h)) (pa_cons (pe_ix ix_tup (pv 0) pe_int (fun _ _ => rfl)) pa_nil)))
    (pss_cons (ps_if (pt_cmpR op_eq (pv 1) pe_str (nomark _))
      (pss_one (ps_ret (pe_alt (pe_un (un_ownC (E := E) (okE_Formula___neg__ T) (hr.mono (by omega)) (L2N.passes_call (E := E) (L2N.takes_of rfl rfl rfl rfl) (fun _ _ _ _ h => h))) (pv 6)) (pe_un (un_ownC (ok_Formula___neg__ T) (hr.mono (by omega)) pass0) (pv 6)))))
      pss_nil)
    (pss_cons (ps_if (pt_cmpR op_eq (pv 1) pe_str (nomark _))
      (pss_one (ps_ret (pe_op ((op_ownIC (ok_Formula___lshift__ T) (hr.mono (by omega)) pass0).or (op_ownIC (E := E) (okE_Formula___lshift__ T) (hr.mono (by omega)) (L2N.passes_call (E := E) (L2N.takes_of rfl rfl rfl rfl) (fun _ _ _ _ h => h)))) (pv 6) (pe_ix ix_tup (pv 0) pe_int (fun _ _ => rfl)))))
      pss_nil)
    (pss_cons (ps_set (i := 7) nod rfl (Or.inl rfl) (pe_callC (E := E) GX (hr.mono (by omega)) rfl (T.g "made_of") (L2N.passes_call (E := E) (L2N.takes_of rfl rfl rfl rfl) (fun _ _ _ _ h => h)) (pa_cons (pe_ix ix_tup (pv 0) pe_int (fun _ _ => rfl)) pa_nil)))
    (pss_cons (ps_if (pt_cmpR op_eq (pv 1) pe_str (nomark _))
      (pss_one (ps_ret (pe_op ((op_ownC (ok_Formula___add__ T) (hr.mono (by omega)) pass0 rfl).or (op_ownC (E := E) (okE_Formula___add__ T) (hr.mono (by omega)) (L2N.passes_call (E := E) (L2N.takes_of rfl rfl rfl rfl) (fun _ _ _ _ h => h)) rfl)) (pv 6) (pv 7))))
      pss_nil)
    (pss_cons (ps_if (pt_cmpR op_eq (pv 1) pe_str (nomark _))
      (pss_one (ps_ret (pe_op ((op_ownC (ok_Formula___sub__ T) (hr.mono (by omega)) pass0 rfl).or (op_ownC (E := E) (okE_Formula___sub__ T) (hr.mono (by omega)) (L2N.passes_call (E := E) (L2N.takes_of rfl rfl rfl rfl) (fun _ _ _ _ h => h)) rfl)) (pv 6) (pv 7))))
      pss_nil)
    (pss_one (ps_ret (pe_op ((op_ownC (ok_Formula___mul__ T) (hr.mono (by omega)) pass0 rfl).or (op_ownC (E := E) (okE_Formula___mul__ T) (hr.mono (by omega)) (L2N.passes_call (E := E) (L2N.takes_of rfl rfl rfl rfl) (fun _ _ _ _ h => h)) rfl)) (pv 6) (pv 7))))))))))))))), ?_⟩
    obtain ⟨f, a, H0, rfl, hn, ok, ht, q, r⟩ := h
    have kidn : ∀ g ∈ f.kids, g.depth ≤ n ∧ g.Pre := fun g hg => ⟨by have := Fo.kid_depth hg; omega, Fo.pre_kids ok g hg⟩
    cases f with
    | num i =>
      have q := q (by simp only [Fo.fault])
      simp only [Fo.Pre] at ok
      simp only [TrW] at ht
      row_room_at rd
      refine fun x dx hx hdx ne => ⟨x, _, dx, i, rfl, ok.1, ok.2, upd_same, T.ins _ (by decide +kernel), fun H' t sb e' et => ⟨rfl, ?_⟩⟩
      obtain ⟨a1, nd⟩ := made (K := K) (f := .num i) (Same.refl H) hx hdx sb e' et (by simp only [Fo.parts]) (by simp only [Fo.depth])
      exact q H' _ a1 (by simp only [FoAt]; exact nd)
    | nam z =>
      have q := q (by simp only [Fo.fault])
      simp only [Fo.Pre] at ok
      simp only [TrW] at ht
      row_room_at rd
      refine fun x dx hx hdx ne => ⟨x, _, dx, z, rfl, ok, upd_same, T.ins _ (by decide +kernel), fun H' t sb e' et => ⟨rfl, ?_⟩⟩
      obtain ⟨a1, nd⟩ := made (K := K) (f := .nam z) (Same.refl H) hx hdx sb e' et (by simp only [Fo.parts]) (by simp only [Fo.depth])
      exact q H' _ a1 (by simp only [FoAt]; exact nd)
    | sum i b g =>
      simp only [Fo.Pre] at ok
      simp only [TrW] at ht
      obtain ⟨y, x, e, hb, hx'⟩ := ht
      obtain ⟨oi, bl, bo, og⟩ := ok
      obtain ⟨bp, bd, _⟩ := lf_sz bl
      have hg := kidn g (by simp [Fo.kids])
      have gp := Fo.depth_pos g
      have fb := lf_fault bl
      simp only [Fo.fault] at q r
      row_room_at rd
      cases hgf : g.fault with
      | some e0 =>
        rw [hgf] at r
        refine .inr ?_
        row_room_at rd
        refine ⟨b, y, H0, rfl, by omega, bo.pre, hb, fun _ H1 yb s1 hyb => ?_, fun e' he => by rw [fb] at he; cases he⟩
        row_room_at rd
        exact ⟨g, x, H0, rfl, hg.1, hg.2, TrW.same s1 hx', (fun h => by rw [hgf] at h; cases h), fun e' he => by rw [hgf] at he; exact (r e' he).same s1⟩
      | none =>
        rw [hgf] at q r
        obtain ⟨gok, gfit⟩ := Fo.ok_of og hgf
        by_cases bad : b = .nam i ∨ i ∈ g.ixs ∨ ¬ (Fo.sum i b g).Fits
        · refine .inl ?_
          row_room_at rd
          refine ⟨b, y, H0, rfl, by omega, bo.pre, hb, fun _ H1 yb s1 hyb => ?_, fun e' he => by rw [fb] at he; cases he⟩
          row_room_at rd
          refine ⟨g, x, H0, rfl, hg.1, hg.2, TrW.same s1 hx', (fun _ H2 xg s2 hxg => ?_), fun e' he => by rw [hgf] at he; cases he⟩
          row_room_at rd
          intro X dx hx hdx ne
          have s3 : Same H2 (upd (upd H2 dx (.own X)) X (.ins (ga K "Sum") dx [])) := fun b o q => by rw [upd_ne (ne_of_none q hx), upd_ne (ne_of_none q hdx)]; exact q
          have s03 := (s1.trans s2).trans s3
          have hyb3 := (hyb.same s2).same s3
          refine ⟨X, _, dx, yb, xg, i, b, g, rfl, oi, upd_same, T.ins _ (by decide +kernel), bl, hyb3, hxg.same s3, gfit, ?_⟩
          by_cases c1 : b = .nam i
          · have rr : RaisesFt K (.bd i) H E := r (.bd i) (by rw [orF_n rfl, if_pos (Fo.isN_iff.mpr c1)])
            exact .inl ⟨c1, rr _ _ s03 (c1 ▸ hyb3)⟩
          · have n1 : ¬ b.isN i = true := fun z => c1 (Fo.isN_iff.mp z)
            refine .inr ⟨c1, ?_⟩
            by_cases c2 : i ∈ g.ixs
            · have rr : RaisesFt K (.nm i) H E := r (.nm i) (by rw [orF_n rfl, if_neg n1, if_pos c2])
              exact .inl ⟨c2, RaisesC.same rr s03⟩
            · have nf : ¬ (Fo.sum i b g).Fits := by rcases bad with h | h | h; exact absurd h c1; exact absurd h c2; exact h
              have rr : RaisesFt K .mny H E := r .mny (by rw [orF_n rfl, if_neg n1, if_neg c2, mny_some nf])
              exact .inr ⟨c2, nf, RaisesC.same rr s03⟩
        · have c1 : b ≠ .nam i := fun h => bad (.inl h)
          have c2 : i ∉ g.ixs := fun h => bad (.inr (.inl h))
          have fit : (Fo.sum i b g).Fits := Classical.byContradiction fun h => bad (.inr (.inr h))
          have q := q (by rw [orF_n rfl, if_neg (fun z => c1 (Fo.isN_iff.mp z)), if_neg c2, mny_fit fit])
          refine .inr ?_
          row_room_at rd
          refine ⟨b, y, H0, rfl, by omega, bo.pre, hb, fun _ H1 yb s1 hyb => ?_, fun e' he => by rw [fb] at he; cases he⟩
          row_room_at rd
          refine ⟨g, x, H0, rfl, hg.1, hg.2, TrW.same s1 hx', (fun _ H2 xg s2 hxg => ?_), fun e' he => by rw [hgf] at he; cases he⟩
          row_room_at rd
          intro X dx hx hdx ne
          have s3 : Same H2 (upd (upd H2 dx (.own X)) X (.ins (ga K "Sum") dx [])) := fun b o q => by rw [upd_ne (ne_of_none q hx), upd_ne (ne_of_none q hdx)]; exact q
          refine ⟨X, _, dx, yb, xg, i, b, g, rfl, oi, upd_same, T.ins _ (by decide +kernel), bl, c1, (hyb.same s2).same s3, hxg.same s3, c2, gfit, fit, fun H' t sb e' et => ⟨rfl, ?_⟩⟩
          obtain ⟨a1, nd⟩ := made (K := K) (f := .sum i b g) (Same.refl H2) hx hdx sb e' et rfl rfl
          exact q H' _ ((s1.trans s2).trans a1) (by simp only [FoAt]; exact ⟨yb, xg, nd, (hyb.same s2).same a1, hxg.same a1⟩)
    | call z fs =>
      simp only [Fo.Pre] at ok
      simp only [TrW] at ht
      obtain ⟨u, xs, e, eu, _, tk⟩ := ht
      obtain ⟨oz, l1, l4, of⟩ := ok
      have lfs := tk.len
      simp only [Fo.fault] at q r
      have loop : ∀ (D : Addr) (Q' : Hp → Prop) (e0 : H D = none), (∀ H' ys, Same H H' → H' D = some (.lst (ys.map V.ref)) → FoAts K H' fs ys → faultL fs = none → Q' H') →
          ((∃ ys : List Addr, Same H (upd H D (.lst [])) ∧ (upd H D (.lst [])) D = some (.lst (ys.map V.ref)) ∧ FoAts K (upd H D (.lst [])) (fs.take 0) ys ∧ faultL (fs.take 0) = none) ∧
          ∀ H' ys, Same H H' → H' D = some (.lst (ys.map V.ref)) → FoAts K H' (fs.take (xs.map V.ref).length) ys → faultL (fs.take (xs.map V.ref).length) = none → Q' H') := fun D Q' e0 k => by
        refine ⟨⟨[], fun b o h => by rw [upd_ne (ne_of_none h e0)]; exact h, by rw [upd_same]; rfl, by simp only [List.take_zero, FoAts], by simp only [List.take_zero, faultL]⟩, fun H' ys s' eD hq hf => ?_⟩
        rw [List.length_map, lfs, List.take_length] at hq hf
        exact k H' ys s' eD hq hf
      row_room_at rd
      by_cases bad : faultL fs = none ∧ ¬ (Fo.call z fs).Fits
      · refine .inl ?_
        row_room_at rd
        refine fun D hD => ?_
        have up : ∀ {H' : Hp} {o : HO}, Same H H' → Same H (upd H' D o) := fun {H' o} s' b o' e => by rw [upd_ne (ne_of_none e hD)]; exact s' _ _ e
        refine loop_it (walk_list (K := K) (a := u) (xs := xs.map V.ref)) (fun i H' => ∃ ys : List Addr, Same H H' ∧ H' D = some (.lst (ys.map V.ref)) ∧ FoAts K H' (fs.take i) ys ∧ faultL (fs.take i) = none)
          (loop D (fun _ => True) hD (fun _ _ _ _ _ _ => trivial)).1 (fun i H' _ ⟨_, s', _⟩ => SqL.of (s' _ _ eu)) (fun i x H2 H3 hj ⟨ys, s', eD, hq, hf⟩ ⟨hH, hx⟩ => ?_) (fun H' ⟨ys, s', eD, hq, hf⟩ => ?_)
        · subst hH
          obtain ⟨y, hy, rfl⟩ := map_at hx
          obtain ⟨g, hgi, hgt⟩ := tk.get hy
          have hg := kidn g (List.mem_of_getElem? hgi)
          have lys := hq.len
          row_room_at rd
          refine ⟨rfl, ?_⟩
          row_room_at rd
          refine ⟨g, y, H0, rfl, hg.1, hg.2, TrW.same s' hgt, fun gf H4 b s2 hb => ⟨_, s2 _ _ eD, ?_, ys ++ [b], up (s'.trans s2), by rw [upd_same]; simp, ?_, ?_⟩, fun e' he => absurd ((faultL_at hgi hf he).symm.trans bad.1) (fun z => nomatch z)⟩
          · rw [List.length_map, lys, sizeLine_eq]
            have := List.length_take (i := i) (l := fs)
            omega
          · have sT : SameT H4 (upd H4 D (.lst (ys.map V.ref ++ [.ref b]))) := SameT.but sameBut_upd (s2 _ _ eD)
            rw [take_at hgi]
            exact FoAts.snoc (hb.sameT sT) ((hq.same s2).sameT sT)
          · rw [take_at hgi, faultL_snoc hf]; exact gf
        · rw [List.length_map, lfs, List.take_length] at hq
          row_room_at rd
          intro X dx hx hdx ne
          have s3 : Same H' (upd (upd H' dx (.own X)) X (.ins (ga K "Call") dx [])) := fun b o q => by rw [upd_ne (ne_of_none q hx), upd_ne (ne_of_none q hdx)]; exact q
          have rr : RaisesFt K .mny H E := r .mny (by rw [orF_n bad.1, mny_some bad.2])
          exact ⟨X, _, dx, D, z, fs, ys, rfl, oz, upd_same, T.ins _ (by decide +kernel), s3 _ _ eD, l1, l4, hq.same s3, bad.2, RaisesC.same rr (s'.trans s3)⟩
      · refine .inr ?_
        row_room_at rd
        refine fun D hD => ?_
        have up : ∀ {H' : Hp} {o : HO}, Same H H' → Same H (upd H' D o) := fun {H' o} s' b o' e => by rw [upd_ne (ne_of_none e hD)]; exact s' _ _ e
        refine loop_it (walk_list (K := K) (a := u) (xs := xs.map V.ref)) (fun i H' => ∃ ys : List Addr, Same H H' ∧ H' D = some (.lst (ys.map V.ref)) ∧ FoAts K H' (fs.take i) ys ∧ faultL (fs.take i) = none)
          (loop D (fun _ => True) hD (fun _ _ _ _ _ _ => trivial)).1 (fun i H' _ ⟨_, s', _⟩ => SqL.of (s' _ _ eu)) (fun i x H2 H3 hj ⟨ys, s', eD, hq, hf⟩ ⟨hH, hx⟩ => ?_) (fun H' ⟨ys, s', eD, hq, hf⟩ => ?_)
        · subst hH
          obtain ⟨y, hy, rfl⟩ := map_at hx
          obtain ⟨g, hgi, hgt⟩ := tk.get hy
          have hg := kidn g (List.mem_of_getElem? hgi)
          have lys := hq.len
          row_room_at rd
          refine ⟨rfl, ?_⟩
          row_room_at rd
          refine ⟨g, y, H0, rfl, hg.1, hg.2, TrW.same s' hgt, fun gf H4 b s2 hb => ⟨_, s2 _ _ eD, ?_, ys ++ [b], up (s'.trans s2), by rw [upd_same]; simp, ?_, ?_⟩, fun e' he => (r e' (orF_some (faultL_at hgi hf he))).same s'⟩
          · rw [List.length_map, lys, sizeLine_eq]
            have := List.length_take (i := i) (l := fs)
            omega
          · have sT : SameT H4 (upd H4 D (.lst (ys.map V.ref ++ [.ref b]))) := SameT.but sameBut_upd (s2 _ _ eD)
            rw [take_at hgi]
            exact FoAts.snoc (hb.sameT sT) ((hq.same s2).sameT sT)
          · rw [take_at hgi, faultL_snoc hf]; exact gf
        · rw [List.length_map, lfs, List.take_length] at hq hf
          have fit : (Fo.call z fs).Fits := Classical.byContradiction fun h => bad ⟨hf, h⟩
          have q := q (by rw [orF_n hf, mny_fit fit])
          row_room_at rd
          intro X dx hx hdx ne
          have s3 : Same H' (upd (upd H' dx (.own X)) X (.ins (ga K "Call") dx [])) := fun b o q => by rw [upd_ne (ne_of_none q hx), upd_ne (ne_of_none q hdx)]; exact q
          refine ⟨X, _, dx, D, z, fs, ys, rfl, oz, upd_same, T.ins _ (by decide +kernel), s3 _ _ eD, l1, l4, hq.same s3, fit, fun H2 t u2 sb e' et eu2 => ⟨rfl, ?_⟩⟩
          obtain ⟨a1, nd⟩ := made (K := K) (f := .call z fs) (Same.refl H') hx hdx sb e' et rfl rfl
          exact q H2 _ (s'.trans a1) (by simp only [FoAt]; exact ⟨u2, ys, nd, eu2, hq.same a1⟩)
    | neg g =>
      simp only [TrW] at ht
      obtain ⟨x, e, hgt⟩ := ht
      have hg := kidn g (by simp [Fo.kids])
      simp only [Fo.fault] at q r
      row_room_at rd
      refine ⟨g, x, H0, rfl, hg.1, hg.2, hgt, fun hgf H1 b s1 hb => ?_, fun e' he => r e' (orF_some he)⟩
      rw [orF_n hgf] at q r
      obtain ⟨x0, hx0, dx0, fs0, ea0⟩ := hb.cls
      row_room_at rd
      by_cases fit : (Fo.neg g).Fits
      · refine .inr ?_
        row_room_at rd
        exact ⟨b, _, dx0, fs0, rfl, ea0, T.neg x0 hx0, g, b, rfl, hb, fit, fun H2 y s2 hy => q (mny_fit fit) H2 y (s1.trans s2) hy⟩
      · refine .inl ?_
        row_room_at rd
        exact ⟨b, _, dx0, fs0, rfl, ea0, T.neg x0 hx0, g, b, rfl, hb, fit, RaisesC.same (r .mny (mny_some fit)) s1⟩
    | shl g m =>
      simp only [Fo.Pre] at ok
      simp only [TrW] at ht
      obtain ⟨x, e, hgt⟩ := ht
      have hg := kidn g (by simp [Fo.kids])
      simp only [Fo.fault] at q r
      row_room_at rd
      refine ⟨g, x, H0, rfl, hg.1, hg.2, hgt, fun hgf H1 b s1 hb => ?_, fun e' he => r e' (orF_some he)⟩
      rw [orF_n hgf] at q r
      obtain ⟨x0, hx0, dx0, fs0, ea0⟩ := hb.cls
      row_room_at rd
      by_cases fit : (Fo.shl g m).Fits
      · exact .inl ⟨b, _, dx0, fs0, m, rfl, rfl, ea0, T.shl x0 hx0, g, b, m, rfl, ok.1, ok.2.1, hb, fit, fun H2 y s2 hy => ⟨⟨y, rfl⟩, q (mny_fit fit) H2 y (s1.trans s2) hy⟩⟩
      · exact .inr ⟨b, _, dx0, fs0, m, rfl, rfl, ea0, T.shl x0 hx0, g, b, m, rfl, ok.1, ok.2.1, hb, fit, RaisesC.same (r .mny (mny_some fit)) s1⟩
    | bin o g1 g2 =>
      have h1 := kidn g1 (by simp [Fo.kids])
      have h2 := kidn g2 (by simp [Fo.kids])
      simp only [TrW] at ht
      obtain ⟨x1, x2, e, ht1, ht2⟩ := ht
      simp only [Fo.fault] at q r
      have fitD : (Fo.bin o g1 g2).Fits ∨ ¬ (Fo.bin o g1 g2).Fits := Classical.em _
      cases o <;> (
        simp only [B3.str] at e
        row_room_at rd
        refine ⟨g1, x1, H0, rfl, h1.1, h1.2, ht1, fun f1 H1 b1 s1 hb1 => ?_, fun e' he => r e' (orF_some he)⟩
        rw [orF_n f1] at q r
        row_room_at rd
        refine ⟨g2, x2, H0, rfl, h2.1, h2.2, TrW.same s1 ht2, fun f2 H2 b2 s2 hb2 => ?_, fun e' he => (r e' (orF_some he)).same s1⟩
        rw [orF_n f2] at q r
        have hb1 := hb1.same s2
        have s02 := s1.trans s2
        obtain ⟨x0, hx0, dx0, fs0, ea0⟩ := hb1.cls
        obtain ⟨y0, hy0, dy0, gs0, eb0⟩ := hb2.cls
        row_room_at rd
        rcases fitD with fit | fit
        · exact .inl ⟨b1, b2, _, _, dx0, dy0, fs0, gs0, rfl, rfl, ea0, eb0, T.bin x0 hx0 y0 hy0 _ (by decide), g1, g2, b1, b2, rfl, hb1, hb2, fit, fun H3 y s3 hy => ⟨⟨y, rfl⟩, q (mny_fit fit) H3 y (s02.trans s3) hy⟩⟩
        · exact .inr ⟨b1, b2, _, _, dx0, dy0, fs0, gs0, rfl, rfl, ea0, eb0, T.bin x0 hx0 y0 hy0 _ (by decide), g1, g2, b1, b2, rfl, hb1, hb2, fit, RaisesC.same (r .mny (mny_some fit)) s02⟩)

end
end KM
set_option Elab.async false
set_option linter.all false
set_option maxRecDepth 100000
set_option maxHeartbeats 4000000
namespace Sw
open PySem PySem.Spec PyProof.Rows L2
/-- [f(c) for c in z if p(c)], neither changes anything -/
theorem lc_filtS {i : Nat} {z : Str} {f : Nat → V} {p : Nat → Bool} {tt : TT} {te : TE} {σ : L2.St} {H1 : Hp} {D : Addr} {Qd : Hp → Prop} (hz : z.length ≤ 1000)
    (hp : ∀ (c : Nat) (H : Hp) (Q : Bool → Hp → Prop), Q (p c) H → tt ((wipe σ [i]).set i (some (.str ⟨#[c]⟩))) H Q)
    (ht : ∀ (c : Nat) (H : Hp) (Q : VK), Q (f c) H → te ((wipe σ [i]).set i (some (.str ⟨#[c]⟩))) H Q) (hd : Qd (upd H1 D (.lst ((z.cps.toList.filter p).map f)))) :
    ∃ W : Nat → Nat → Hp → Prop, (∃ m, W 0 m (upd H1 D (.lst []))) ∧ ∀ j m H, W j m H →
      ((Its z).stop j H ∧ Qd H) ∨ ((Its z).go j H ∧ ∃ Nx : Hp → Prop, (∀ H', Nx H' → ∃ m', m' < m ∧ W (j + 1) m' H') ∧ ∀ x H', (Its z).yld j H x H' → gName i x (wipe σ [i]) H' fun σ2 H2 => wipe σ2 [i] = wipe σ [i] ∧ tt σ2 H2 fun b H3 =>
        if b = true then te σ2 H3 fun y H4 => ∃ acc, H4 D = some (.lst acc) ∧ acc.length < sizeLine ∧ Nx (upd H4 D (.lst (acc ++ [y]))) else Nx H3) := by
  have hsz : z.cps.size ≤ 1000 := hz
  have updd : ∀ (o o' : HO), upd (upd H1 D o) D o' = upd H1 D o' := fun o o' => by
    funext b
    by_cases hb : b = D
    · rw [hb, upd_same, upd_same]
    · rw [upd_ne hb, upd_ne hb, upd_ne hb]
  refine lc_it walk_str (fun j H => H = upd H1 D (.lst (((z.cps.toList.take j).filter p).map f))) (by simp) (fun _ _ _ _ => trivial) ?_ ?_
  · rintro j x H H' hj rfl ⟨rfl, c, hc, rfl⟩
    have hc2 : z.cps.toList[j]? = some c := by rw [Array.getElem?_toList]; exact hc
    refine ⟨by simp [wipe], hp c _ _ (ite2 (fun h => ht c _ _ ⟨_, upd_same, ?_, ?_⟩) fun h => ?_)⟩
    · rw [List.length_map, sizeLine_eq]
      have h1 : ((z.cps.toList.take j).filter p).length ≤ (z.cps.toList.take j).length := List.length_filter_le _ _
      rw [List.length_take] at h1
      omega
    · show upd (upd H1 D _) D _ = _
      rw [updd, List.take_add_one, hc2]
      simp [h]
    · show upd H1 D _ = _
      rw [List.take_add_one, hc2]
      simp [h]
  · rintro H rfl
    have e : z.cps.toList.take z.cps.size = z.cps.toList := List.take_of_length_le (by simp)
    rw [e]
    exact hd
end Sw
set_option Elab.async false
set_option linter.all false
set_option maxRecDepth 100000
set_option maxHeartbeats 8000000
namespace KM
open PySem PySem.Spec PyProof.Rows L2 He Sw L2H
section
variable {P : Program} {w : World} {K : PySem.W.Frag} {mg : Str → Option Value} {base : Heap}
local macro_rules | `(tactic| row_room_at ne) => `(tactic| with_reducible assumption)
local macro_rules | `(tactic| row_room_at hp) => `(tactic| (apply SameBut.use; with_reducible assumption; rotate_left; row_room_at hp; row_room_at ne))
local macro_rules | `(tactic| row_room_at hp) => `(tactic| (apply FoAt.same; rotate_left; with_reducible assumption; row_room_at hp))
local macro_rules | `(tactic| row_room_at hp) => `(tactic| (apply Sw.Same.use; with_reducible assumption; row_room_at hp))
local macro_rules | `(tactic| row_room_at hp) => `(tactic| (apply SqT.of; row_room_at hp))
local macro_rules | `(tactic| row_room_at hp) => `(tactic| (apply SqL.of; row_room_at hp))
local macro_rules | `(tactic| row_room_at hp) => `(tactic| with_reducible assumption)
local macro_rules | `(tactic| row_room_at ati) => `(tactic| first | with_reducible assumption | rfl | (apply atI_nat; rfl))
local macro_rules | `(tactic| row_room_at cc) => `(tactic| first | with_reducible assumption | omega | decide | (refine ⟨?_, ?_⟩ <;> first | decide | omega) | (refine ⟨?_, ?_, ?_⟩ <;> first | decide | omega) | (left; refine ⟨?_, ?_⟩ <;> first | decide | omega) | (right; refine ⟨?_, ?_⟩ <;> first | decide | omega))
local macro_rules | `(tactic| row_room_at rdts) => `(tactic| with_reducible apply rd_retN)
local macro_rules | `(tactic| row_room_at rdts) => `(tactic| with_reducible apply rd_cont)
local macro_rules | `(tactic| row_room_at rdts) => `(tactic| with_reducible apply rd_brk)
local macro_rules | `(tactic| row_room_at rdts) => `(tactic| with_reducible apply rd_dput)
local macro_rules | `(tactic| row_room_at rdts) => `(tactic| with_reducible apply rd_drop)
local macro_rules | `(tactic| row_room_at rdts) => `(tactic| with_reducible apply rd_for)
local macro_rules | `(tactic| row_room_at rdts) => `(tactic| with_reducible apply rd_ret)
local macro_rules | `(tactic| row_room_at rdts) => `(tactic| with_reducible apply rd_next)
local macro_rules | `(tactic| row_room_at rdts) => `(tactic| with_reducible apply rd_ifS)
local macro_rules | `(tactic| row_room_at rdts) => `(tactic| with_reducible apply rd_asg)
local macro_rules | `(tactic| row_room_at rdts) => `(tactic| with_reducible refine rd_seqN fun _ _ => ?_)
local macro_rules | `(tactic| row_room_at rdit) => `(tactic| with_reducible refine rd_iteNF (by with_unfolding_all decide +kernel) ?_)
local macro_rules | `(tactic| row_room_at rdit) => `(tactic| with_reducible refine rd_iteNT (by with_unfolding_all decide +kernel) ?_)
local macro_rules | `(tactic| row_room_at rdit) => `(tactic| with_reducible apply rd_iteN0)
local macro_rules | `(tactic| row_room_at rdit) => `(tactic| with_reducible apply rd_iteN1)
local macro_rules | `(tactic| row_room_at rdit) => `(tactic| with_reducible apply rd_ite1)
local macro_rules | `(tactic| row_room_at rdit) => `(tactic| with_reducible apply rd_ite0)
local macro_rules | `(tactic| row_room_at rdit) => `(tactic| with_reducible refine rd_iteT (by with_unfolding_all decide +kernel) ?_)
local macro_rules | `(tactic| row_room_at rdit) => `(tactic| with_reducible refine rd_iteF (by with_unfolding_all decide +kernel) ?_)
local macro_rules | `(tactic| row_room_at rdex) => `(tactic| with_reducible apply rd_inS)
local macro_rules | `(tactic| row_room_at rdex) => `(tactic| with_reducible apply rd_min2)
local macro_rules | `(tactic| row_room_at rdex) => `(tactic| with_reducible apply rd_1S)
local macro_rules | `(tactic| row_room_at rdex) => `(tactic| with_reducible apply rd_2S)
local macro_rules | `(tactic| row_room_at rdex) => `(tactic| with_reducible refine rd_fld' (by with_unfolding_all row_room_at hp) (by with_unfolding_all assumption) (by with_unfolding_all assumption) (by with_unfolding_all rfl) ?_)
local macro_rules | `(tactic| row_room_at rdex) => `(tactic| with_reducible refine rd_ty (by with_unfolding_all row_room_at hp) ?_)
local macro_rules | `(tactic| row_room_at rdex) => `(tactic| with_reducible refine rd_itup' (by with_unfolding_all row_room_at hp) ?_)
local macro_rules | `(tactic| row_room_at rdex) => `(tactic| with_reducible refine rd_ilist' (by with_unfolding_all row_room_at hp) ?_)
local macro_rules | `(tactic| row_room_at rdex) => `(tactic| with_reducible apply rd_1B)
local macro_rules | `(tactic| row_room_at rdex) => `(tactic| with_reducible refine rd_dgetS (by with_unfolding_all row_room_at hp) (by with_unfolding_all assumption) ?_)
local macro_rules | `(tactic| row_room_at rdex) => `(tactic| with_reducible refine rd_dget' (by with_unfolding_all row_room_at hp) (by with_unfolding_all rfl) (by with_unfolding_all assumption) ?_)
local macro_rules | `(tactic| row_room_at rdex) => `(tactic| with_reducible refine rd_len (by with_unfolding_all first | exact .inl (by row_room_at hp) | exact .inr (by row_room_at hp)) ?_)
local macro_rules | `(tactic| row_room_at rdex) => `(tactic| with_reducible refine rd_lenQ (by with_unfolding_all first | exact .inl (by row_room_at hp) | exact .inr (by row_room_at hp)) ?_)
local macro_rules | `(tactic| row_room_at rdex) => `(tactic| with_reducible apply rd_2I)
local macro_rules | `(tactic| row_room_at rdex) => `(tactic| with_reducible refine rd_b62 (by with_unfolding_all first | decide | (constructor <;> omega)) ?_)
local macro_rules | `(tactic| row_room_at rdex) => `(tactic| with_reducible refine rd_lenS (by with_unfolding_all omega) ?_)
local macro_rules | `(tactic| row_room_at rdex) => `(tactic| with_reducible apply rd_1I)
local macro_rules | `(tactic| row_room_at rdex) => `(tactic| with_reducible apply rd_int1)
local macro_rules | `(tactic| row_room_at rdex) => `(tactic| with_reducible apply rd_iv)
local macro_rules | `(tactic| row_room_at rdex) => `(tactic| with_reducible refine rd_sz (by with_unfolding_all first | decide | (simp only [List.length_append, List.length_map, List.length_cons, List.length_nil, List.length_take]; omega)) ?_)
local macro_rules | `(tactic| row_room_at rdex) => `(tactic| with_reducible apply rd_bl)
local macro_rules | `(tactic| row_room_at rdhd) => `(tactic| with_reducible apply rd_m1)
local macro_rules | `(tactic| row_room_at rdhd) => `(tactic| with_reducible apply rd_fld)
local macro_rules | `(tactic| row_room_at rdhd) => `(tactic| with_reducible refine rd_append (by with_unfolding_all row_room_at hp) (by with_unfolding_all first | decide | (simp only [List.length_append, List.length_map, List.length_cons, List.length_nil]; omega)) ?_)
local macro_rules | `(tactic| row_room_at rdhd) => `(tactic| with_reducible apply rd_bm)
local macro_rules | `(tactic| row_room_at rdhd) => `(tactic| with_reducible apply rd_yes)
local macro_rules | `(tactic| row_room_at rdhd) => `(tactic| with_reducible apply rd_lc)
local macro_rules | `(tactic| row_room_at rdhd) => `(tactic| with_reducible apply rd_itup)
local macro_rules | `(tactic| row_room_at rdhd) => `(tactic| with_reducible apply rd_ilist)
local macro_rules | `(tactic| row_room_at rdhd) => `(tactic| with_reducible refine rd_dictK (by with_unfolding_all row_room_at hp) ?_)
local macro_rules | `(tactic| row_room_at rdhd) => `(tactic| with_reducible refine rd_lenK (by with_unfolding_all first | exact .inl (by row_room_at hp) | exact .inr (by row_room_at hp)) ?_)
local macro_rules | `(tactic| row_room_at rdhd) => `(tactic| with_reducible apply rd_methI)
local macro_rules | `(tactic| row_room_at rdhd) => `(tactic| with_reducible apply rd_dget)
local macro_rules | `(tactic| row_room_at rdhd) => `(tactic| with_reducible apply rd_if)
local macro_rules | `(tactic| row_room_at rdhd) => `(tactic| with_reducible apply rd_notV)
local macro_rules | `(tactic| row_room_at rdhd) => `(tactic| with_reducible apply rd_orV)
local macro_rules | `(tactic| row_room_at rdhd) => `(tactic| with_reducible apply rd_andV)
local macro_rules | `(tactic| row_room_at rdhd) => `(tactic| with_reducible apply rd_U)
local macro_rules | `(tactic| row_room_at rdhd) => `(tactic| with_reducible apply rd_un)
local macro_rules | `(tactic| row_room_at rdhd) => `(tactic| with_reducible refine rd_cat (by with_unfolding_all row_room_at hp) (by with_unfolding_all row_room_at hp) (by with_unfolding_all first | decide | (simp only [List.length_append, List.length_map, List.length_cons, List.length_nil, List.length_take]; omega)) ?_)
local macro_rules | `(tactic| row_room_at rdhd) => `(tactic| with_reducible refine rd_slL (by with_unfolding_all row_room_at hp) ?_)
local macro_rules | `(tactic| row_room_at rdhd) => `(tactic| with_reducible apply rd_nopart)
local macro_rules | `(tactic| row_room_at rdhd) => `(tactic| with_reducible apply rd_make)
local macro_rules | `(tactic| row_room_at rdhd) => `(tactic| with_reducible apply rd_kt)
local macro_rules | `(tactic| row_room_at rdhd) => `(tactic| with_reducible apply rd_rng1)
local macro_rules | `(tactic| row_room_at rdhd) => `(tactic| with_reducible refine rd_ne (by with_unfolding_all rfl) ?_)
local macro_rules | `(tactic| row_room_at rdhd) => `(tactic| with_reducible apply rd_and)
local macro_rules | `(tactic| row_room_at rdhd) => `(tactic| with_reducible apply rd_B)
local macro_rules | `(tactic| row_room_at rdhd) => `(tactic| with_reducible apply rd_not)
local macro_rules | `(tactic| row_room_at rdhd) => `(tactic| with_reducible refine rd_ixL (by with_unfolding_all row_room_at hp) (by with_unfolding_all row_room_at ati) ?_)
local macro_rules | `(tactic| row_room_at rdhd) => `(tactic| with_reducible apply rd_gNil)
local macro_rules | `(tactic| row_room_at rdhd) => `(tactic| with_reducible refine rd_gTup (by with_unfolding_all (apply SqT.of; row_room_at hp)) (by with_unfolding_all rfl) ?_)
local macro_rules | `(tactic| row_room_at rdhd) => `(tactic| with_reducible apply rd_sl)
local macro_rules | `(tactic| row_room_at rdhd) => `(tactic| with_reducible refine rd_I (by with_unfolding_all row_room_at cc) ?_)
local macro_rules | `(tactic| row_room_at rdhd) => `(tactic| with_reducible apply rd_or)
local macro_rules | `(tactic| row_room_at rdhd) => `(tactic| with_reducible apply rd_lst)
local macro_rules | `(tactic| row_room_at rdhd) => `(tactic| with_reducible apply rd_gCons)
local macro_rules | `(tactic| row_room_at rdhd) => `(tactic| with_reducible apply rd_part)
local macro_rules | `(tactic| row_room_at rdhd) => `(tactic| with_reducible apply rd_tup)
local macro_rules | `(tactic| row_room_at rdhd) => `(tactic| with_reducible apply rd_I0)
local macro_rules | `(tactic| row_room_at rdhd) => `(tactic| with_reducible apply rd_CB)
local macro_rules | `(tactic| row_room_at rdhd) => `(tactic| with_reducible refine rd_ixT (by with_unfolding_all row_room_at hp) (by with_unfolding_all row_room_at ati) ?_)
local macro_rules | `(tactic| row_room_at rdhd) => `(tactic| with_reducible refine rd_eq (by with_unfolding_all rfl) ?_)
local macro_rules | `(tactic| row_room_at rdhd) => `(tactic| with_reducible apply rd_call)
local macro_rules | `(tactic| row_room_at rdhd) => `(tactic| with_reducible apply rd_gName)
local macro_rules | `(tactic| row_room_at rdhd) => `(tactic| with_reducible apply rd_test)
local macro_rules | `(tactic| row_room_at rdhd) => `(tactic| with_reducible apply rd_cons)
local macro_rules | `(tactic| row_room_at rdhd) => `(tactic| with_reducible apply rd_consC)
local macro_rules | `(tactic| row_room_at rdhd) => `(tactic| with_reducible refine rd_consV (by with_unfolding_all rfl) ?_)
local macro_rules | `(tactic| row_room_at rdhd) => `(tactic| with_reducible apply rd_nil)
local macro_rules | `(tactic| row_room_at rdhd) => `(tactic| with_reducible apply rd_c)
local macro_rules | `(tactic| row_room_at rdhd) => `(tactic| with_reducible refine rd_var (by with_unfolding_all rfl) ?_)
local macro_rules | `(tactic| row_room_at rdhd) => `(tactic| with_reducible apply rd_op)
local macro_rules | `(tactic| row_room_at rdsz) => `(tactic| with_reducible refine rd_sz (by with_unfolding_all first | decide | (simp only [List.length_append, List.length_map, List.length_cons, List.length_nil, List.length_take]; omega)) ?_)
local macro_rules | `(tactic| row_room_at rd1) => `(tactic| with_reducible refine rd_unN (by with_reducible assumption) ?_)
local macro_rules | `(tactic| row_room_at rd1) => `(tactic| ((fail_if_success with_reducible apply g_sp); (fail_if_success with_reducible apply g_ite); row_room_at rdex))
local macro_rules | `(tactic| row_room_at rd1) => `(tactic| ((fail_if_success with_reducible apply g_sp); (fail_if_success with_reducible intro _); row_room_at rdhd))
local macro_rules | `(tactic| row_room_at rd1) => `(tactic| row_room_at rdsz)
local macro_rules | `(tactic| row_room_at rd1) => `(tactic| ((with_reducible apply g_ex); row_room_at rdex))
local macro_rules | `(tactic| row_room_at rd1) => `(tactic| ((with_reducible apply g_ite); row_room_at rdit))
local macro_rules | `(tactic| row_room_at rd1) => `(tactic| ((with_reducible apply g_ts); row_room_at rdts))
local macro_rules | `(tactic| row_room_at rd) => `(tactic| repeat row_room_at rd1)
/-- the tree's tuple -/
inductive TrSh (H0 H : Hp) : Fo → List V → Prop
  | num (n : Int) : TrSh H0 H (.num n) [.str "number", .int n]
  | nam (z : Str) : TrSh H0 H (.nam z) [.str "name", .str z]
  | neg (f : Fo) (a : Addr) (h : TrW H0 H f a) : TrSh H0 H (.neg f) [.str "negative", .ref a]
  | shl (f : Fo) (n : Int) (a : Addr) (h : TrW H0 H f a) : TrSh H0 H (.shl f n) [.str "shift", .ref a, .int n]
  | bin (o : B3) (f g : Fo) (a b : Addr) (h : TrW H0 H f a) (h2 : TrW H0 H g b) : TrSh H0 H (.bin o f g) [.str o.str, .ref a, .ref b]
  | sum (i : Str) (b f : Fo) (c a : Addr) (h : TrW H0 H b c) (h2 : TrW H0 H f a) : TrSh H0 H (.sum i b f) [.str "sum", .str i, .ref c, .ref a]
  | call (z : Str) (fs : List Fo) (l : Addr) (xs : List Addr) (e : H l = some (.lst (xs.map V.ref))) (h : TrWs H0 H fs xs) : TrSh H0 H (.call z fs) [.str "call", .str z, .ref l]
theorem TrW.opened {H0 H : Hp} {f : Fo} {t : Addr} (h : TrW H0 H f t) : ∃ xs, H t = some (.tup xs) ∧ TrSh H0 H f xs ∧ atI xs 0 = some (.str f.kind) := by
  cases f with
  | num n => simp only [TrW] at h; exact ⟨_, h, .num n, rfl⟩
  | nam z => simp only [TrW] at h; exact ⟨_, h, .nam z, rfl⟩
  | neg f => simp only [TrW] at h; obtain ⟨a, e, h⟩ := h; exact ⟨_, e, .neg f a h, rfl⟩
  | shl f n => simp only [TrW] at h; obtain ⟨a, e, h⟩ := h; exact ⟨_, e, .shl f n a h, rfl⟩
  | bin o f g => simp only [TrW] at h; obtain ⟨a, b, e, h, h2⟩ := h; exact ⟨_, e, .bin o f g a b h h2, rfl⟩
  | sum i b f => simp only [TrW] at h; obtain ⟨c, a, e, h, h2⟩ := h; exact ⟨_, e, .sum i b f c a h h2, rfl⟩
  | call z fs => simp only [TrW] at h; obtain ⟨l, xs, e, e2, _, h⟩ := h; exact ⟨_, e, .call z fs l xs e2 h, rfl⟩
theorem TrWs.mem {H0 H : Hp} : ∀ {fs : List Fo} {xs : List Addr}, TrWs H0 H fs xs → ∀ (i : Nat) f x, fs[i]? = some f → xs[i]? = some x → TrW H0 H f x := fun {fs xs} h i f x hf hx => by
  obtain ⟨g, hg, tr⟩ := h.get hx
  rw [hf] at hg
  injection hg with hg
  rw [hg]; exact tr
def spIns : Sp := fun vs H Q _ => ∃ (f : Fo) (t : Addr) (H0 : Hp), vs = [.ref t] ∧ TrW H0 H f t ∧ ∀ H' l xs, Same H H' → H' l = some (.lst (xs.map V.ref)) → TrWs H0 H' f.kids xs → Q (.ref l) H'
theorem sc__law_inside : FnScope ["_law_tree_here"] ["_law_tree_here"] (defScope s__law_inside) := ⟨rfl, rfl, rfl, by decide +kernel, rfl, by decide +kernel, by decide +kernel⟩
theorem ok__law_inside (T : Txt K mg) : Cal P w K mg base CX0 (2) (ga K "_law_inside") ["_law_tree_here"] spIns := by
  obtain ⟨fd, F⟩ := T.f__law_inside
  refine ⟨fd, ?_, F.kp, F.bindsN fun _ _ _ _ _ _ us hl => match us, hl with | [_], _ => rfl⟩
  refine F.ok sc__law_inside (fun vs H Q E h => ?_) (fun cdv A outer s H vs Q E hr h => ?_)
  · obtain ⟨_, _, _, rfl, _⟩ := h
    rfl
  have nod := sc__law_inside.nd
  have hu := hu_of hr
  refine ⟨_, PSs.nox (pss_cons (ps_if (PW.pt (pw_or (pt_cmpR op_eq (pe_ix ix_tup (pv 0) pe_int (fun _ _ => rfl)) pe_str (nomark _)) (pw_or1 (pt_cmpR op_eq (pe_ix ix_tup (pv 0) pe_int (fun _ _ => rfl)) pe_str (nomark _)))))
    (pss_one (ps_ret (pe_lst pa_nil)))
    pss_nil)
  (pss_cons (ps_if (PW.pt (pw_or (pt_cmpR op_eq (pe_ix ix_tup (pv 0) pe_int (fun _ _ => rfl)) pe_str (nomark _)) (pw_or1 (pt_cmpR op_eq (pe_ix ix_tup (pv 0) pe_int (fun _ _ => rfl)) pe_str (nomark _)))))
    (pss_one (ps_ret (pe_lst (pa_cons (pe_ix ix_tup (pv 0) pe_int (fun _ _ => rfl)) pa_nil))))
    pss_nil)
  (pss_cons (ps_if (pt_cmpR op_eq (pe_ix ix_tup (pv 0) pe_int (fun _ _ => rfl)) pe_str (nomark _))
    (pss_one (ps_ret (pe_lst (pa_cons (pe_ix ix_tup (pv 0) pe_int (fun _ _ => rfl)) pa_nil))))
    pss_nil)
  (pss_cons (ps_if (pt_cmpR op_eq (pe_ix ix_tup (pv 0) pe_int (fun _ _ => rfl)) pe_str (nomark _))
    (pss_one (ps_ret (pe_ix ix_tup (pv 0) pe_int (fun _ _ => rfl))))
    pss_nil)
  (pss_one (ps_ret (pe_lst (pa_cons (pe_ix ix_tup (pv 0) pe_int (fun _ _ => rfl)) (pa_cons (pe_ix ix_tup (pv 0) pe_int (fun _ _ => rfl)) pa_nil))))))))), ?_⟩
  obtain ⟨f, t, H0, rfl, ht, q⟩ := h
  obtain ⟨tt, et, tsh, t0⟩ := ht.opened
  clear t0
  cases f with
  | num m =>
    cases tsh
    row_room_at rd
    refine rd_new fun l H1 hl s1 e1 => q H1 l [] s1 e1 rfl
  | nam z =>
    cases tsh
    row_room_at rd
    refine rd_new fun l H1 hl s1 e1 => q H1 l [] s1 e1 rfl
  | neg g =>
    cases tsh with | neg _ x h1 =>
    row_room_at rd
    exact rd_new fun l H1 hl s1 e1 => q H1 l [x] s1 e1 ⟨x, [], rfl, TrW.same s1 h1, rfl⟩
  | shl g m =>
    cases tsh with | shl _ _ x h1 =>
    row_room_at rd
    exact rd_new fun l H1 hl s1 e1 => q H1 l [x] s1 e1 ⟨x, [], rfl, TrW.same s1 h1, rfl⟩
  | sum i b g =>
    cases tsh with | sum _ _ _ c x h0 h1 =>
    row_room_at rd
    exact rd_new fun l H1 hl s1 e1 => q H1 l [x] s1 e1 ⟨x, [], rfl, TrW.same s1 h1, rfl⟩
  | call z fs =>
    cases tsh with | call _ _ l xs e h1 =>
    row_room_at rd
    exact q H l xs (Same.refl _) e h1
  | bin o g h =>
    cases tsh with | bin _ _ _ x y h1 h2 =>
    cases o <;> (
      simp only [B3.str] at et
      row_room_at rd
      exact rd_new fun l H1 hl s1 e1 => q H1 l [x, y] s1 e1 ⟨x, [y], rfl, TrW.same s1 h1, y, [], rfl, TrW.same s1 h2, rfl⟩)
theorem Fo.sz_kids (f : Fo) : f.parts = 1 + Fo.partsL f.kids ∧ f.depth = Fo.depthL f.kids + 1 := by
  cases f <;> simp [Fo.kids, Fo.parts, Fo.partsL, Fo.depth, Fo.depthL, Nat.add_comm]
theorem Fo.take_sz : ∀ (fs : List Fo) (i : Nat) (g : Fo), fs[i]? = some g → Fo.partsL (fs.take (i + 1)) = Fo.partsL (fs.take i) + g.parts ∧ Fo.depthL (fs.take (i + 1)) = max (Fo.depthL (fs.take i)) g.depth
  | [], i, g, h => by simp at h
  | f :: fs, 0, g, h => by
    have h : f = g := by simpa using h
    subst h
    simp [Fo.partsL, Fo.depthL]
  | f :: fs, i + 1, g, h => by
    obtain ⟨h1, h2⟩ := Fo.take_sz fs i g (by simpa using h)
    simp only [List.take_succ_cons, Fo.partsL, Fo.depthL, h1, h2]
    omega
theorem strOk_good {z : Str} (h : GoodN z) : PyData.strOk z = true := by
  have h1 : low z = true := by
    have h := h.1
    unfold isNmS at h
    simp only [Bool.and_eq_true] at h
    exact h.2.2.2
  unfold PyData.strOk
  rw [← Array.all_toList, List.all_eq_true]
  intro c hc
  unfold low at h1
  rw [List.all_eq_true] at h1
  have h2 := of_decide_eq_true (h1 c hc)
  have h3 : ∀ c ∈ LET.cps.toList, c < 0x110000 := by decide +kernel
  exact decide_eq_true (h3 c h2)
/-! ### _law_walk -/
def FtAt (H : Hp) (o : Option Ft) (v : V) : Prop := match o with
  | none => v = .non
  | some (.bd i) => ∃ t, v = .ref t ∧ H t = some (.tup [.str "bound", .str i])
  | some (.nm i) => ∃ t, v = .ref t ∧ H t = some (.tup [.str "name", .str i])
  | some .mny => ∃ t, v = .ref t ∧ H t = some (.tup [.str "many", .non])
theorem FtAt.same {H H' : Hp} {o : Option Ft} {v : V} (h : FtAt H o v) (s : Same H H') : FtAt H' o v := by
  cases o with
  | none => exact h
  | some e => cases e <;> (obtain ⟨t, rfl, e⟩ := h; exact ⟨t, rfl, s _ _ e⟩)
def Fo.own0 : Fo → Option Ft
  | .sum i b g => if b.isN i = true then some (.bd i) else if i ∈ g.ixs then some (.nm i) else none
  | _ => none
theorem faultL_one (g : Fo) : faultL [g] = g.fault := by
  show orF g.fault none = g.fault
  cases g.fault <;> rfl
theorem Fo.fault_kids (f : Fo) : f.fault = orF (faultL f.kids) (orF f.own0 (mnyF f)) := by
  cases f with
  | num n => simp only [Fo.fault, Fo.kids, faultL, Fo.own0, orF]; rw [mny_fit (by simp only [Fo.Fits, Fo.parts, Fo.depth]; omega)]
  | nam n => simp only [Fo.fault, Fo.kids, faultL, Fo.own0, orF]; rw [mny_fit (by simp only [Fo.Fits, Fo.parts, Fo.depth]; omega)]
  | neg g => simp only [Fo.fault, Fo.kids, faultL_one, Fo.own0, orF]
  | shl g n => simp only [Fo.fault, Fo.kids, faultL_one, Fo.own0, orF]
  | bin o f g =>
    simp only [Fo.fault, Fo.kids, Fo.own0]
    show _ = orF (orF f.fault (orF g.fault none)) _
    cases f.fault with
    | some e => rfl
    | none => cases g.fault <;> rfl
  | call z fs => simp only [Fo.fault, Fo.kids, Fo.own0, orF]
  | sum i b g =>
    simp only [Fo.fault, Fo.kids, faultL_one, Fo.own0]
    split
    · rfl
    · split <;> rfl
theorem partsL_take : ∀ (fs : List Fo) (i : Nat), Fo.partsL (fs.take i) ≤ Fo.partsL fs
  | [], i => by simp
  | f :: fs, 0 => by simp [Fo.partsL]
  | f :: fs, i + 1 => by
    have := partsL_take fs i
    simp only [List.take_succ_cons, Fo.partsL]; omega
def WalkAt (H : Hp) (f : Fo) (u : Addr) : Prop := ∃ (v : V) (p d : Int) (l : Addr), H u = some (.tup [v, .int p, .int d, .ref l]) ∧ FtAt H f.fault v ∧
  (f.fault = none → p = f.parts ∧ d = f.depth ∧ ∃ is : List Str, H l = some (.lst (is.map V.str)) ∧ is.length ≤ f.parts ∧ ∀ i, i ∈ is ↔ i ∈ f.ixs)
theorem ixsL_take {fs : List Fo} {i : Nat} {g : Fo} (h : fs[i]? = some g) (x : Str) : x ∈ Fo.ixsL (fs.take (i + 1)) ↔ x ∈ Fo.ixsL (fs.take i) ∨ x ∈ g.ixs := by
  rw [take_at h, Fo.mem_ixsL, Fo.mem_ixsL]
  constructor
  · rintro ⟨f, hf, hx⟩
    rcases List.mem_append.mp hf with hf | hf
    · exact .inl ⟨f, hf, hx⟩
    · rw [List.mem_singleton.mp hf] at hx; exact .inr hx
  · rintro (⟨f, hf, hx⟩ | hx)
    · exact ⟨f, List.mem_append_left _ hf, hx⟩
    · exact ⟨g, List.mem_append_right _ (List.mem_singleton.mpr rfl), hx⟩
theorem ixs_kids (f : Fo) (x : Str) : x ∈ f.ixs ↔ (∃ i b g, f = .sum i b g ∧ x = i) ∨ x ∈ Fo.ixsL f.kids := by
  cases f <;> simp [Fo.ixs, Fo.kids, Fo.ixsL]
/-- what the bound of a sum is next to its index -/
theorem bd_eq {K : PySem.W.Frag} {H0 H : Hp} {b : Fo} {c t : Addr} {i : Str} {Q : VK} (bl : b.leaf) (bo : b.Ok) (gi : GoodN i) (hb : TrW H0 H b c) (et : H t = some (.tup [.str "name", .str i])) (q : Q (.bl (b.isN i)) H) : rEqD K (.ref c) (.ref t) H Q := by
  have on : PyData.strOk "name" = true := by decide +kernel
  have om : PyData.strOk "number" = true := by decide +kernel
  cases b with
  | num n =>
    simp only [TrW] at hb
    refine ⟨.tuple [.str "number", .int n], .tuple [.str "name", .str i], .tup (SqT.of hb) (.cons (.str _) (.cons (.int _) .nil)), .tup (SqT.of et) (.cons (.str _) (.cons (.str _) .nil)), ?_, ?_, ?_⟩
    · simp [SeqAt.shaped, PyData.canLay0, PyData.canLayAll0, PyData.depth, PyData.depthAll, om]
    · simp [SeqAt.shaped, PyData.canLay0, PyData.canLayAll0, PyData.depth, PyData.depthAll, on, strOk_good gi]
    · have : PyData.eqv (.tuple [.str "number", .int n]) (.tuple [.str "name", .str i]) = (Fo.num n).isN i := by rw [Bool.eq_iff_iff]; simp [PyData.eqv, PyData.eqvAll, Fo.isN]
      rw [this]; exact q
  | nam z =>
    simp only [TrW] at hb
    refine ⟨.tuple [.str "name", .str z], .tuple [.str "name", .str i], .tup (SqT.of hb) (.cons (.str _) (.cons (.str _) .nil)), .tup (SqT.of et) (.cons (.str _) (.cons (.str _) .nil)), ?_, ?_, ?_⟩
    · simp [SeqAt.shaped, PyData.canLay0, PyData.canLayAll0, PyData.depth, PyData.depthAll, on, strOk_good bo]
    · simp [SeqAt.shaped, PyData.canLay0, PyData.canLayAll0, PyData.depth, PyData.depthAll, on, strOk_good gi]
    · have : PyData.eqv (.tuple [.str "name", .str z]) (.tuple [.str "name", .str i]) = (Fo.nam z).isN i := by rw [Bool.eq_iff_iff]; simp [PyData.eqv, PyData.eqvAll, Fo.isN]
      rw [this]; exact q
  | _ => exact bl.elim
def spWalk (n : Nat) : Sp := fun vs H Q _ => ∃ (f : Fo) (t : Addr) (H0 : Hp), vs = [.ref t] ∧ f.depth ≤ n ∧ f.Pre ∧ f.parts ≤ 1100 ∧ TrW H0 H f t ∧ ∀ H' u, Same H H' → WalkAt H' f u → Q (.ref u) H'
theorem sc__law_walk : FnScope ["_law_tree_here", "_law_parts", "_law_depth", "_law_indexes", "_law_thing", "_law_inner", "_law_fault", "_law_word"] ["_law_tree_here"] (defScope s__law_walk) := ⟨rfl, rfl, rfl, by decide +kernel, rfl, by decide +kernel, by decide +kernel⟩
theorem ok__law_walk (T : Txt K mg) : ∀ n, Cal P w K mg base CX0 (n + 4) (ga K "_law_walk") ["_law_tree_here"] (spWalk n)
  | 0 => by
    obtain ⟨fd, F⟩ := T.f__law_walk
    refine ⟨fd, ⟨fun vs H Q E h => ?_, fun A outer s H args us vs Q E _ _ _ _ h => ?_⟩, F.kp, F.bindsN fun _ _ _ _ _ _ us hl => match us, hl with | [_], _ => rfl⟩
    · obtain ⟨_, _, _, rfl, _⟩ := h
      rfl
    · obtain ⟨_, _, _, _, h, _⟩ := h
      exact absurd h (Nat.not_le_of_lt (Fo.depth_pos _))
  | n + 1 => by
    have GX := ok__law_walk T n
    obtain ⟨fd, F⟩ := T.f__law_walk
    refine ⟨fd, ?_, F.kp, F.bindsN fun _ _ _ _ _ _ us hl => match us, hl with | [_], _ => rfl⟩
    refine F.ok sc__law_walk (fun vs H Q E h => ?_) (fun cdv A outer s H vs Q E hr h => ?_)
    · obtain ⟨_, _, _, rfl, _⟩ := h
      rfl
    have nod := sc__law_walk.nd
    have hu := hu_of hr
    refine ⟨_, PSs.nox (pss_cons (ps_set (i := 1) nod rfl (Or.inl rfl) pe_int)
    (pss_cons (ps_set (i := 2) nod rfl (Or.inl rfl) pe_int)
    (pss_cons (ps_set (i := 3) nod rfl (Or.inr rfl) (pe_lst pa_nil))
    (pss_cons (ps_for PassesOwn.never rfl (pi_list (pe_callC (ok__law_inside T) (hr.mono (by omega)) rfl (T.g "_law_inside") pass0 (pa_cons (pv 0) pa_nil))) (pg_name (i := 4) nod rfl (Or.inl rfl))
      (pss_cons (ps_set (i := 5) nod rfl (Or.inl rfl) (pe_callC GX (hr.mono (by omega)) rfl (T.g "_law_walk") pass0 (pa_cons (pv 4) pa_nil)))
      (pss_cons (ps_if (pt_cmpR op_notN (pe_ix ix_tup (pv 5) pe_int (fun _ _ => rfl)) pe_non (nomark _))
        (pss_one (ps_ret (pv 5)))
        pss_nil)
      (pss_cons (ps_set (i := 1) nod rfl (Or.inl rfl) (pe_op op_add (pv 1) (pe_ix ix_tup (pv 5) pe_int (fun _ _ => rfl))))
      (pss_cons (ps_set (i := 2) nod rfl (Or.inl rfl) (pe_callB (call_max2 rfl) rfl (T.f "max") (by decide +kernel) (pa_cons (pv 2) (pa_cons (pe_ix ix_tup (pv 5) pe_int (fun _ _ => rfl)) pa_nil))))
      (pss_one (ps_set (i := 3) nod rfl (Or.inr rfl) (pe_op op_cat (pv 3) (pe_lc (own := [("_law_word", 7)]) (te := (tVar 7)) (g := (gName 7)) (tt := (tTest (tOp (rIn K true) (tVar 7) (tVar 3)))) rfl nod (pi_list (pe_ix ix_tup (pv 5) pe_int (fun _ _ => rfl))) (blkOk_by (N := ["_law_tree_here", "_law_parts", "_law_depth", "_law_indexes", "_law_thing", "_law_inner", "_law_fault", "_law_word"]) (sc := defScope s__law_walk) (by decide +kernel)) (fun _ _ _ _ _ => (pg_name (i := 7) nod rfl (Or.inl rfl))) (fun _ _ _ _ _ => (pts_one (pt_cmpR op_notIn_seq (pv 7) (pv 3) rfl))) (fun _ _ _ _ _ => (pv 7)))))))))))
    (pss_cons (ps_set (i := 6) nod rfl (Or.inl rfl) pe_non)
    (C8.pss_cut (ps_if (pt_cmpR op_eq (pe_ix ix_tup (pv 0) pe_int (fun _ _ => rfl)) pe_str (nomark _))
      (C8.pss_cut (ps_if (pt_cmpR (op_eqD hr.units) (pe_ix ix_tup (pv 0) pe_int (fun _ _ => rfl)) (pe_tup (pa_cons pe_str (pa_cons (pe_ix ix_tup (pv 0) pe_int (fun _ _ => rfl)) pa_nil))) (nomark _))
        (pss_one (ps_set (i := 6) nod rfl (Or.inl rfl) (pe_tup (pa_cons pe_str (pa_cons (pe_ix ix_tup (pv 0) pe_int (fun _ _ => rfl)) pa_nil)))))
        (pss_one (ps_if (pt_cmpR op_in_seq (pe_ix ix_tup (pv 0) pe_int (fun _ _ => rfl)) (pv 3) rfl)
          (pss_one (ps_set (i := 6) nod rfl (Or.inl rfl) (pe_tup (pa_cons pe_str (pa_cons (pe_ix ix_tup (pv 0) pe_int (fun _ _ => rfl)) pa_nil)))))
          pss_nil)))
      (pss_one (ps_set (i := 3) nod rfl (Or.inr rfl) (pe_op op_cat (pv 3) (pe_lst (pa_cons (pe_ix ix_tup (pv 0) pe_int (fun _ _ => rfl)) pa_nil))))))
      pss_nil)
    (C8.pss_cut (ps_if (PW.pt (pw_and (pt_cmpR op_isN (pv 6) pe_non (nomark _)) (pw_and1 (PW.pt (pw_or (pt_cmpR op_gt (pv 1) pe_int (nomark _)) (pw_or1 (pt_cmpR op_gt (pe_op op_add (pv 2) pe_int) pe_int (nomark _))))))))
      (pss_one (ps_set (i := 6) nod rfl (Or.inl rfl) (pe_tup (pa_cons pe_str (pa_cons pe_non pa_nil)))))
      pss_nil)
    (pss_one (ps_ret (pe_tup (pa_cons (pv 6) (pa_cons (pv 1) (pa_cons (pe_op op_add (pv 2) pe_int) (pa_cons (pv 3) pa_nil)))))))))))))), ?_⟩
    obtain ⟨f, t, H0, rfl, hn, ok, fp, ht, q⟩ := h
    row_room_at rd
    refine rd_new fun l0 H1 hl0 s1 e1 => ?_
    replace e1 : H1 l0 = some (.lst (([] : List Str).map V.str)) := e1
    row_room_at rd
    refine ⟨f, t, H0, rfl, TrW.same s1 ht, fun H2 l xs s2 e2 tk => ?_⟩
    have lx := tk.len
    have fz := f.sz_kids
    have ff := f.fault_kids
    have ht2 := TrW.same (s1.trans s2) ht
    have s12 := s1.trans s2
    have lk : (xs.map V.ref).length = f.kids.length := by rw [List.length_map, lx]
    row_room_at rd
    refine for_list (K := K) (a := l) (xs := xs.map V.ref) (fun i σ H' => ∃ v1 v2 l1, ∃ is : List Str, σ = [some (.ref t), some (.int (1 + (Fo.partsL (f.kids.take i) : Nat))), some (.int ((Fo.depthL (f.kids.take i) : Nat))), some (.ref l1), v1, v2, none, none] ∧ Same H2 H' ∧ H' l1 = some (.lst (is.map V.str)) ∧ is.length ≤ Fo.partsL (f.kids.take i) ∧ (∀ x, x ∈ is ↔ x ∈ Fo.ixsL (f.kids.take i)) ∧ faultL (f.kids.take i) = none) ⟨_, _, l0, [], rfl, Same.refl _, s2 _ _ e1, Nat.zero_le _, fun x => by simp [Fo.ixsL], by simp only [List.take_zero, faultL]⟩ (fun i σ H' _ ⟨_, _, _, _, _, s, _⟩ => SqL.of (s _ _ e2)) (fun i x σ H3 hx ⟨v1, v2, l1, is, hσ, s3, e3, li, mi, fi⟩ => ?_) (fun σ H3 ⟨v1, v2, l1, is, hσ, s3, e3, li, mi, fi⟩ => ?_)
    · subst hσ
      obtain ⟨y, hy, rfl⟩ := map_at hx
      obtain ⟨g, hgi, hgt⟩ := tk.get hy
      have hg := List.mem_of_getElem? hgi
      obtain ⟨z1, z2⟩ := Fo.take_sz f.kids i g hgi
      row_room_at rd
      refine ⟨g, y, H0, rfl, by have := Fo.kid_depth hg; omega, Fo.pre_kids ok g hg, by have := Fo.kid_parts hg; omega, TrW.same s3 hgt, fun H4 u s4 ⟨v, p, d, l2, eu, fv, rest⟩ => ?_⟩
      row_room_at rd
      cases hgf : g.fault with
      | some e =>
        have hv : v ≠ .non := by
          rw [hgf] at fv
          cases e <;> (obtain ⟨w, rfl, _⟩ := fv; exact fun z => nomatch z)
        have fe : f.fault = some e := by rw [ff]; exact orF_some (faultL_at hgi fi hgf)
        rw [hgf] at fv
        refine ⟨rfl, _, rfl, ?_⟩
        refine ite2 (fun _ => ?_) (fun h => absurd (by simp [hv]) h)
        row_room_at rd
        exact q H4 u (s12.trans (s3.trans s4)) ⟨v, p, d, l2, eu, by rw [fe]; exact fv, fun h => by rw [fe] at h; cases h⟩
      | none =>
        rw [hgf] at fv
        have fv : v = .non := fv
        subst fv
        obtain ⟨rfl, rfl, gs, eg, lg, mg'⟩ := rest hgf
        refine ⟨rfl, _, rfl, ?_⟩
        refine ite2 (fun h => absurd h (by simp)) (fun _ => ?_)
        row_room_at rd
        refine fun D hD => ?_
        have e3' := s4 _ _ e3
        have up0 : ∀ {H' : Hp} {o : HO}, Same H4 H' → Same H4 (upd H' D o) := fun {H' o} s' b o' e => by rw [upd_ne (ne_of_none e hD)]; exact s' _ _ e
        refine loop_it (walk_list (K := K) (a := l2) (xs := gs.map V.str)) (fun j H' => Same H4 H' ∧ ∃ ws : List Str, H' D = some (.lst (ws.map V.str)) ∧ ws.length ≤ j ∧ ∀ x, x ∈ ws ↔ x ∈ gs.take j ∧ x ∉ is) ⟨up0 (Same.refl _), [], upd_same, Nat.le_refl _, fun x => by simp⟩ (fun j H' _ ⟨s, _⟩ => SqL.of (s _ _ eg)) (fun j x H5 H6 hj ⟨s5, ws, eD, lw, mw⟩ ⟨hH, hx⟩ => ?_) (fun H5 ⟨s5, ws, eD, lw, mw⟩ => ?_)
        · subst hH
          obtain ⟨w, hw, rfl⟩ : ∃ w, gs[j]? = some w ∧ x = .str w := by
            rw [List.getElem?_map] at hx
            cases h : gs[j]? with
            | none => rw [h] at hx; cases hx
            | some p => rw [h] at hx; injection hx with hx; exact ⟨p, rfl, hx.symm⟩
          have tw := take_at hw
          row_room_at rd
          refine ⟨rfl, ?_⟩
          row_room_at rd
          refine ⟨l1, _, rfl, .inl (SqL.of (s5 _ _ e3')), rfl, flat_strs _, ?_⟩
          rw [inV_strs]
          by_cases hm : w ∈ is
          · rw [decide_eq_true hm]
            row_room_at rd
            refine ⟨s5, ws, eD, by omega, fun x => ?_⟩
            rw [mw, tw]
            constructor
            · exact fun ⟨a, b⟩ => ⟨List.mem_append_left _ a, b⟩
            · rintro ⟨a, b⟩
              rcases List.mem_append.mp a with a | a
              · exact ⟨a, b⟩
              · rw [List.mem_singleton.mp a] at b; exact absurd hm b
          · rw [decide_eq_false hm]
            row_room_at rd
            have : gs.length ≤ 1100 := by have := Fo.kid_parts hg; omega
            have jl : j < gs.length := (List.getElem?_eq_some_iff.mp hw).1
            refine ⟨_, rfl, _, eD, by rw [List.length_map, sizeLine_eq]; omega, up0 s5, ws ++ [w], by rw [upd_same]; simp, by rw [List.length_append]; show ws.length + 1 ≤ j + 1; omega, fun x => ?_⟩
            rw [List.mem_append, mw, tw, List.mem_append, List.mem_singleton]
            constructor
            · rintro (⟨a, b⟩ | rfl)
              · exact ⟨.inl a, b⟩
              · exact ⟨.inr rfl, hm⟩
            · rintro ⟨a | rfl, b⟩
              · exact .inl ⟨a, b⟩
              · exact .inr rfl
        · rw [List.length_map, List.take_length] at mw
          rw [List.length_map] at lw
          have kp := Fo.kid_parts hg
          have pl := partsL_take f.kids (i + 1)
          have e3'' := s5 _ _ e3'
          have fz1 := fz.1
          row_room_at rd
          refine rd_new fun l3 H6 hl3 s6 e6 => ?_
          have e6 : H6 l3 = some (.lst ((is ++ ws).map V.str)) := by rw [e6, List.map_append]
          row_room_at rd
          refine ⟨some (.ref y), some (.ref u), l3, is ++ ws, ?_, (s3.trans (s4.trans (s5.trans s6))), e6, by rw [List.length_append]; omega, fun x => ?_, by rw [take_at hgi, faultL_snoc fi]; exact hgf⟩
          · rw [z1, z2]
            simp only [List.set, List.cons.injEq, Option.some.injEq, V.int.injEq, true_and, and_true]
            constructor
            · omega
            · split <;> omega
          · rw [ixsL_take hgi, List.mem_append, mi, mw, ← mg']
            constructor
            · rintro (a | ⟨a, _⟩)
              · exact .inl a
              · exact .inr a
            · rintro (a | a)
              · exact .inl a
              · by_cases h : x ∈ Fo.ixsL (f.kids.take i)
                · exact .inl h
                · exact .inr ⟨a, fun z => h ((mi x).mp z)⟩
    · subst hσ
      rw [lk, List.take_length] at li mi fi
      rw [lk, List.take_length]
      rw [orF_n fi] at ff
      row_room_at rd
      obtain ⟨tt, et, tsh, t0⟩ := (TrW.same s3 ht2).opened
      clear t0
      have s03 : Same H H3 := s12.trans s3
      have fz1 := fz.1
      refine rd_cut (fun σ' H' => ∃ (v : V) (l2 : Addr) (is2 : List Str), FtAt H' f.own0 v ∧ Same H3 H' ∧ H' l2 = some (.lst (is2.map V.str)) ∧ is2.length ≤ f.parts ∧ (∀ x, x ∈ is2 ↔ x ∈ f.ixs) ∧ σ' = [some (.ref t), some (.int (1 + (Fo.partsL f.kids : Nat))), some (.int (Fo.depthL f.kids : Nat)), some (.ref l2), v1, v2, some v, none]) ?_ ?_
      · have same : (∀ i b g, f ≠ .sum i b g) → ∀ x, x ∈ is ↔ x ∈ f.ixs := fun h x => by
          rw [mi, ixs_kids f x]
          exact ⟨.inr, fun z => z.elim (fun ⟨i, b, g, e, _⟩ => absurd e (h i b g)) id⟩
        clear tk ht2 ht ff
        cases f with
        | sum i b g =>
          cases tsh with | sum _ _ _ c x h0 h1 =>
          simp only [Fo.Pre] at ok
          obtain ⟨oi, bl, bo, og⟩ := ok
          row_room_at rd
          refine rd_cut (fun σ' H' => ∃ v : V, FtAt H' (Fo.sum i b g).own0 v ∧ Same H3 H' ∧ σ' = [some (.ref t), some (.int (1 + (Fo.partsL (Fo.sum i b g).kids : Nat))), some (.int (Fo.depthL (Fo.sum i b g).kids : Nat)), some (.ref l1), v1, v2, some v, none]) ?_ ?_
          · row_room_at rd
            refine rd_new fun t1 H4 ht1 s4 e4 => ?_
            row_room_at rd
            refine bd_eq bl bo oi (TrW.same s4 h0) e4 ?_
            cases hN : b.isN i with
            | true =>
              row_room_at rd
              refine rd_new fun t2 H5 ht2 s5 e5 => ?_
              row_room_at rd
              exact ⟨.ref t2, by simp only [Fo.own0, hN, if_true]; exact ⟨t2, rfl, e5⟩, s4.trans s5, rfl⟩
            | false =>
              have e3' := s4 _ _ e3
              row_room_at rd
              refine ⟨l1, _, rfl, .inl (SqL.of e3'), rfl, flat_strs _, ?_⟩
              rw [inV_strs]
              have mg : i ∈ is ↔ i ∈ g.ixs := by rw [mi]; simp [Fo.kids, Fo.ixsL]
              by_cases hm : i ∈ is
              · rw [decide_eq_true hm]
                row_room_at rd
                refine ite2 (fun _ => ?_) (fun h => absurd (by decide) h)
                row_room_at rd
                refine rd_new fun t2 H5 ht2 s5 e5 => ?_
                row_room_at rd
                exact ⟨.ref t2, by simp only [Fo.own0, hN, if_pos (mg.mp hm)]; exact ⟨t2, rfl, e5⟩, s4.trans s5, rfl⟩
              · rw [decide_eq_false hm]
                row_room_at rd
                exact ⟨.non, by simp only [Fo.own0, hN, if_neg (fun z => hm (mg.mpr z))]; rfl, s4, rfl⟩
          · rintro σ' H4 ⟨v, fv, s4, rfl⟩
            have e3' := s4 _ _ e3
            have et' := s4 _ _ et
            row_room_at rd
            refine rd_new fun l2 H5 hl2 s5 e5 => ?_
            have e3'' := s5 _ _ e3'
            replace e5 : H5 l2 = some (.lst (([i] : List Str).map V.str)) := e5
            row_room_at rd
            refine rd_new fun l3 H6 hl3 s6 e6 => ?_
            have e6 : H6 l3 = some (.lst ((is ++ [i]).map V.str)) := by rw [e6, List.map_append]
            row_room_at rd
            refine ⟨v, l3, is ++ [i], (fv.same s5).same s6, s4.trans (s5.trans s6), e6, by rw [List.length_append]; show is.length + 1 ≤ _; omega, fun x => ?_, rfl⟩
            rw [List.mem_append, List.mem_singleton, mi, ixs_kids]
            constructor
            · rintro (a | rfl)
              · exact .inr a
              · exact .inl ⟨_, _, _, rfl, rfl⟩
            · rintro (⟨_, _, _, e, rfl⟩ | a)
              · injection e with e; exact .inr e.symm
              · exact .inl a
        | num n =>
          cases tsh
          row_room_at rd
          exact ⟨.non, l1, is, rfl, Same.refl _, e3, by omega, same (fun _ _ _ z => nomatch z), rfl⟩
        | nam n =>
          cases tsh
          row_room_at rd
          exact ⟨.non, l1, is, rfl, Same.refl _, e3, by omega, same (fun _ _ _ z => nomatch z), rfl⟩
        | neg g =>
          cases tsh
          row_room_at rd
          exact ⟨.non, l1, is, rfl, Same.refl _, e3, by omega, same (fun _ _ _ z => nomatch z), rfl⟩
        | shl g m =>
          cases tsh
          row_room_at rd
          exact ⟨.non, l1, is, rfl, Same.refl _, e3, by omega, same (fun _ _ _ z => nomatch z), rfl⟩
        | call z fs =>
          cases tsh
          row_room_at rd
          exact ⟨.non, l1, is, rfl, Same.refl _, e3, by omega, same (fun _ _ _ z => nomatch z), rfl⟩
        | bin o g1 g2 =>
          cases tsh
          cases o <;> (
            simp only [B3.str] at et
            row_room_at rd
            exact ⟨.non, l1, is, rfl, Same.refl _, e3, by omega, same (fun _ _ _ z => nomatch z), rfl⟩)
      clear tsh et e3 mi li
      rintro σ' H4 ⟨v, l2, is2, fv, s4, e4, ll, m2, rfl⟩
      row_room_at rd
      refine rd_cut (fun σ' H' => ∃ v : V, FtAt H' f.fault v ∧ Same H4 H' ∧ σ' = [some (.ref t), some (.int (1 + (Fo.partsL f.kids : Nat))), some (.int (Fo.depthL f.kids : Nat)), some (.ref l2), v1, v2, some v, none]) ?_ ?_
      · row_room_at rd
        refine ⟨rfl, ?_⟩
        cases ho : f.own0 with
        | some e =>
          rw [ho] at fv ff
          have hv : v ≠ .non := by cases e <;> (obtain ⟨w, rfl, _⟩ := fv; exact fun z => nomatch z)
          rw [decide_eq_false hv]
          row_room_at rd
          exact ⟨v, by rw [ff]; exact fv, Same.refl _, rfl⟩
        | none =>
          rw [ho] at fv ff
          have fv : v = .non := fv
          subst fv
          rw [decide_eq_true (rfl : V.non = V.non)]
          have ff : f.fault = mnyF f := ff
          by_cases fit : f.Fits
          · have c1 : decide ((300 : Int) < 1 + (Fo.partsL f.kids : Nat)) = false := decide_eq_false (by have := fit.1; omega)
            have c2 : decide ((40 : Int) < (Fo.depthL f.kids : Nat) + 1) = false := decide_eq_false (by have := fit.2; have := fz.2; omega)
            row_room_at rd
            rw [c1]
            row_room_at rd
            rw [c2]
            row_room_at rd
            exact ⟨.non, by rw [ff, mny_fit fit]; rfl, Same.refl _, rfl⟩
          · row_room_at rd
            by_cases c1 : (300 : Int) < 1 + (Fo.partsL f.kids : Nat)
            · rw [decide_eq_true c1]
              row_room_at rd
              refine rd_new fun t2 H5 ht2 s5 e5 => ?_
              row_room_at rd
              exact ⟨.ref t2, by rw [ff, mny_some fit]; exact ⟨t2, rfl, e5⟩, s5, rfl⟩
            · rw [decide_eq_false c1]
              row_room_at rd
              rw [decide_eq_true (by have : ¬ (f.parts ≤ 300 ∧ f.depth ≤ 40) := fit; have := fz.2; omega : (40 : Int) < (Fo.depthL f.kids : Nat) + 1)]
              row_room_at rd
              refine rd_new fun t2 H5 ht2 s5 e5 => ?_
              row_room_at rd
              exact ⟨.ref t2, by rw [ff, mny_some fit]; exact ⟨t2, rfl, e5⟩, s5, rfl⟩
      · rintro σ' H5 ⟨v', fv', s5, rfl⟩
        row_room_at rd
        refine rd_new fun u H6 hu s6 e6 => ?_
        refine q H6 u (s03.trans (s4.trans (s5.trans s6))) ⟨v', _, _, l2, e6, fv'.same s6, fun _ => ⟨by rw [fz.1]; omega, by rw [fz.2]; omega, is2, s6 _ _ (s5 _ _ e4), ll, m2⟩⟩

end
end KM
set_option Elab.async false
set_option linter.all false
set_option maxRecDepth 100000
set_option maxHeartbeats 8000000
namespace KM
open PySem PySem.Spec PyProof.Rows L2 He Sw L2H
section
variable {P : Program} {w : World} {K : PySem.W.Frag} {mg : Str → Option Value} {base : Heap}
/-! ### beginnings of texts -/
theorem at_end {L : List Nat} : L[L.length]? = none := List.getElem?_eq_none_iff.mpr (Nat.le_refl _)
theorem sg_end {L S : List Nat} (h : S ≠ []) : sgAt L L.length S = .error L.length := by
  cases S with
  | nil => exact absurd rfl h
  | cons s S =>
    show (if L[L.length]? = some s then _ else _) = _
    rw [if_neg (by rw [at_end]; exact fun z => nomatch z)]
theorem sg_end' {L S : List Nat} {s : Nat} : sgAt L L.length (s :: S) = .error L.length := sg_end (fun z => nomatch z)
theorem let_end {L : List Nat} : letE L L.length = L.length := by
  show (match L[L.length]? with
    | some c => if isL c = true then runE isL L 7 (L.length + 1) else L.length
    | none => L.length) = _
  rw [at_end]
theorem name_end {L : List Nat} : pName L L.length = .error L.length := by
  unfold pName
  rw [let_end]
  have : subL L L.length L.length = [] := by unfold subL; simp
  rw [this, if_neg (by decide +kernel)]
theorem leaf_end {L : List Nat} : pLeaf L L.length = .error L.length := by
  unfold pLeaf
  rw [if_neg (by rw [at_end]; decide), name_end]
theorem tree_end {L : List Nat} {n : Nat} : pTree L (n + 1) L.length = .error L.length := by
  rw [pTree_succ, if_neg (by rw [at_end]; exact fun z => nomatch z), if_neg (by rw [at_end]; decide), let_end, if_neg (fun z => by rw [at_end] at z; exact nomatch z.1), if_neg (fun z => by rw [at_end] at z; exact nomatch z.1), name_end]
/-- L ends within W, which begins at p -/
def Cut (L : List Nat) (p : Nat) (W : List Nat) : Prop := ∃ c, At L p (W.take c) ∧ L.length = p + c ∧ c < W.length
def Ends {α : Type} (L : List Nat) (r : Except Nat (α × Nat)) : Prop := r = .error L.length ∨ ∃ a, r = .ok (a, L.length)
theorem Ends.bind {α β : Type} {L : List Nat} {r : Except Nat (α × Nat)} {k : α × Nat → Except Nat β} (h : Ends L r) (hk : ∀ a, k (a, L.length) = .error L.length) : (r >>= k) = .error L.length := by
  rcases h with h | ⟨a, h⟩
  · rw [h]; rfl
  · rw [h]; exact hk a
theorem Cut.split {L W1 W2 : List Nat} {p : Nat} (h : Cut L p (W1 ++ W2)) : Cut L p W1 ∨ ∃ R, At L p (W1 ++ R) ∧ (∀ c, R.head? = some c → W2.head? = some c) ∧ Cut L (p + W1.length) W2 := by
  obtain ⟨c, h, hl, hc⟩ := h
  rw [List.length_append] at hc
  by_cases hw : c < W1.length
  · refine .inl ⟨c, ?_, hl, hw⟩
    rw [List.take_append_of_le_length (by omega)] at h
    exact h
  · refine .inr ⟨W2.take (c - W1.length), ?_, fun x hx => ?_, c - W1.length, ?_, by omega, by omega⟩
    · rw [List.take_append, List.take_of_length_le (by omega)] at h
      exact h
    · cases W2 with
      | nil => simp at hx
      | cons y r =>
        cases hk : c - W1.length with
        | zero => rw [hk] at hx; simp at hx
        | succ k => rw [hk] at hx; exact hx
    · rw [List.take_append, List.take_of_length_le (by omega)] at h
      exact h.next W1
theorem Cut.cons {L W : List Nat} {p x : Nat} (h : Cut L p (x :: W)) : p = L.length ∨ (L[p]? = some x ∧ Cut L (p + 1) W) := by
  obtain ⟨c, h, hl, hc⟩ := h
  cases c with
  | zero => exact .inl (by omega)
  | succ c =>
    have h : At L p (x :: W.take c) := h
    exact .inr ⟨h.head, c, h.cons, by omega, by rw [List.length_cons] at hc; omega⟩
theorem Cut.one {L : List Nat} {p x : Nat} (h : Cut L p [x]) : p = L.length := by
  rcases h.cons with h | ⟨_, c, _, _, hc⟩
  · exact h
  · exact absurd hc (by simp)
theorem Cut.sg {L : List Nat} : ∀ {S : List Nat} {p : Nat}, Cut L p S → sgAt L p S = .error L.length
  | [], p, ⟨c, _, _, hc⟩ => absurd hc (by simp)
  | s :: S, p, h => by
    rcases h.cons with rfl | ⟨h1, h2⟩
    · exact sg_end (fun z => nomatch z)
    · show (if L[p]? = some s then sgAt L (p + 1) S else _) = _
      rw [if_pos h1]
      exact Cut.sg h2
/-- a whole text of letters, from p on -/
theorem let_all {L X : List Nat} {p : Nat} (h : At L p X) (hX : ∀ c ∈ X, isL c = true) (h8 : X.length ≤ 8) : letE L p = L.length ∧ subL L p L.length = X := by
  have h' : At L p (X ++ []) := by simpa using h
  obtain ⟨A, rfl, rfl⟩ := h'.split
  have e : (A ++ (X ++ [])).length = A.length + X.length := by simp
  rw [e]
  exact ⟨runE_app A X [] 8 hX h8 (.inr fun c hc => nomatch hc), subL_app A X []⟩
theorem name_all {L X : List Nat} {p : Nat} (h : At L p X) (hX : ∀ c ∈ X, isL c = true) (h8 : X.length ≤ 8) : pName L p = if isNmS (mk X) = true then .ok (mk X, L.length) else .error L.length := by
  obtain ⟨h1, h2⟩ := let_all h hX h8
  unfold pName
  rw [h1, h2]
theorem tree_let {L X : List Nat} {p n : Nat} (h : At L p X) (hX : ∀ c ∈ X, isL c = true) (h8 : X.length ≤ 8) : pTree L (n + 1) p = if isNmS (mk X) = true then .ok (.nam (mk X), L.length) else .error L.length := by
  have hh : ∀ c, L[p]? = some c → isL c = true := fun c hc => by
    rw [h.head] at hc
    cases X with
    | nil => cases hc
    | cons d r => injection hc with hc; rw [← hc]; exact hX d List.mem_cons_self
  have h40 : ¬ L[p]? = some 40 := fun z => absurd (hh 40 z) (by decide)
  have hd : ¬ (L[p]?.map isD).getD false = true := fun z => by
    cases e : L[p]? with
    | none => rw [e] at z; cases z
    | some c => rw [e] at z; have := (isL_not (hh c e)).2.2.2.2.2; rw [show isD c = true from z] at this; cases this
  rw [pTree_succ, if_neg h40, if_neg hd, (let_all h hX h8).1, if_neg (fun z => by rw [at_end] at z; exact nomatch z.1), if_neg (fun z => by rw [at_end] at z; exact nomatch z.1), name_all h hX h8]
  by_cases g : isNmS (mk X) = true
  · rw [if_pos g, if_pos g]
  · rw [if_neg g, if_neg g]
theorem num_all {L X : List Nat} {p : Nat} (h : At L p X) (hX : ∀ c ∈ X, isD c = true) (ne : X ≠ []) (h30 : X.length ≤ 30) (h0 : X.head? = some 48 → X.length = 1) : pNum L p = (((NumText.digitsVal X : Nat) : Int), L.length) ∧ (L[p]?.map isD).getD false = true ∧ ¬ L[p]? = some 40 := by
  have hl : L.length = p + X.length := by rw [← h.d, List.length_drop]; have := h.l; omega
  cases X with
  | nil => exact absurd rfl ne
  | cons c W =>
    have hh : L[p]? = some c := h.head
    have hd := hX c List.mem_cons_self
    have e : numE L p = L.length := by
      unfold numE
      by_cases h48 : c = 48
      · subst h48
        rw [if_pos hh, hl, h0 rfl]
      · rw [if_neg (fun z => h48 (by rw [hh] at z; injection z))]
        have h' : At L p ([c] ++ (W ++ [])) := by simpa using h
        have h2 := h'.next [c]
        obtain ⟨A, e1, e2⟩ := h2.split
        rw [List.length_cons] at h30 hl
        have e2 : A.length = p + 1 := e2
        have r := runE_app (P := isD) A W [] 29 (fun x hx => hX x (List.mem_cons_of_mem _ hx)) (by omega) (.inr fun c hc => nomatch hc)
        rw [← e1, e2] at r
        rw [r, hl]; omega
    refine ⟨?_, by rw [hh]; exact hd, fun z => (isD_not hd).1 (by rw [hh] at z; injection z)⟩
    unfold pNum
    rw [e]
    have : subL L p L.length = c :: W := by
      unfold subL
      rw [h.d, hl]
      exact List.take_of_length_le (by omega)
    rw [this]
theorem Cut.all {L W : List Nat} {p : Nat} (h : Cut L p W) : p = L.length ∨ ∃ X, At L p X ∧ X ≠ [] ∧ (∀ c ∈ X, c ∈ W) ∧ X.length < W.length ∧ X.head? = W.head? := by
  obtain ⟨c, h, hl, hc⟩ := h
  cases c with
  | zero => exact .inl (by omega)
  | succ c =>
    cases W with
    | nil => cases hc
    | cons x W => exact .inr ⟨_, h, by simp, fun y hy => List.mem_of_mem_take hy, by rw [List.length_take]; omega, rfl⟩
theorem tl_txt_num {n : Int} (h : 0 ≤ n ∧ n < 10 ^ 30) : ∃ k : Nat, n = k ∧ TL.tl (Fo.txt (.num n)) = TL.numL k ∧ (TL.numL k).length ≤ 30 ∧ ((TL.numL k).head? = some 48 → (TL.numL k).length = 1) := by
  obtain ⟨k, rfl, e⟩ := tl_num' h.1
  refine ⟨k, rfl, e, TL.numL_len (by decide) (by omega), fun h0 => ?_⟩
  by_cases z : k = 0
  · subst z; rw [TL.numL_lt (by decide)]; rfl
  · exact absurd rfl (numL_head k z 48 h0)
theorem Cut.name {L : List Nat} {p : Nat} {z : Str} (g : isNmS z = true) (h : Cut L p (TL.tl z)) : Ends L (pName L p) := by
  obtain ⟨lo, l1, l8⟩ := low_of g
  rw [TL.len_tl] at l8
  rcases h.all with rfl | ⟨X, hx, _, hm, hl, _⟩
  · exact .inl name_end
  · rw [name_all hx (fun c hc => low_isL lo c (hm c hc)) (by omega)]
    split
    · exact .inr ⟨_, rfl⟩
    · exact .inl rfl
theorem Cut.leaf {L : List Nat} {p : Nat} {f : Fo} (lf : f.leaf) (ok : f.Ok) (h : Cut L p (TL.tl f.txt)) : Ends L (pLeaf L p) := by
  cases f with
  | num n =>
    obtain ⟨k, rfl, e, k30, k0⟩ := tl_txt_num ok
    rw [e] at h
    rcases h.all with rfl | ⟨X, hx, ne, hm, hl, hh⟩
    · exact .inl leaf_end
    · obtain ⟨h1, h2, _⟩ := num_all hx (fun c hc => numL_isD k c (hm c hc)) ne (by omega) (fun z => by have := k0 (by rw [← hh]; exact z); have := List.length_pos_iff.mpr ne; omega)
      refine .inr ⟨.num (NumText.digitsVal X : Nat), ?_⟩
      unfold pLeaf
      rw [if_pos h2, h1]
  | nam z =>
    have h : Cut L p (TL.tl z) := h
    have e := h.name ok.1
    rcases h.all with rfl | ⟨X, hx, ne, hm, hl, hh⟩
    · exact .inl leaf_end
    · have hd : ¬ (L[p]?.map isD).getD false = true := fun w => by
        obtain ⟨lo, _, _⟩ := low_of ok.1
        cases e : L[p]? with
        | none => rw [e] at w; cases w
        | some c =>
          rw [e] at w
          rw [hx.head] at e
          have hc : c ∈ X := by cases X with | nil => cases e | cons d r => injection e with e; rw [e]; exact List.mem_cons_self
          have := (isL_not (low_isL lo c (hm c hc))).2.2.2.2.2
          rw [show isD c = true from w] at this; cases this
      unfold pLeaf
      rw [if_neg hd]
      rcases e with e | ⟨w, e⟩
      · rw [e]; exact .inl rfl
      · rw [e]; exact .inr ⟨_, rfl⟩
  | _ => exact lf.elim
theorem Cut.sh {L : List Nat} {p n : Nat} (hn : n ≤ 64) (h : Cut L p (TL.numL n ++ [41])) : Ends L (pShift L p) := by
  obtain ⟨f1, f2, f3, f4⟩ := sh_facts ⟨n, by omega⟩
  obtain ⟨c, h, hl, hc⟩ := h
  rw [List.length_append] at hc
  have hc : c ≤ (TL.numL n).length := by have : [41].length = 1 := rfl; omega
  rw [List.take_append_of_le_length hc] at h
  have sub : ∀ e, subL L p (p + e) = ((TL.numL n).take c).take e := fun e => by
    unfold subL
    rw [h.d]; simp
  have f2 : TL.numL n ∈ (List.range 65).map TL.numL := f2
  have f1 : (TL.numL n).take 1 ∈ (List.range 65).map TL.numL := f1
  have f4 : (TL.numL n).length = 1 ∨ (TL.numL n).length = 2 := f4
  have key : shE L p 3 p = L.length := by
    rw [hl]
    have c2 : c = 0 ∨ c = 1 ∨ c = 2 := by omega
    rcases c2 with rfl | rfl | rfl
    · show (if p < L.length ∧ _ then _ else p) = p
      rw [if_neg (fun z => by have := z.1; omega)]
    · show (if p < L.length ∧ subL L p (p + 1) ∈ _ then (if p + 1 < L.length ∧ _ then _ else p + 1) else p) = p + 1
      rw [if_pos ⟨by omega, by rw [sub, List.take_take]; exact f1⟩, if_neg (fun z => by have := z.1; omega)]
    · have e2 : (TL.numL n).take 2 = TL.numL n := List.take_of_length_le (by omega)
      show (if p < L.length ∧ subL L p (p + 1) ∈ _ then (if p + 1 < L.length ∧ subL L p (p + 1 + 1) ∈ _ then (if p + 1 + 1 < L.length ∧ _ then _ else p + 1 + 1) else p + 1) else p) = p + 2
      rw [if_pos ⟨by omega, by rw [sub, e2]; exact f1⟩, if_pos ⟨by omega, by rw [Nat.add_assoc, sub, e2, e2]; exact f2⟩, if_neg (fun z => by have := z.1; omega)]
  unfold pShift
  rw [key]
  by_cases e : L.length = p
  · rw [if_pos e, ← e]; exact .inl rfl
  · rw [if_neg e]; exact .inr ⟨_, rfl⟩

end
end KM
set_option Elab.async false
set_option linter.all false
set_option maxRecDepth 100000
set_option maxHeartbeats 8000000
namespace KM
open PySem PySem.Spec PyProof.Rows L2 He Sw L2H
section
variable {P : Program} {w : World} {K : PySem.W.Frag} {mg : Str → Option Value} {base : Heap}
theorem rest_end {L : List Nat} {n : Nat} {w : Str} {fs : List Fo} {k : Nat} : pRest L n w fs k L.length = .error L.length := by
  rw [pRest_end (.inr (by rw [at_end]; exact fun z => nomatch z)), sg_end']
  rfl
def Wd (X : List Nat) : Prop := X ≠ [] ∧ ((∀ c ∈ X, isD c = true) ∨ ∀ c ∈ X, isL c = true)
theorem Stop.of {R W : List Nat} (h : ∀ c, R.head? = some c → W.head? = some c) (s : Stop W) : Stop R := fun c hc => s c (h c hc)
theorem ends_of {L : List Nat} {r : Except Nat (Fo × Nat)} {P : Prop} (h : r = .error L.length ∨ ((∃ g, r = .ok (g, L.length)) ∧ P)) : Ends L r := h.imp id fun h => h.1
mutual
theorem tree_cutP : ∀ f : Fo, f.Pre → ∀ {L : List Nat} {p n : Nat}, f.depth ≤ n → Cut L p (TL.tl f.txt) → pTree L n p = .error L.length ∨ ((∃ g, pTree L n p = .ok (g, L.length)) ∧ Wd (L.drop p))
  | f, ok, L, p, 0, hn, _ => absurd hn (Nat.not_le_of_lt (Fo.depth_pos f))
  | .num i, ok, L, p, n + 1, hn, h => by
    simp only [Fo.Pre] at ok
    obtain ⟨k, rfl, e, k30, k0⟩ := tl_txt_num ok
    rw [e] at h
    rcases h.all with rfl | ⟨X, hx, ne, hm, hl, hh⟩
    · exact .inl tree_end
    · have hd : ∀ c ∈ X, isD c = true := fun c hc => numL_isD k c (hm c hc)
      obtain ⟨h1, h2, h3⟩ := num_all hx hd ne (by omega) (fun z => by have := k0 (by rw [← hh]; exact z); have := List.length_pos_iff.mpr ne; omega)
      refine .inr ⟨⟨.num (NumText.digitsVal X : Nat), ?_⟩, by rw [hx.d]; exact ⟨ne, .inl hd⟩⟩
      rw [pTree_succ, if_neg h3, if_pos h2, h1]
  | .nam z, ok, L, p, n + 1, hn, h => by
    simp only [Fo.Pre] at ok
    have h : Cut L p (TL.tl z) := h
    obtain ⟨lo, l1, l8⟩ := low_of ok.1
    rw [TL.len_tl] at l8
    rcases h.all with rfl | ⟨X, hx, ne, hm, hl, hh⟩
    · exact .inl tree_end
    · have hL : ∀ c ∈ X, isL c = true := fun c hc => low_isL lo c (hm c hc)
      rw [tree_let hx hL (by omega)]
      split
      · exact .inr ⟨⟨_, rfl⟩, by rw [hx.d]; exact ⟨ne, .inr hL⟩⟩
      · exact .inl rfl
  | .neg f, ok, L, p, n + 1, hn, h => by
    simp only [Fo.Pre] at ok
    rw [dps_neg] at hn
    obtain ⟨m, rfl⟩ : ∃ m, n = m + 1 := ⟨n - 1, by have := Fo.depth_pos f; omega⟩
    have e : TL.tl (Fo.neg f).txt = 40 :: ([45, 32] ++ (TL.tl f.txt ++ [41])) := by simp only [Fo.txt, TL.tl_append, tl1, tl4]; simp
    rw [e] at h
    refine .inl ?_
    rcases h.cons with rfl | ⟨h0, h⟩
    · exact tree_end
    rw [pTree_succ, if_pos h0]
    unfold pOp
    rcases h.cons with hp | ⟨h1, _⟩
    · rw [if_neg (by rw [hp, at_end]; exact fun z => nomatch z)]
      show (pTree L (m + 1) (p + 1) >>= _) = _
      rw [hp, tree_end]; rfl
    rw [if_pos h1]
    show (sgAt L (p + 1) [45, 32] >>= _) = _
    rcases h.split with h | ⟨R, ha, hr, h⟩
    · rw [h.sg]; rfl
    rw [ha.sg]
    show (pTree L (m + 1) (p + 1 + [45, 32].length) >>= _) = _
    rcases h.split with h2 | ⟨R2, ha2, hr2, h2⟩
    · exact (ends_of (tree_cutP f ok (by omega) h2)).bind fun g => by show (sgAt L L.length [41] >>= _) = _; rw [sg_end']; rfl
    rw [pTree_okP f ok (by omega) ha2 (fun _ => Stop.of hr2 (stop41 []))]
    show (sgAt L (p + 1 + [45, 32].length + (TL.tl f.txt).length) [41] >>= _) = _
    rw [h2.sg]; rfl
  | .shl f i, ok, L, p, n + 1, hn, h => by
    rw [dps_shl] at hn
    simp only [Fo.Pre] at ok
    obtain ⟨k, rfl⟩ := Int.eq_ofNat_of_zero_le ok.1
    obtain ⟨m, rfl⟩ : ∃ m, n = m + 1 := ⟨n - 1, by have := Fo.depth_pos f; omega⟩
    have e : TL.tl (Fo.shl f (k : Int)).txt = 40 :: (TL.tl f.txt ++ ([32] ++ ([60, 60, 32] ++ (TL.numL k ++ [41])))) := by simp only [Fo.txt, TL.tl_append, tl2, tl3, tl4, show TL.tl (Str.ofString (toString ((k : Nat) : Int))) = TL.numL k from TL.tl_num k]; simp
    rw [e] at h
    refine .inl ?_
    rcases h.cons with rfl | ⟨h0, h⟩
    · exact tree_end
    have h45 : ¬ L[p + 1]? = some 45 := by
      obtain ⟨c, hc, nc⟩ := txt_headP f ok.2.2
      cases ef : TL.tl f.txt with
      | nil => rw [ef] at hc; cases hc
      | cons d r =>
        rw [ef] at hc h
        injection hc with hc
        subst hc
        rcases h.cons with hp | ⟨h1, _⟩
        · rw [hp, at_end]; exact fun z => nomatch z
        · rw [h1]; exact fun z => nc (by injection z)
    rw [pTree_succ, if_pos h0]
    unfold pOp
    rw [if_neg h45]
    show (pTree L (m + 1) (p + 1) >>= _) = _
    rcases h.split with h2 | ⟨R2, ha2, hr2, h2⟩
    · exact (ends_of (tree_cutP f ok.2.2 (by omega) h2)).bind fun g => by show (sgAt L L.length [32] >>= _) = _; rw [sg_end']; rfl
    rw [pTree_okP f ok.2.2 (by omega) ha2 (fun _ => Stop.of hr2 (stop32 _))]
    show (sgAt L (p + 1 + (TL.tl f.txt).length) [32] >>= _) = _
    rcases h2.split with h3 | ⟨R3, ha3, hr3, h3⟩
    · rw [h3.sg]; rfl
    rw [ha3.sg]
    show (if L[p + 1 + (TL.tl f.txt).length + [32].length]? = some 60 then _ else _) = _
    rcases h3.cons with hp | ⟨h4, _⟩
    · rw [hp, if_neg (by rw [at_end]; exact fun z => nomatch z), at_end]; rfl
    rw [if_pos h4]
    show (sgAt L (p + 1 + (TL.tl f.txt).length + [32].length) [60, 60, 32] >>= _) = _
    rcases h3.split with h5 | ⟨R5, ha5, hr5, h5⟩
    · rw [h5.sg]; rfl
    rw [ha5.sg]
    show (pShift L (p + 1 + (TL.tl f.txt).length + [32].length + [60, 60, 32].length) >>= _) = _
    exact (h5.sh (by omega)).bind fun g => by show (sgAt L L.length [41] >>= _) = _; rw [sg_end']; rfl
  | .bin o f g, ok, L, p, n + 1, hn, h => by
    rw [dps_bin] at hn
    simp only [Fo.Pre] at ok
    obtain ⟨m, rfl⟩ : ∃ m, n = m + 1 := ⟨n - 1, by have := Fo.depth_pos f; omega⟩
    have e : TL.tl (Fo.bin o f g).txt = 40 :: (TL.tl f.txt ++ ([32] ++ (o.sgn :: ([32] ++ (TL.tl g.txt ++ [41]))))) := by simp only [Fo.txt, TL.tl_append, tl2, tl4, o.sg_tl]; simp
    rw [e] at h
    refine .inl ?_
    rcases h.cons with rfl | ⟨h0, h⟩
    · exact tree_end
    have h45 : ¬ L[p + 1]? = some 45 := by
      obtain ⟨c, hc, nc⟩ := txt_headP f ok.1
      cases ef : TL.tl f.txt with
      | nil => rw [ef] at hc; cases hc
      | cons d r =>
        rw [ef] at hc h
        injection hc with hc
        subst hc
        rcases h.cons with hp | ⟨h1, _⟩
        · rw [hp, at_end]; exact fun z => nomatch z
        · rw [h1]; exact fun z => nc (by injection z)
    rw [pTree_succ, if_pos h0]
    unfold pOp
    rw [if_neg h45]
    show (pTree L (m + 1) (p + 1) >>= _) = _
    rcases h.split with h2 | ⟨R2, ha2, hr2, h2⟩
    · exact (ends_of (tree_cutP f ok.1 (by omega) h2)).bind fun g => by show (sgAt L L.length [32] >>= _) = _; rw [sg_end']; rfl
    rw [pTree_okP f ok.1 (by omega) ha2 (fun _ => Stop.of hr2 (stop32 _))]
    show (sgAt L (p + 1 + (TL.tl f.txt).length) [32] >>= _) = _
    rcases h2.split with h3 | ⟨R3, ha3, hr3, h3⟩
    · rw [h3.sg]; rfl
    rw [ha3.sg]
    show (if L[p + 1 + (TL.tl f.txt).length + [32].length]? = some 60 then _ else _) = _
    obtain ⟨b1, b2⟩ := b3_sgn o
    rcases h3.cons with hp | ⟨h4, h5⟩
    · rw [hp, if_neg (by rw [at_end]; exact fun z => nomatch z), at_end]; rfl
    rw [if_neg (by rw [h4]; exact fun z => b2 (by injection z)), h4]
    show (match b3Of o.sgn with | none => _ | some o => _) = _
    rw [b1]
    show (sgAt L (p + 1 + (TL.tl f.txt).length + [32].length + 1) [32] >>= _) = _
    rcases h5.split with h6 | ⟨R6, ha6, hr6, h6⟩
    · rw [h6.sg]; rfl
    rw [ha6.sg]
    show (pTree L (m + 1) (p + 1 + (TL.tl f.txt).length + [32].length + 1 + [32].length) >>= _) = _
    rcases h6.split with h7 | ⟨R7, ha7, hr7, h7⟩
    · exact (ends_of (tree_cutP g ok.2 (by omega) h7)).bind fun g => by show (sgAt L L.length [41] >>= _) = _; rw [sg_end']; rfl
    rw [pTree_okP g ok.2 (by omega) ha7 (fun _ => Stop.of hr7 (stop41 _))]
    show (sgAt L (p + 1 + (TL.tl f.txt).length + [32].length + 1 + [32].length + (TL.tl g.txt).length) [41] >>= _) = _
    rw [h7.sg]; rfl
  | .sum i b f, ok, L, p, n + 1, hn, h => by
    rw [dps_sum] at hn
    simp only [Fo.Pre] at ok
    obtain ⟨gi, lb, ob, of⟩ := ok
    have e : TL.tl (Fo.sum i b f).txt = [115, 117, 109] ++ (40 :: (TL.tl i ++ ([44, 32] ++ (TL.tl b.txt ++ ([44, 32] ++ (TL.tl f.txt ++ [41])))))) := by simp only [Fo.txt, TL.tl_append, tl6, tl5, tl4]; simp
    rw [e] at h
    have sL : ∀ c ∈ [115, 117, 109], isL c = true := by decide
    have letters : ∀ {X : List Nat}, At L p X → X ≠ [] → (∀ c ∈ X, isL c = true) → X.length ≤ 8 → pTree L (n + 1) p = .error L.length ∨ ((∃ g, pTree L (n + 1) p = .ok (g, L.length)) ∧ Wd (L.drop p)) := fun {X} hx ne hL h8 => by
      rw [tree_let hx hL h8]
      split
      · exact .inr ⟨⟨_, rfl⟩, by rw [hx.d]; exact ⟨ne, .inr hL⟩⟩
      · exact .inl rfl
    rcases h.split with h1 | ⟨R, ha, hr, h1⟩
    · rcases h1.all with rfl | ⟨X, hx, ne, hm, hl, hh⟩
      · exact .inl tree_end
      · exact letters hx ne (fun c hc => sL c (hm c hc)) (Nat.le_trans (Nat.le_of_lt hl) (by decide))
    rcases h1.cons with hp | ⟨h2, h3⟩
    · have hR : R = [] := by
        have := ha.next [115, 117, 109]
        have := this.d
        rw [hp, List.drop_length] at this
        exact this.symm
      rw [hR, List.append_nil] at ha
      exact letters ha (fun z => nomatch z) sL (by decide)
    refine .inl ?_
    have h0 : L[p]? = some 115 := ha.head
    have le : letE L p = p + [115, 117, 109].length ∧ mk (subL L p (p + [115, 117, 109].length)) = "sum" := by
      obtain ⟨A, rfl, rfl⟩ := ha.split
      exact ⟨runE_app A [115, 117, 109] _ 8 (by decide) (by decide) (.inr fun c hc => by have := hr c hc; injection this with this; subst this; decide), by rw [subL_app]; decide +kernel⟩
    rw [pTree_succ, if_neg (by rw [h0]; decide), if_neg (by rw [h0]; decide), le.1, if_pos ⟨h2, le.2⟩]
    show (pName L (p + [115, 117, 109].length + 1) >>= _) = _
    rcases h3.split with h4 | ⟨R4, ha4, hr4, h4⟩
    · exact (h4.name gi.1).bind fun g => by show (sgAt L L.length [44, 32] >>= _) = _; rw [sg_end']; rfl
    obtain ⟨_, _, t1⟩ := ha4.nm gi.1 (fun c hc => (stop_not (Stop.of hr4 (stop44 _)) c hc).1)
    rw [t1]
    show (sgAt L (p + [115, 117, 109].length + 1 + (TL.tl i).length) [44, 32] >>= _) = _
    rcases h4.split with h5 | ⟨R5, ha5, hr5, h5⟩
    · rw [h5.sg]; rfl
    rw [ha5.sg]
    show (pLeaf L (p + [115, 117, 109].length + 1 + (TL.tl i).length + [44, 32].length) >>= _) = _
    rcases h5.split with h6 | ⟨R6, ha6, hr6, h6⟩
    · exact (h6.leaf lb ob).bind fun g => by show (sgAt L L.length [44, 32] >>= _) = _; rw [sg_end']; rfl
    rw [pLeaf_ok lb ob ha6 (Stop.of hr6 (stop44 _))]
    show (sgAt L (p + [115, 117, 109].length + 1 + (TL.tl i).length + [44, 32].length + (TL.tl b.txt).length) [44, 32] >>= _) = _
    rcases h6.split with h7 | ⟨R7, ha7, hr7, h7⟩
    · rw [h7.sg]; rfl
    rw [ha7.sg]
    show (pTree L n (p + [115, 117, 109].length + 1 + (TL.tl i).length + [44, 32].length + (TL.tl b.txt).length + [44, 32].length) >>= _) = _
    rcases h7.split with h8 | ⟨R8, ha8, hr8, h8⟩
    · exact (ends_of (tree_cutP f of (by omega) h8)).bind fun g => by show (sgAt L L.length [41] >>= _) = _; rw [sg_end']; rfl
    rw [pTree_okP f of (by omega) ha8 (fun _ => Stop.of hr8 (stop41 _))]
    show (sgAt L (p + [115, 117, 109].length + 1 + (TL.tl i).length + [44, 32].length + (TL.tl b.txt).length + [44, 32].length + (TL.tl f.txt).length) [41] >>= _) = _
    rw [h8.sg]; rfl
  | .call z [], ok, L, p, n + 1, hn, h => by
    simp only [Fo.Pre] at ok
    exact absurd ok.2.1 (by decide)
  | .call z (f :: fs), ok, L, p, n + 1, hn, h => by
    rw [dps_call] at hn
    simp only [Fo.Pre] at ok
    obtain ⟨gz, _, n4, of⟩ := ok
    rw [Fo.depthL] at hn
    obtain ⟨lo, l1, l8⟩ := low_of gz.1
    rw [TL.len_tl] at l8
    have e : TL.tl (Fo.call z (f :: fs)).txt = TL.tl z ++ (40 :: (TL.tl f.txt ++ (moreL fs ++ [41]))) := by rw [Fo.txt, TL.tl_append, TL.tl_append, TL.tl_append, join_more, tl2, tl4]; simp
    rw [e] at h
    have letters : ∀ {X : List Nat}, At L p X → X ≠ [] → (∀ c ∈ X, isL c = true) → X.length ≤ 8 → pTree L (n + 1) p = .error L.length ∨ ((∃ g, pTree L (n + 1) p = .ok (g, L.length)) ∧ Wd (L.drop p)) := fun {X} hx ne hL h8 => by
      rw [tree_let hx hL h8]
      split
      · exact .inr ⟨⟨_, rfl⟩, by rw [hx.d]; exact ⟨ne, .inr hL⟩⟩
      · exact .inl rfl
    obtain ⟨c, hc1, hc2⟩ := nm_head gz.1
    have zne : TL.tl z ≠ [] := fun w => by rw [w] at hc1; cases hc1
    rcases h.split with h1 | ⟨R, ha, hr, h1⟩
    · rcases h1.all with rfl | ⟨X, hx, ne, hm, hl, hh⟩
      · exact .inl tree_end
      · exact letters hx ne (fun c hc => low_isL lo c (hm c hc)) (by omega)
    rcases h1.cons with hp | ⟨h2, h3⟩
    · have hR : R = [] := by
        have := (ha.next (TL.tl z)).d
        rw [hp, List.drop_length] at this
        exact this.symm
      rw [hR, List.append_nil] at ha
      exact letters ha zne (low_isL lo) l8
    refine .inl ?_
    obtain ⟨g1, g2, _⟩ := ha.nm gz.1 (fun c hc => by have := hr c hc; injection this with this; subst this; decide)
    have hh : L[p]? = some c := by
      rw [ha.head]
      cases e : TL.tl z with
      | nil => exact absurd e zne
      | cons d W => rw [e] at hc1; exact hc1
    have ns : ¬ z = "sum" := fun e => by
      have g := gz.1
      rw [e] at g
      exact absurd g (by decide +kernel)
    rw [pTree_succ, if_neg (by rw [hh]; exact fun w => (isL_not hc2).1 (by injection w)), if_neg (by rw [hh]; show ¬ (isD c = true); rw [(isL_not hc2).2.2.2.2.2]; decide), g1, if_neg (fun q => ns (g2.symm.trans q.2)), if_pos ⟨h2, by rw [g2]; exact gz.1⟩, pCallA_eq]
    rcases h3.split with h4 | ⟨R4, ha4, hr4, h4⟩
    · exact (ends_of (tree_cutP f of.1 (by omega) h4)).bind fun g => rest_end
    have st : Stop (moreL fs ++ [41]) := by
      cases fs with
      | nil => exact stop41 []
      | cons g gs => exact stop44 _
    rw [pTree_okP f of.1 (by omega) ha4 (fun _ => Stop.of hr4 st)]
    exact rest_cutP fs of.2 (by omega) (by rw [List.length_cons] at n4; omega) h4
theorem rest_cutP : ∀ fs : List Fo, Fo.PreL fs → ∀ {L : List Nat} {e n k : Nat} {w : Str} {gs : List Fo}, Fo.depthL fs ≤ n → fs.length ≤ k → Cut L e (moreL fs ++ [41]) → pRest L n w gs k e = .error L.length
  | [], ok, L, e, n, k, w, gs, _, _, h => by
    have h : Cut L e [41] := h
    rw [h.one]; exact rest_end
  | f :: fs, ok, L, e, n, 0, w, gs, hn, hk, h => absurd hk (by simp)
  | f :: fs, ok, L, e, n, k + 1, w, gs, hn, hk, h => by
    rw [Fo.depthL] at hn
    have e0 : moreL (f :: fs) ++ [41] = [44, 32] ++ (TL.tl f.txt ++ (moreL fs ++ [41])) := by rw [moreL]; simp
    rw [e0] at h
    rcases Cut.cons (x := 44) h with hp | ⟨h1, _⟩
    · rw [hp]; exact rest_end
    rw [pRest_go h1]
    rcases h.split with h2 | ⟨R, ha, hr, h2⟩
    · rw [h2.sg]; rfl
    rw [ha.sg]
    show (pTree L n (e + [44, 32].length) >>= _) = _
    have st : Stop (moreL fs ++ [41]) := by
      cases fs with
      | nil => exact stop41 []
      | cons g gs => exact stop44 _
    rcases h2.split with h3 | ⟨R3, ha3, hr3, h3⟩
    · exact (ends_of (tree_cutP f ok.1 (by omega) h3)).bind fun g => rest_end
    rw [pTree_okP f ok.1 (by omega) ha3 (fun _ => Stop.of hr3 st)]
    exact rest_cutP fs ok.2 (by omega) (by rw [List.length_cons] at hk; omega) h3
end
theorem tree_cut (f : Fo) (ok : f.Ok) {L : List Nat} {p n : Nat} (hn : f.depth ≤ n) (h : Cut L p (TL.tl f.txt)) : pTree L n p = .error L.length ∨ ((∃ g, pTree L n p = .ok (g, L.length)) ∧ Wd (L.drop p)) := tree_cutP f ok.pre hn h

end
end KM
set_option Elab.async false
set_option linter.all false
set_option maxRecDepth 100000
set_option maxHeartbeats 8000000
namespace KM
open PySem PySem.Spec PyProof.Rows L2 He Sw L2H
section
variable {P : Program} {w : World} {K : PySem.W.Frag} {mg : Str → Option Value} {base : Heap}
local macro_rules | `(tactic| row_room_at ne) => `(tactic| with_reducible assumption)
local macro_rules | `(tactic| row_room_at hp) => `(tactic| (apply SameBut.use; with_reducible assumption; rotate_left; row_room_at hp; row_room_at ne))
local macro_rules | `(tactic| row_room_at hp) => `(tactic| (apply FoAt.same; rotate_left; with_reducible assumption; row_room_at hp))
local macro_rules | `(tactic| row_room_at hp) => `(tactic| (apply Sw.Same.use; with_reducible assumption; row_room_at hp))
local macro_rules | `(tactic| row_room_at hp) => `(tactic| (apply SqT.of; row_room_at hp))
local macro_rules | `(tactic| row_room_at hp) => `(tactic| (apply SqL.of; row_room_at hp))
local macro_rules | `(tactic| row_room_at hp) => `(tactic| with_reducible assumption)
local macro_rules | `(tactic| row_room_at ati) => `(tactic| first | with_reducible assumption | rfl | (apply atI_nat; rfl))
local macro_rules | `(tactic| row_room_at cc) => `(tactic| first | with_reducible assumption | omega | decide | (refine ⟨?_, ?_⟩ <;> first | decide | omega) | (refine ⟨?_, ?_, ?_⟩ <;> first | decide | omega) | (left; refine ⟨?_, ?_⟩ <;> first | decide | omega) | (right; refine ⟨?_, ?_⟩ <;> first | decide | omega))
local macro_rules | `(tactic| row_room_at rdts) => `(tactic| with_reducible apply rd_retN)
local macro_rules | `(tactic| row_room_at rdts) => `(tactic| with_reducible apply rd_cont)
local macro_rules | `(tactic| row_room_at rdts) => `(tactic| with_reducible apply rd_brk)
local macro_rules | `(tactic| row_room_at rdts) => `(tactic| with_reducible apply rd_dput)
local macro_rules | `(tactic| row_room_at rdts) => `(tactic| with_reducible apply rd_drop)
local macro_rules | `(tactic| row_room_at rdts) => `(tactic| with_reducible apply rd_for)
local macro_rules | `(tactic| row_room_at rdts) => `(tactic| with_reducible apply rd_ret)
local macro_rules | `(tactic| row_room_at rdts) => `(tactic| with_reducible apply rd_next)
local macro_rules | `(tactic| row_room_at rdts) => `(tactic| with_reducible apply rd_ifS)
local macro_rules | `(tactic| row_room_at rdts) => `(tactic| with_reducible apply rd_asg)
local macro_rules | `(tactic| row_room_at rdts) => `(tactic| with_reducible refine rd_seqN fun _ _ => ?_)
local macro_rules | `(tactic| row_room_at rdit) => `(tactic| with_reducible refine rd_iteNF (by with_unfolding_all decide +kernel) ?_)
local macro_rules | `(tactic| row_room_at rdit) => `(tactic| with_reducible refine rd_iteNT (by with_unfolding_all decide +kernel) ?_)
local macro_rules | `(tactic| row_room_at rdit) => `(tactic| with_reducible apply rd_iteN0)
local macro_rules | `(tactic| row_room_at rdit) => `(tactic| with_reducible apply rd_iteN1)
local macro_rules | `(tactic| row_room_at rdit) => `(tactic| with_reducible apply rd_ite1)
local macro_rules | `(tactic| row_room_at rdit) => `(tactic| with_reducible apply rd_ite0)
local macro_rules | `(tactic| row_room_at rdit) => `(tactic| with_reducible refine rd_iteT (by with_unfolding_all decide +kernel) ?_)
local macro_rules | `(tactic| row_room_at rdit) => `(tactic| with_reducible refine rd_iteF (by with_unfolding_all decide +kernel) ?_)
local macro_rules | `(tactic| row_room_at rdex) => `(tactic| with_reducible apply rd_inS)
local macro_rules | `(tactic| row_room_at rdex) => `(tactic| with_reducible apply rd_min2)
local macro_rules | `(tactic| row_room_at rdex) => `(tactic| with_reducible apply rd_1S)
local macro_rules | `(tactic| row_room_at rdex) => `(tactic| with_reducible apply rd_2S)
local macro_rules | `(tactic| row_room_at rdex) => `(tactic| with_reducible refine rd_fld' (by with_unfolding_all row_room_at hp) (by with_unfolding_all assumption) (by with_unfolding_all assumption) (by with_unfolding_all rfl) ?_)
local macro_rules | `(tactic| row_room_at rdex) => `(tactic| with_reducible refine rd_ty (by with_unfolding_all row_room_at hp) ?_)
local macro_rules | `(tactic| row_room_at rdex) => `(tactic| with_reducible refine rd_itup' (by with_unfolding_all row_room_at hp) ?_)
local macro_rules | `(tactic| row_room_at rdex) => `(tactic| with_reducible refine rd_ilist' (by with_unfolding_all row_room_at hp) ?_)
local macro_rules | `(tactic| row_room_at rdex) => `(tactic| with_reducible apply rd_1B)
local macro_rules | `(tactic| row_room_at rdex) => `(tactic| with_reducible refine rd_dgetS (by with_unfolding_all row_room_at hp) (by with_unfolding_all assumption) ?_)
local macro_rules | `(tactic| row_room_at rdex) => `(tactic| with_reducible refine rd_dget' (by with_unfolding_all row_room_at hp) (by with_unfolding_all rfl) (by with_unfolding_all assumption) ?_)
local macro_rules | `(tactic| row_room_at rdex) => `(tactic| with_reducible refine rd_len (by with_unfolding_all first | exact .inl (by row_room_at hp) | exact .inr (by row_room_at hp)) ?_)
local macro_rules | `(tactic| row_room_at rdex) => `(tactic| with_reducible refine rd_lenQ (by with_unfolding_all first | exact .inl (by row_room_at hp) | exact .inr (by row_room_at hp)) ?_)
local macro_rules | `(tactic| row_room_at rdex) => `(tactic| with_reducible apply rd_2I)
local macro_rules | `(tactic| row_room_at rdex) => `(tactic| with_reducible refine rd_b62 (by with_unfolding_all first | decide | (constructor <;> omega)) ?_)
local macro_rules | `(tactic| row_room_at rdex) => `(tactic| with_reducible refine rd_lenS (by with_unfolding_all omega) ?_)
local macro_rules | `(tactic| row_room_at rdex) => `(tactic| with_reducible apply rd_1I)
local macro_rules | `(tactic| row_room_at rdex) => `(tactic| with_reducible apply rd_int1)
local macro_rules | `(tactic| row_room_at rdex) => `(tactic| with_reducible apply rd_iv)
local macro_rules | `(tactic| row_room_at rdex) => `(tactic| with_reducible refine rd_sz (by with_unfolding_all first | decide | (simp only [List.length_append, List.length_map, List.length_cons, List.length_nil, List.length_take]; omega)) ?_)
local macro_rules | `(tactic| row_room_at rdex) => `(tactic| with_reducible apply rd_bl)
local macro_rules | `(tactic| row_room_at rdhd) => `(tactic| with_reducible apply rd_m1)
local macro_rules | `(tactic| row_room_at rdhd) => `(tactic| with_reducible apply rd_fld)
local macro_rules | `(tactic| row_room_at rdhd) => `(tactic| with_reducible refine rd_append (by with_unfolding_all row_room_at hp) (by with_unfolding_all first | decide | (simp only [List.length_append, List.length_map, List.length_cons, List.length_nil]; omega)) ?_)
local macro_rules | `(tactic| row_room_at rdhd) => `(tactic| with_reducible apply rd_bm)
local macro_rules | `(tactic| row_room_at rdhd) => `(tactic| with_reducible apply rd_yes)
local macro_rules | `(tactic| row_room_at rdhd) => `(tactic| with_reducible apply rd_lc)
local macro_rules | `(tactic| row_room_at rdhd) => `(tactic| with_reducible apply rd_itup)
local macro_rules | `(tactic| row_room_at rdhd) => `(tactic| with_reducible apply rd_ilist)
local macro_rules | `(tactic| row_room_at rdhd) => `(tactic| with_reducible refine rd_dictK (by with_unfolding_all row_room_at hp) ?_)
local macro_rules | `(tactic| row_room_at rdhd) => `(tactic| with_reducible refine rd_lenK (by with_unfolding_all first | exact .inl (by row_room_at hp) | exact .inr (by row_room_at hp)) ?_)
local macro_rules | `(tactic| row_room_at rdhd) => `(tactic| with_reducible apply rd_methI)
local macro_rules | `(tactic| row_room_at rdhd) => `(tactic| with_reducible apply rd_dget)
local macro_rules | `(tactic| row_room_at rdhd) => `(tactic| with_reducible apply rd_if)
local macro_rules | `(tactic| row_room_at rdhd) => `(tactic| with_reducible apply rd_notV)
local macro_rules | `(tactic| row_room_at rdhd) => `(tactic| with_reducible apply rd_orV)
local macro_rules | `(tactic| row_room_at rdhd) => `(tactic| with_reducible apply rd_andV)
local macro_rules | `(tactic| row_room_at rdhd) => `(tactic| with_reducible apply rd_U)
local macro_rules | `(tactic| row_room_at rdhd) => `(tactic| with_reducible apply rd_un)
local macro_rules | `(tactic| row_room_at rdhd) => `(tactic| with_reducible refine rd_cat (by with_unfolding_all row_room_at hp) (by with_unfolding_all row_room_at hp) (by with_unfolding_all first | decide | (simp only [List.length_append, List.length_map, List.length_cons, List.length_nil, List.length_take]; omega)) ?_)
local macro_rules | `(tactic| row_room_at rdhd) => `(tactic| with_reducible refine rd_slL (by with_unfolding_all row_room_at hp) ?_)
local macro_rules | `(tactic| row_room_at rdhd) => `(tactic| with_reducible apply rd_nopart)
local macro_rules | `(tactic| row_room_at rdhd) => `(tactic| with_reducible apply rd_make)
local macro_rules | `(tactic| row_room_at rdhd) => `(tactic| with_reducible apply rd_kt)
local macro_rules | `(tactic| row_room_at rdhd) => `(tactic| with_reducible apply rd_rng1)
local macro_rules | `(tactic| row_room_at rdhd) => `(tactic| with_reducible refine rd_ne (by with_unfolding_all rfl) ?_)
local macro_rules | `(tactic| row_room_at rdhd) => `(tactic| with_reducible apply rd_and)
local macro_rules | `(tactic| row_room_at rdhd) => `(tactic| with_reducible apply rd_B)
local macro_rules | `(tactic| row_room_at rdhd) => `(tactic| with_reducible apply rd_not)
local macro_rules | `(tactic| row_room_at rdhd) => `(tactic| with_reducible refine rd_ixL (by with_unfolding_all row_room_at hp) (by with_unfolding_all row_room_at ati) ?_)
local macro_rules | `(tactic| row_room_at rdhd) => `(tactic| with_reducible apply rd_gNil)
local macro_rules | `(tactic| row_room_at rdhd) => `(tactic| with_reducible refine rd_gTup (by with_unfolding_all (apply SqT.of; row_room_at hp)) (by with_unfolding_all rfl) ?_)
local macro_rules | `(tactic| row_room_at rdhd) => `(tactic| with_reducible apply rd_sl)
local macro_rules | `(tactic| row_room_at rdhd) => `(tactic| with_reducible refine rd_I (by with_unfolding_all row_room_at cc) ?_)
local macro_rules | `(tactic| row_room_at rdhd) => `(tactic| with_reducible apply rd_or)
local macro_rules | `(tactic| row_room_at rdhd) => `(tactic| with_reducible apply rd_lst)
local macro_rules | `(tactic| row_room_at rdhd) => `(tactic| with_reducible apply rd_gCons)
local macro_rules | `(tactic| row_room_at rdhd) => `(tactic| with_reducible apply rd_part)
local macro_rules | `(tactic| row_room_at rdhd) => `(tactic| with_reducible apply rd_tup)
local macro_rules | `(tactic| row_room_at rdhd) => `(tactic| with_reducible apply rd_I0)
local macro_rules | `(tactic| row_room_at rdhd) => `(tactic| with_reducible apply rd_CB)
local macro_rules | `(tactic| row_room_at rdhd) => `(tactic| with_reducible refine rd_ixT (by with_unfolding_all row_room_at hp) (by with_unfolding_all row_room_at ati) ?_)
local macro_rules | `(tactic| row_room_at rdhd) => `(tactic| with_reducible refine rd_eq (by with_unfolding_all rfl) ?_)
local macro_rules | `(tactic| row_room_at rdhd) => `(tactic| with_reducible apply rd_call)
local macro_rules | `(tactic| row_room_at rdhd) => `(tactic| with_reducible apply rd_gName)
local macro_rules | `(tactic| row_room_at rdhd) => `(tactic| with_reducible apply rd_test)
local macro_rules | `(tactic| row_room_at rdhd) => `(tactic| with_reducible apply rd_cons)
local macro_rules | `(tactic| row_room_at rdhd) => `(tactic| with_reducible apply rd_consC)
local macro_rules | `(tactic| row_room_at rdhd) => `(tactic| with_reducible refine rd_consV (by with_unfolding_all rfl) ?_)
local macro_rules | `(tactic| row_room_at rdhd) => `(tactic| with_reducible apply rd_nil)
local macro_rules | `(tactic| row_room_at rdhd) => `(tactic| with_reducible apply rd_c)
local macro_rules | `(tactic| row_room_at rdhd) => `(tactic| with_reducible refine rd_var (by with_unfolding_all rfl) ?_)
local macro_rules | `(tactic| row_room_at rdhd) => `(tactic| with_reducible apply rd_op)
local macro_rules | `(tactic| row_room_at rdsz) => `(tactic| with_reducible refine rd_sz (by with_unfolding_all first | decide | (simp only [List.length_append, List.length_map, List.length_cons, List.length_nil, List.length_take]; omega)) ?_)
local macro_rules | `(tactic| row_room_at rd1) => `(tactic| with_reducible refine rd_unN (by with_reducible assumption) ?_)
local macro_rules | `(tactic| row_room_at rd1) => `(tactic| ((fail_if_success with_reducible apply g_sp); (fail_if_success with_reducible apply g_ite); row_room_at rdex))
local macro_rules | `(tactic| row_room_at rd1) => `(tactic| ((fail_if_success with_reducible apply g_sp); (fail_if_success with_reducible intro _); row_room_at rdhd))
local macro_rules | `(tactic| row_room_at rd1) => `(tactic| row_room_at rdsz)
local macro_rules | `(tactic| row_room_at rd1) => `(tactic| ((with_reducible apply g_ex); row_room_at rdex))
local macro_rules | `(tactic| row_room_at rd1) => `(tactic| ((with_reducible apply g_ite); row_room_at rdit))
local macro_rules | `(tactic| row_room_at rd1) => `(tactic| ((with_reducible apply g_ts); row_room_at rdts))
local macro_rules | `(tactic| row_room_at rd) => `(tactic| repeat row_room_at rd1)
/-! ### read_formula -/
theorem passE0 {X : Cx} : Passes (L2N.CX X.prog X.w) X E0 := fun _ _ _ _ _ _ _ h => by
  obtain ⟨_, _, _, _, _, _, _, _, _, _, _, _, h⟩ := h
  exact h.elim
def pRead (L : List Nat) (n : Nat) : Except Nat Fo := match pTree L n 0 with
  | .ok (f, e) => if e < L.length then .error e else .ok f
  | .error q => .error q
def spReadB (K : PySem.W.Frag) : Sp := fun vs H Q E => ∃ (z : Str), vs = [.str z] ∧ z.length ≤ 300000 ∧ pTree (TL.tl z) 60 0 ≠ .error ((TL.tl z).length + 1) ∧ (∀ f, pRead (TL.tl z) 60 = .ok f → f.depth ≤ 60 ∧ f.Pre) ∧
  (∀ f b H', pRead (TL.tl z) 60 = .ok f → f.fault = none → Same H H' → FoAt K H' f b → Q (.ref b) H') ∧ (∀ f e, pRead (TL.tl z) 60 = .ok f → f.fault = some e → RaisesFt K e H E) ∧ (∀ q, pRead (TL.tl z) 60 = .error q → RaisesC K "BadText" H (.int q) E)
theorem scE_read_formula : FnScope ["text", "tree", "end"] ["text"] (defScope s_read_formula) := ⟨rfl, rfl, rfl, by decide +kernel, rfl, by decide +kernel, by decide +kernel⟩
theorem okE_read_formula (T : Txt K mg) (KD : KeysAt K w (ga K "KINDS") ["+", "-", "*", "<"]) : Cal P w K mg base (L2N.CX P w) (140) (ga K "read_formula") ["text"] (spReadB K) := by
  obtain ⟨fd, F⟩ := T.f_read_formula
  obtain ⟨fdB_BadText, GB_BadText, kB_BadText, bB_BadText⟩ := ok_BadText___init__ (P := P) (w := w) (base := base) T
  have TB_BadText := T.err "BadText" (by decide +kernel)
  refine ⟨fd, ?_, F.kp, F.bindsN fun _ _ _ _ _ _ us hl => match us, hl with | [_], _ => rfl⟩
  refine F.ok scE_read_formula (fun vs H Q E h => ?_) (fun cdv A outer s H vs Q E hr h => ?_)
  · obtain ⟨_, rfl, _⟩ := h
    rfl
  have nod := scE_read_formula.nd
  have hu := hu_of hr
  refine ⟨_, (pss_cons (ps_if (pt_not (pt_val (pe_callB call_isi rfl (T.f "isinstance") (by decide +kernel) (pa_cons (pv 0) (pa_cons (pe_bltn (v := .ty "str") rfl (T.f "str") (by decide +kernel) rfl) pa_nil)))))
    (pss_one (L2N.ps_raise rfl (L2N.takes_of rfl rfl rfl rfl) (pmkN_oex (x := "BadText") TB_BadText.o TB_BadText.ini TB_BadText.inT GB_BadText (hr.mono (by omega)) bB_BadText .nil pass0 rfl (T.g "BadText") (pa_cons (pv 0) pa_nil))))
    pss_nil)
  (pss_cons (ps_asg (pe_callC (E := E) (okE_tree_at T KD 60) (hr.mono (by omega)) rfl (T.g "tree_at") (L2N.passes_call (E := E) (L2N.takes_of rfl rfl rfl rfl) (fun _ _ _ _ h => h)) (pa_cons (pv 0) (pa_cons pe_int pa_nil))) (pg_tup rfl (pgs_cons (pg_name (i := 1) nod rfl (Or.inl rfl)) (pgs_cons (pg_name (i := 2) nod rfl (Or.inl rfl)) pgs_nil))))
  (pss_cons (ps_if (pt_cmpR op_lt (pv 2) (pe_callB call_len_str rfl (T.f "len") (by decide +kernel) (pa_cons (pv 0) pa_nil)) (nomark _))
    (pss_one (L2N.ps_raise rfl (L2N.takes_of rfl rfl rfl rfl) (pmkN_oex (x := "BadText") TB_BadText.o TB_BadText.ini TB_BadText.inT GB_BadText (hr.mono (by omega)) bB_BadText .nil pass0 rfl (T.g "BadText") (pa_cons (pv 2) pa_nil))))
    pss_nil)
  (pss_one (ps_ret (pe_callC (E := E) (okE_made_of T 60) (hr.mono (by omega)) rfl (T.g "made_of") (L2N.passes_call (E := E) (L2N.takes_of rfl rfl rfl rfl) (fun _ _ _ _ h => h)) (pa_cons (pv 1) pa_nil))))))), ?_⟩
  obtain ⟨z, rfl, hz, hne, ho, q, qf, r⟩ := h
  have lz := TL.len_tl z
  row_room_at rd
  refine ⟨.str z, .ty "str", .type "str", .type "str", true, rfl, .ty _, .base (.str _), kit_ty (show kitB _ _ = some true by decide +kernel), ?_⟩
  row_room_at rd
  refine ⟨z, 0, rfl, Nat.zero_le _, hz, hne, fun f e u t H1 h1 he s1 e1 tr pr => ?_, fun q' h1 => r q' (by unfold pRead; rw [show pTree (TL.tl z) 60 0 = .error q' from h1])⟩
  have pf : pRead (TL.tl z) 60 = if e < (TL.tl z).length then .error e else .ok f := by unfold pRead; rw [show pTree (TL.tl z) 60 0 = .ok (f, e) from h1]
  clear h1
  row_room_at rd
  by_cases hl : e < z.length
  · rw [if_pos (by omega)] at pf
    rw [decide_eq_true (by omega : (e : Int) < ((z.length : Nat) : Int))]
    row_room_at rd
    refine rd_mkO ?_
    row_room_at rd
    exact ⟨by show 1 ≤ 1000; decide, err_made TB_BadText fun H3 d s3 hd hx => r e pf H3 d (s1.trans s3) (none_back s1 hd) hx⟩
  · rw [if_neg (by omega)] at pf
    rw [decide_eq_false (by omega : ¬ (e : Int) < ((z.length : Nat) : Int))]
    obtain ⟨fd, ok⟩ := ho f pf
    row_room_at rd
    exact ⟨f, t, _, rfl, fd, ok, tr, fun hf H2 b s2 hb => q f b H2 pf hf (s1.trans s2) hb, fun e' he => (qf f e' pf he).same s1⟩

end
end KM
set_option Elab.async false
set_option linter.all false
set_option maxRecDepth 100000
set_option maxHeartbeats 8000000
namespace KM
open PySem PySem.Spec PyProof.Rows L2 He Sw L2H
section
variable {P : Program} {w : World} {K : PySem.W.Frag} {mg : Str → Option Value} {base : Heap}
theorem at00 (X : List Nat) : At X 0 X := ⟨rfl, Nat.zero_le _⟩
/-! ### a sign that fits nowhere -/
theorem hs_at (L : List Nat) (i : Nat) : (L ++ [35])[i]? = L[i]? ∨ ((L ++ [35])[i]? = some 35 ∧ L[i]? = none) := by
  rcases Nat.lt_trichotomy i L.length with h | h | h
  · exact .inl (List.getElem?_append_left h)
  · subst h
    exact .inr ⟨by simp, List.getElem?_eq_none (Nat.le_refl _)⟩
  · refine .inl ?_
    rw [List.getElem?_eq_none (by simp; omega), List.getElem?_eq_none (by omega)]
theorem hs_get {L : List Nat} {i s : Nat} (h : s ≠ 35) : (L ++ [35])[i]? = some s ↔ L[i]? = some s := by
  rcases hs_at L i with e | ⟨e1, e2⟩
  · rw [e]
  · rw [e1, e2]; simp [Ne.symm h]
theorem hs_ite {α : Type} {L : List Nat} {i s : Nat} {A B : α} (h : s ≠ 35) : (if (L ++ [35])[i]? = some s then A else B) = if L[i]? = some s then A else B := by
  by_cases c : L[i]? = some s
  · rw [if_pos c, if_pos ((hs_get h).mpr c)]
  · rw [if_neg c, if_neg (fun z => c ((hs_get h).mp z))]
theorem hs_iteA {α : Type} {L : List Nat} {i s : Nat} {C : Prop} [Decidable C] {A B : α} (h : s ≠ 35) : (if (L ++ [35])[i]? = some s ∧ C then A else B) = if L[i]? = some s ∧ C then A else B := by
  by_cases c : L[i]? = some s ∧ C
  · rw [if_pos c, if_pos ⟨(hs_get h).mpr c.1, c.2⟩]
  · rw [if_neg c, if_neg (fun z => c ⟨(hs_get h).mp z.1, z.2⟩)]
theorem hs_map {L : List Nat} {i : Nat} {P : Nat → Bool} (h : P 35 = false) : ((L ++ [35])[i]?.map P).getD false = (L[i]?.map P).getD false := by
  rcases hs_at L i with e | ⟨e1, e2⟩
  · rw [e]
  · rw [e1, e2]; exact h
theorem hs_bind {L : List Nat} {i : Nat} : (L ++ [35])[i]?.bind b3Of = L[i]?.bind b3Of := by
  rcases hs_at L i with e | ⟨e1, e2⟩
  · rw [e]
  · rw [e1, e2]; rfl
theorem hs_sg {L : List Nat} : ∀ (S : List Nat) (p : Nat), 35 ∉ S → sgAt (L ++ [35]) p S = sgAt L p S
  | [], p, _ => rfl
  | s :: S, p, h => by
    show (if (L ++ [35])[p]? = some s then sgAt (L ++ [35]) (p + 1) S else .error p) = if L[p]? = some s then sgAt L (p + 1) S else .error p
    rw [hs_ite (fun z => h (by rw [z]; exact List.mem_cons_self)), hs_sg S (p + 1) (fun z => h (List.mem_cons_of_mem _ z))]
theorem hs_run {L : List Nat} {P : Nat → Bool} (h : P 35 = false) : ∀ (k p : Nat), runE P (L ++ [35]) k p = runE P L k p
  | 0, p => rfl
  | k + 1, p => by
    unfold runE
    rcases hs_at L p with e | ⟨e1, e2⟩
    · rw [e]
      cases L[p]? with
      | none => rfl
      | some c => show (if P c = true then _ else _) = if P c = true then _ else _; rw [hs_run h k (p + 1)]
    · rw [e1, e2]
      show (if P 35 = true then _ else p) = p
      rw [if_neg (by rw [h]; decide)]
theorem run_in {L : List Nat} {P : Nat → Bool} : ∀ (k p : Nat), p ≤ L.length → runE P L k p ≤ L.length
  | 0, p, h => h
  | k + 1, p, h => by
    unfold runE
    cases e : L[p]? with
    | none => exact h
    | some c =>
      have hp : p < L.length := (List.getElem?_eq_some_iff.mp e).1
      show (if P c = true then _ else p) ≤ _
      split
      · exact run_in k (p + 1) hp
      · exact h
theorem run_out {L : List Nat} {P : Nat → Bool} : ∀ (k p : Nat), L.length < p → runE P L k p = p
  | 0, p, h => rfl
  | k + 1, p, h => by
    unfold runE
    rw [List.getElem?_eq_none (by omega)]
theorem hs_sub {L : List Nat} {a b : Nat} (h : b ≤ L.length) : subL (L ++ [35]) a b = subL L a b := by
  unfold subL
  by_cases c : a ≤ L.length
  · rw [List.drop_append_of_le_length c, List.take_append_of_le_length (by rw [List.length_drop]; omega)]
  · rw [show b - a = 0 by omega, List.take_zero, List.take_zero]
theorem hs_let {L : List Nat} {p : Nat} : letE (L ++ [35]) p = letE L p := hs_run (by decide) 8 p
theorem hs_word {L : List Nat} {p : Nat} : subL (L ++ [35]) p (letE L p) = subL L p (letE L p) := by
  by_cases c : p ≤ L.length
  · exact hs_sub (run_in 8 p c)
  · have e : letE L p = p := run_out 8 p (by omega)
    rw [e]; unfold subL; rw [Nat.sub_self, List.take_zero, List.take_zero]
theorem hs_name {L : List Nat} {p : Nat} : pName (L ++ [35]) p = pName L p := by
  unfold pName
  rw [hs_let, hs_word]
theorem hs_num {L : List Nat} {p : Nat} (h : (L[p]?.map isD).getD false = true) : pNum (L ++ [35]) p = pNum L p := by
  have hp : p < L.length := by
    cases e : L[p]? with
    | none => rw [e] at h; cases h
    | some c => exact (List.getElem?_eq_some_iff.mp e).1
  have e : numE (L ++ [35]) p = numE L p := by
    unfold numE
    rw [hs_ite (by decide), hs_run (by decide)]
  have l : numE L p ≤ L.length := by
    unfold numE
    split
    · exact hp
    · exact run_in _ _ hp
  unfold pNum
  rw [e, hs_sub l]
theorem hs_leaf {L : List Nat} {p : Nat} : pLeaf (L ++ [35]) p = pLeaf L p := by
  unfold pLeaf
  rw [hs_map (by decide), hs_name]
  by_cases c : (L[p]?.map isD).getD false = true
  · rw [if_pos c, if_pos c, hs_num c]
  · rw [if_neg c, if_neg c]
theorem hs_shE {L : List Nat} {p : Nat} : ∀ (k e : Nat), p ≤ e → shE (L ++ [35]) p k e = shE L p k e
  | 0, e, _ => rfl
  | k + 1, e, h => by
    unfold shE
    rw [hs_shE k (e + 1) (by omega)]
    by_cases c : e < L.length ∧ subL L p (e + 1) ∈ (List.range 65).map TL.numL
    · rw [if_pos c, if_pos ⟨by simp; omega, by rw [hs_sub c.1]; exact c.2⟩]
    · rw [if_neg c, if_neg]
      rintro ⟨h1, h2⟩
      by_cases he : e < L.length
      · rw [hs_sub he] at h2
        exact c ⟨he, h2⟩
      · have el : e = L.length := by simp at h1; omega
        obtain ⟨n, _, hn⟩ := List.mem_map.mp h2
        have m : 35 ∈ subL (L ++ [35]) p (e + 1) := by
          unfold subL
          rw [List.drop_append_of_le_length (by omega), List.take_of_length_le (by simp; omega)]
          exact List.mem_append_right _ (List.mem_singleton.mpr rfl)
        rw [← hn] at m
        exact absurd (numL_isD n 35 m) (by decide)
theorem hs_sh {L : List Nat} {p : Nat} : pShift (L ++ [35]) p = pShift L p := by
  unfold pShift
  rw [hs_shE 3 p (Nat.le_refl _)]
  by_cases c : shE L p 3 p = p
  · rw [if_pos c, if_pos c]
  · rw [if_neg c, if_neg c]
    have l : shE L p 3 p ≤ L.length := by
      have go : ∀ (k e : Nat), shE L p k e = e ∨ shE L p k e ≤ L.length := by
        intro k
        induction k with
        | zero => exact fun e => .inl rfl
        | succ k ih =>
          intro e
          unfold shE
          split
          · rename_i h
            rcases ih (e + 1) with h2 | h2
            · right; rw [h2]; exact h.1
            · exact .inr h2
          · exact .inl rfl
      rcases go 3 p with h | h
      · exact absurd h c
      · exact h
    rw [hs_sub l]
/-- alike, or both are the sign that the fuel ended -/
def Hs {α : Type} (L : List Nat) (x y : Except Nat α) : Prop := x = y ∨ (x = .error ((L ++ [35]).length + 1) ∧ y = .error (L.length + 1))
theorem Hs.rfl' {α : Type} {L : List Nat} {x : Except Nat α} : Hs L x x := .inl rfl
theorem Hs.bind {α β : Type} {L : List Nat} {x y : Except Nat α} {k k' : α → Except Nat β} (h : Hs L x y) (hk : ∀ a, Hs L (k a) (k' a)) : Hs L (x >>= k) (y >>= k') := by
  rcases h with rfl | ⟨rfl, rfl⟩
  · cases x with
    | error q => exact .inl rfl
    | ok a => exact hk a
  · exact .inr ⟨rfl, rfl⟩
theorem hs_op {L : List Nat} {T T' : Nat → Except Nat (Fo × Nat)} (hT : ∀ p, Hs L (T' p) (T p)) (p : Nat) : Hs L (pOp T' (L ++ [35]) p) (pOp T L p) := by
  unfold pOp
  rw [hs_ite (by decide), hs_sg _ _ (by decide)]
  by_cases c : L[p]? = some 45
  · rw [if_pos c, if_pos c]
    refine Hs.rfl'.bind fun a => (hT a).bind fun ⟨f, e⟩ => ?_
    try dsimp only
    rw [hs_sg _ _ (by decide)]
    exact Hs.rfl'
  · rw [if_neg c, if_neg c]
    refine (hT p).bind fun ⟨f, e⟩ => ?_
    try dsimp only
    rw [hs_sg _ _ (by decide)]
    refine Hs.rfl'.bind fun e => ?_
    rw [hs_ite (by decide), hs_sg _ _ (by decide), hs_bind]
    by_cases c6 : L[e]? = some 60
    · rw [if_pos c6, if_pos c6]
      refine Hs.rfl'.bind fun a => ?_
      try dsimp only
      rw [hs_sh]
      refine Hs.rfl'.bind fun ⟨k, e⟩ => ?_
      try dsimp only
      rw [hs_sg _ _ (by decide)]
      exact Hs.rfl'
    · rw [if_neg c6, if_neg c6]
      cases L[e]?.bind b3Of with
      | none => exact Hs.rfl'
      | some o =>
        try dsimp only
        rw [hs_sg _ _ (by decide)]
        refine Hs.rfl'.bind fun a => (hT a).bind fun ⟨f, e⟩ => ?_
        try dsimp only
        rw [hs_sg _ _ (by decide)]
        exact Hs.rfl'
theorem hs_sumA {L : List Nat} {T T' : Nat → Except Nat (Fo × Nat)} (hT : ∀ p, Hs L (T' p) (T p)) (p : Nat) : Hs L (pSumA T' (L ++ [35]) p) (pSumA T L p) := by
  unfold pSumA
  rw [hs_name]
  refine Hs.rfl'.bind fun ⟨i, e⟩ => ?_
  try dsimp only
  rw [hs_sg _ _ (by decide)]
  refine Hs.rfl'.bind fun a => ?_
  try dsimp only
  rw [hs_leaf]
  refine Hs.rfl'.bind fun ⟨b, e⟩ => ?_
  try dsimp only
  rw [hs_sg _ _ (by decide)]
  refine Hs.rfl'.bind fun a => (hT a).bind fun ⟨f, e⟩ => ?_
  try dsimp only
  rw [hs_sg _ _ (by decide)]
  exact Hs.rfl'
theorem hs_more {L : List Nat} {n : Nat} (hT : ∀ p, Hs L (pTree (L ++ [35]) n p) (pTree L n p)) : ∀ (k p : Nat), Hs L (pMore (L ++ [35]) n k p) (pMore L n k p)
  | 0, p => by rw [pMore, pMore]; exact Hs.rfl'
  | k + 1, p => by
    rw [pMore, pMore, hs_ite (by decide), hs_sg _ _ (by decide)]
    by_cases c : L[p]? = some 44
    · rw [if_pos c, if_pos c]
      refine Hs.rfl'.bind fun a => (hT a).bind fun ⟨f, e⟩ => ?_
      try dsimp only
      refine (hs_more hT k e).bind fun ⟨fs, e⟩ => ?_
      exact Hs.rfl'
    · rw [if_neg c, if_neg c]
      exact Hs.rfl'
theorem hs_tree {L : List Nat} : ∀ (n p : Nat), Hs L (pTree (L ++ [35]) n p) (pTree L n p)
  | 0, p => .inr ⟨by rw [pTree], by rw [pTree]⟩
  | n + 1, p => by
    have hT := hs_tree (L := L) n
    rw [pTree_succ, pTree_succ, hs_ite (by decide), hs_map (by decide), hs_let, hs_word, hs_iteA (by decide), hs_iteA (by decide), hs_name]
    by_cases c1 : L[p]? = some 40
    · rw [if_pos c1, if_pos c1]; exact hs_op hT _
    rw [if_neg c1, if_neg c1]
    by_cases c2 : (L[p]?.map isD).getD false = true
    · rw [if_pos c2, if_pos c2, hs_num c2]; exact Hs.rfl'
    rw [if_neg c2, if_neg c2]
    by_cases c3 : L[letE L p]? = some 40 ∧ mk (subL L p (letE L p)) = "sum"
    · rw [if_pos c3, if_pos c3]; exact hs_sumA hT _
    rw [if_neg c3, if_neg c3]
    by_cases c4 : L[letE L p]? = some 40 ∧ isNmS (mk (subL L p (letE L p))) = true
    · rw [if_pos c4, if_pos c4]
      unfold pCallA
      refine (hT _).bind fun ⟨f, e⟩ => ?_
      try dsimp only
      refine (hs_more hT 3 e).bind fun ⟨fs, e⟩ => ?_
      try dsimp only
      rw [hs_sg _ _ (by decide)]
      exact Hs.rfl'
    · rw [if_neg c4, if_neg c4]; exact Hs.rfl'
/-! ### a text, one sign less, another one or one more -/
theorem read_P {f : Fo} (ok : f.Pre) {n : Nat} (hn : f.depth ≤ n) : pTree (TL.tl f.txt) n 0 = .ok (f, (TL.tl f.txt).length) := by
  have h := pTree_okP f ok (L := TL.tl f.txt) (p := 0) (R := []) hn (by rw [List.append_nil]; exact ⟨by simp, Nat.zero_le _⟩) (fun _ => stop0)
  rw [Nat.zero_add] at h
  exact h
theorem pRead_P {f : Fo} (ok : f.Pre) {n : Nat} (hn : f.depth ≤ n) : pRead (TL.tl f.txt) n = .ok f := by
  unfold pRead
  rw [read_P ok hn]
  exact if_neg (Nat.lt_irrefl _)
theorem par_in {f : Fo} (nl : ¬ f.leaf) : ∃ A B, TL.tl f.txt = A ++ 40 :: B ∧ B ≠ [] := by
  cases f with
  | num n => exact absurd trivial nl
  | nam z => exact absurd trivial nl
  | neg g => exact ⟨[], _, by simp only [Fo.txt, TL.tl_append, tl1]; rfl, fun z => by simp at z⟩
  | shl g n => exact ⟨[], _, by simp only [Fo.txt, TL.tl_append, tl2, List.append_assoc]; rfl, fun z => by simp [tl3] at z⟩
  | bin o f g => exact ⟨[], _, by simp only [Fo.txt, TL.tl_append, tl2, List.append_assoc]; rfl, fun z => by simp [B3.sg_tl] at z⟩
  | sum i b g => exact ⟨[115, 117, 109], _, by simp only [Fo.txt, TL.tl_append, tl6, List.append_assoc]; rfl, fun z => by simp [tl5] at z⟩
  | call z fs => exact ⟨TL.tl z, _, by simp only [Fo.txt, TL.tl_append, tl2, List.append_assoc]; rfl, fun z => by simp [tl4] at z⟩
theorem cut_P {f : Fo} (ok : f.Pre) (nl : ¬ f.leaf) {n : Nat} (hn : f.depth ≤ n) : pTree ((TL.tl f.txt).take ((TL.tl f.txt).length - 1)) n 0 = .error ((TL.tl f.txt).length - 1) := by
  obtain ⟨A, B, e, nB⟩ := par_in nl
  have lB := List.length_pos_iff.mpr nB
  have lX : (TL.tl f.txt).length = A.length + (B.length + 1) := by rw [e]; simp
  have l : ((TL.tl f.txt).take ((TL.tl f.txt).length - 1)).length = (TL.tl f.txt).length - 1 := by rw [List.length_take]; omega
  have k := tree_cutP f ok (L := (TL.tl f.txt).take ((TL.tl f.txt).length - 1)) (p := 0) hn ⟨(TL.tl f.txt).length - 1, at00 _, by rw [l]; omega, by omega⟩
  rcases k with k | ⟨_, w⟩
  · rw [k, l]
  · have m : 40 ∈ (TL.tl f.txt).take ((TL.tl f.txt).length - 1) := by
      have : (TL.tl f.txt).take ((TL.tl f.txt).length - 1) = A ++ 40 :: B.take (B.length - 1) := by
        rw [lX, e, List.take_append, List.take_of_length_le (by omega), show A.length + (B.length + 1) - 1 - A.length = (B.length - 1) + 1 by omega, List.take_succ_cons]
      rw [this]
      exact List.mem_append_right _ List.mem_cons_self
    rw [List.drop_zero] at w
    rcases w.2 with w | w
    · exact absurd (w 40 m) (by decide)
    · exact absurd (w 40 m) (by decide)
theorem read_none {L : List Nat} {n : Nat} (h : pTree L n 0 = .error L.length) : pRead L n = .error L.length ∧ pTree (L ++ [35]) n 0 = .error L.length ∧ pRead (L ++ [35]) n = .error L.length := by
  have k : pTree (L ++ [35]) n 0 = .error L.length := by
    rcases hs_tree (L := L) n 0 with e | ⟨_, e⟩
    · rw [e, h]
    · rw [h] at e; injection e with e; omega
  exact ⟨by unfold pRead; rw [h], k, by unfold pRead; rw [k]⟩
theorem more_P {f : Fo} (ok : f.Pre) {n : Nat} (hn : f.depth ≤ n) : pTree (TL.tl f.txt ++ [35]) n 0 = .ok (f, (TL.tl f.txt).length) ∧ pRead (TL.tl f.txt ++ [35]) n = .error (TL.tl f.txt).length := by
  have k : pTree (TL.tl f.txt ++ [35]) n 0 = .ok (f, (TL.tl f.txt).length) := by
    rcases hs_tree (L := TL.tl f.txt) n 0 with e | ⟨_, e⟩
    · rw [e, read_P ok hn]
    · rw [read_P ok hn] at e; cases e
  refine ⟨k, ?_⟩
  unfold pRead
  rw [k]
  exact if_pos (by simp)
theorem leaf_no41 {f : Fo} (lf : f.leaf) (ok : f.Pre) : 41 ∉ TL.tl f.txt := by
  cases f with
  | num n =>
    simp only [Fo.Pre] at ok
    obtain ⟨k, rfl, e⟩ := tl_num' ok.1
    rw [e]
    exact fun m => absurd (numL_isD k 41 m) (by decide)
  | nam z =>
    simp only [Fo.Pre] at ok
    obtain ⟨lo, _, _⟩ := low_of ok.1
    exact fun m => absurd (low_isL lo 41 m) (by decide)
  | _ => exact lf.elim

end
end KM
set_option Elab.async false
set_option linter.all false
set_option maxRecDepth 100000
set_option maxHeartbeats 8000000
namespace KM
open PySem PySem.Spec PyProof.Rows L2 He Sw L2H
section
variable {P : Program} {w : World} {K : PySem.W.Frag} {mg : Str → Option Value} {base : Heap}
local macro_rules | `(tactic| row_room_at ne) => `(tactic| with_reducible assumption)
local macro_rules | `(tactic| row_room_at hp) => `(tactic| (apply SameBut.use; with_reducible assumption; rotate_left; row_room_at hp; row_room_at ne))
local macro_rules | `(tactic| row_room_at hp) => `(tactic| (apply FoAt.same; rotate_left; with_reducible assumption; row_room_at hp))
local macro_rules | `(tactic| row_room_at hp) => `(tactic| (apply Sw.Same.use; with_reducible assumption; row_room_at hp))
local macro_rules | `(tactic| row_room_at hp) => `(tactic| (apply SqT.of; row_room_at hp))
local macro_rules | `(tactic| row_room_at hp) => `(tactic| (apply SqL.of; row_room_at hp))
local macro_rules | `(tactic| row_room_at hp) => `(tactic| with_reducible assumption)
local macro_rules | `(tactic| row_room_at ati) => `(tactic| first | with_reducible assumption | rfl | (apply atI_nat; rfl))
local macro_rules | `(tactic| row_room_at cc) => `(tactic| first | with_reducible assumption | omega | decide | (refine ⟨?_, ?_⟩ <;> first | decide | omega) | (refine ⟨?_, ?_, ?_⟩ <;> first | decide | omega) | (left; refine ⟨?_, ?_⟩ <;> first | decide | omega) | (right; refine ⟨?_, ?_⟩ <;> first | decide | omega))
local macro_rules | `(tactic| row_room_at rdts) => `(tactic| with_reducible apply rd_retN)
local macro_rules | `(tactic| row_room_at rdts) => `(tactic| with_reducible apply rd_cont)
local macro_rules | `(tactic| row_room_at rdts) => `(tactic| with_reducible apply rd_brk)
local macro_rules | `(tactic| row_room_at rdts) => `(tactic| with_reducible apply rd_dput)
local macro_rules | `(tactic| row_room_at rdts) => `(tactic| with_reducible apply rd_drop)
local macro_rules | `(tactic| row_room_at rdts) => `(tactic| with_reducible apply rd_for)
local macro_rules | `(tactic| row_room_at rdts) => `(tactic| with_reducible apply rd_ret)
local macro_rules | `(tactic| row_room_at rdts) => `(tactic| with_reducible apply rd_next)
local macro_rules | `(tactic| row_room_at rdts) => `(tactic| with_reducible apply rd_ifS)
local macro_rules | `(tactic| row_room_at rdts) => `(tactic| with_reducible apply rd_asg)
local macro_rules | `(tactic| row_room_at rdts) => `(tactic| with_reducible refine rd_seqN fun _ _ => ?_)
local macro_rules | `(tactic| row_room_at rdit) => `(tactic| with_reducible refine rd_iteNF (by with_unfolding_all decide +kernel) ?_)
local macro_rules | `(tactic| row_room_at rdit) => `(tactic| with_reducible refine rd_iteNT (by with_unfolding_all decide +kernel) ?_)
local macro_rules | `(tactic| row_room_at rdit) => `(tactic| with_reducible apply rd_iteN0)
local macro_rules | `(tactic| row_room_at rdit) => `(tactic| with_reducible apply rd_iteN1)
local macro_rules | `(tactic| row_room_at rdit) => `(tactic| with_reducible apply rd_ite1)
local macro_rules | `(tactic| row_room_at rdit) => `(tactic| with_reducible apply rd_ite0)
local macro_rules | `(tactic| row_room_at rdit) => `(tactic| with_reducible refine rd_iteT (by with_unfolding_all decide +kernel) ?_)
local macro_rules | `(tactic| row_room_at rdit) => `(tactic| with_reducible refine rd_iteF (by with_unfolding_all decide +kernel) ?_)
local macro_rules | `(tactic| row_room_at rdex) => `(tactic| with_reducible apply rd_inS)
local macro_rules | `(tactic| row_room_at rdex) => `(tactic| with_reducible apply rd_min2)
local macro_rules | `(tactic| row_room_at rdex) => `(tactic| with_reducible apply rd_1S)
local macro_rules | `(tactic| row_room_at rdex) => `(tactic| with_reducible apply rd_2S)
local macro_rules | `(tactic| row_room_at rdex) => `(tactic| with_reducible refine rd_fld' (by with_unfolding_all row_room_at hp) (by with_unfolding_all assumption) (by with_unfolding_all assumption) (by with_unfolding_all rfl) ?_)
local macro_rules | `(tactic| row_room_at rdex) => `(tactic| with_reducible refine rd_ty (by with_unfolding_all row_room_at hp) ?_)
local macro_rules | `(tactic| row_room_at rdex) => `(tactic| with_reducible refine rd_itup' (by with_unfolding_all row_room_at hp) ?_)
local macro_rules | `(tactic| row_room_at rdex) => `(tactic| with_reducible refine rd_ilist' (by with_unfolding_all row_room_at hp) ?_)
local macro_rules | `(tactic| row_room_at rdex) => `(tactic| with_reducible apply rd_1B)
local macro_rules | `(tactic| row_room_at rdex) => `(tactic| with_reducible refine rd_dgetS (by with_unfolding_all row_room_at hp) (by with_unfolding_all assumption) ?_)
local macro_rules | `(tactic| row_room_at rdex) => `(tactic| with_reducible refine rd_dget' (by with_unfolding_all row_room_at hp) (by with_unfolding_all rfl) (by with_unfolding_all assumption) ?_)
local macro_rules | `(tactic| row_room_at rdex) => `(tactic| with_reducible refine rd_len (by with_unfolding_all first | exact .inl (by row_room_at hp) | exact .inr (by row_room_at hp)) ?_)
local macro_rules | `(tactic| row_room_at rdex) => `(tactic| with_reducible refine rd_lenQ (by with_unfolding_all first | exact .inl (by row_room_at hp) | exact .inr (by row_room_at hp)) ?_)
local macro_rules | `(tactic| row_room_at rdex) => `(tactic| with_reducible apply rd_2I)
local macro_rules | `(tactic| row_room_at rdex) => `(tactic| with_reducible refine rd_b62 (by with_unfolding_all first | decide | (constructor <;> omega)) ?_)
local macro_rules | `(tactic| row_room_at rdex) => `(tactic| with_reducible refine rd_lenS (by with_unfolding_all omega) ?_)
local macro_rules | `(tactic| row_room_at rdex) => `(tactic| with_reducible apply rd_1I)
local macro_rules | `(tactic| row_room_at rdex) => `(tactic| with_reducible apply rd_int1)
local macro_rules | `(tactic| row_room_at rdex) => `(tactic| with_reducible apply rd_iv)
local macro_rules | `(tactic| row_room_at rdex) => `(tactic| with_reducible refine rd_sz (by with_unfolding_all first | decide | (simp only [List.length_append, List.length_map, List.length_cons, List.length_nil, List.length_take]; omega)) ?_)
local macro_rules | `(tactic| row_room_at rdex) => `(tactic| with_reducible apply rd_bl)
local macro_rules | `(tactic| row_room_at rdhd) => `(tactic| with_reducible apply rd_m1)
local macro_rules | `(tactic| row_room_at rdhd) => `(tactic| with_reducible apply rd_fld)
local macro_rules | `(tactic| row_room_at rdhd) => `(tactic| with_reducible refine rd_append (by with_unfolding_all row_room_at hp) (by with_unfolding_all first | decide | (simp only [List.length_append, List.length_map, List.length_cons, List.length_nil]; omega)) ?_)
local macro_rules | `(tactic| row_room_at rdhd) => `(tactic| with_reducible apply rd_bm)
local macro_rules | `(tactic| row_room_at rdhd) => `(tactic| with_reducible apply rd_yes)
local macro_rules | `(tactic| row_room_at rdhd) => `(tactic| with_reducible apply rd_lc)
local macro_rules | `(tactic| row_room_at rdhd) => `(tactic| with_reducible apply rd_itup)
local macro_rules | `(tactic| row_room_at rdhd) => `(tactic| with_reducible apply rd_ilist)
local macro_rules | `(tactic| row_room_at rdhd) => `(tactic| with_reducible refine rd_dictK (by with_unfolding_all row_room_at hp) ?_)
local macro_rules | `(tactic| row_room_at rdhd) => `(tactic| with_reducible refine rd_lenK (by with_unfolding_all first | exact .inl (by row_room_at hp) | exact .inr (by row_room_at hp)) ?_)
local macro_rules | `(tactic| row_room_at rdhd) => `(tactic| with_reducible apply rd_methI)
local macro_rules | `(tactic| row_room_at rdhd) => `(tactic| with_reducible apply rd_dget)
local macro_rules | `(tactic| row_room_at rdhd) => `(tactic| with_reducible apply rd_if)
local macro_rules | `(tactic| row_room_at rdhd) => `(tactic| with_reducible apply rd_notV)
local macro_rules | `(tactic| row_room_at rdhd) => `(tactic| with_reducible apply rd_orV)
local macro_rules | `(tactic| row_room_at rdhd) => `(tactic| with_reducible apply rd_andV)
local macro_rules | `(tactic| row_room_at rdhd) => `(tactic| with_reducible apply rd_U)
local macro_rules | `(tactic| row_room_at rdhd) => `(tactic| with_reducible apply rd_un)
local macro_rules | `(tactic| row_room_at rdhd) => `(tactic| with_reducible refine rd_cat (by with_unfolding_all row_room_at hp) (by with_unfolding_all row_room_at hp) (by with_unfolding_all first | decide | (simp only [List.length_append, List.length_map, List.length_cons, List.length_nil, List.length_take]; omega)) ?_)
local macro_rules | `(tactic| row_room_at rdhd) => `(tactic| with_reducible refine rd_slL (by with_unfolding_all row_room_at hp) ?_)
local macro_rules | `(tactic| row_room_at rdhd) => `(tactic| with_reducible apply rd_nopart)
local macro_rules | `(tactic| row_room_at rdhd) => `(tactic| with_reducible apply rd_make)
local macro_rules | `(tactic| row_room_at rdhd) => `(tactic| with_reducible apply rd_kt)
local macro_rules | `(tactic| row_room_at rdhd) => `(tactic| with_reducible apply rd_rng1)
local macro_rules | `(tactic| row_room_at rdhd) => `(tactic| with_reducible refine rd_ne (by with_unfolding_all rfl) ?_)
local macro_rules | `(tactic| row_room_at rdhd) => `(tactic| with_reducible apply rd_and)
local macro_rules | `(tactic| row_room_at rdhd) => `(tactic| with_reducible apply rd_B)
local macro_rules | `(tactic| row_room_at rdhd) => `(tactic| with_reducible apply rd_not)
local macro_rules | `(tactic| row_room_at rdhd) => `(tactic| with_reducible refine rd_ixL (by with_unfolding_all row_room_at hp) (by with_unfolding_all row_room_at ati) ?_)
local macro_rules | `(tactic| row_room_at rdhd) => `(tactic| with_reducible apply rd_gNil)
local macro_rules | `(tactic| row_room_at rdhd) => `(tactic| with_reducible refine rd_gTup (by with_unfolding_all (apply SqT.of; row_room_at hp)) (by with_unfolding_all rfl) ?_)
local macro_rules | `(tactic| row_room_at rdhd) => `(tactic| with_reducible apply rd_sl)
local macro_rules | `(tactic| row_room_at rdhd) => `(tactic| with_reducible refine rd_I (by with_unfolding_all row_room_at cc) ?_)
local macro_rules | `(tactic| row_room_at rdhd) => `(tactic| with_reducible apply rd_or)
local macro_rules | `(tactic| row_room_at rdhd) => `(tactic| with_reducible apply rd_lst)
local macro_rules | `(tactic| row_room_at rdhd) => `(tactic| with_reducible apply rd_gCons)
local macro_rules | `(tactic| row_room_at rdhd) => `(tactic| with_reducible apply rd_part)
local macro_rules | `(tactic| row_room_at rdhd) => `(tactic| with_reducible apply rd_tup)
local macro_rules | `(tactic| row_room_at rdhd) => `(tactic| with_reducible apply rd_I0)
local macro_rules | `(tactic| row_room_at rdhd) => `(tactic| with_reducible apply rd_CB)
local macro_rules | `(tactic| row_room_at rdhd) => `(tactic| with_reducible refine rd_ixT (by with_unfolding_all row_room_at hp) (by with_unfolding_all row_room_at ati) ?_)
local macro_rules | `(tactic| row_room_at rdhd) => `(tactic| with_reducible refine rd_eq (by with_unfolding_all rfl) ?_)
local macro_rules | `(tactic| row_room_at rdhd) => `(tactic| with_reducible apply rd_call)
local macro_rules | `(tactic| row_room_at rdhd) => `(tactic| with_reducible apply rd_gName)
local macro_rules | `(tactic| row_room_at rdhd) => `(tactic| with_reducible apply rd_test)
local macro_rules | `(tactic| row_room_at rdhd) => `(tactic| with_reducible apply rd_cons)
local macro_rules | `(tactic| row_room_at rdhd) => `(tactic| with_reducible apply rd_consC)
local macro_rules | `(tactic| row_room_at rdhd) => `(tactic| with_reducible refine rd_consV (by with_unfolding_all rfl) ?_)
local macro_rules | `(tactic| row_room_at rdhd) => `(tactic| with_reducible apply rd_nil)
local macro_rules | `(tactic| row_room_at rdhd) => `(tactic| with_reducible apply rd_c)
local macro_rules | `(tactic| row_room_at rdhd) => `(tactic| with_reducible refine rd_var (by with_unfolding_all rfl) ?_)
local macro_rules | `(tactic| row_room_at rdhd) => `(tactic| with_reducible apply rd_op)
local macro_rules | `(tactic| row_room_at rdsz) => `(tactic| with_reducible refine rd_sz (by with_unfolding_all first | decide | (simp only [List.length_append, List.length_map, List.length_cons, List.length_nil, List.length_take]; omega)) ?_)
local macro_rules | `(tactic| row_room_at rd1) => `(tactic| with_reducible refine rd_unN (by with_reducible assumption) ?_)
local macro_rules | `(tactic| row_room_at rd1) => `(tactic| ((fail_if_success with_reducible apply g_sp); (fail_if_success with_reducible apply g_ite); row_room_at rdex))
local macro_rules | `(tactic| row_room_at rd1) => `(tactic| ((fail_if_success with_reducible apply g_sp); (fail_if_success with_reducible intro _); row_room_at rdhd))
local macro_rules | `(tactic| row_room_at rd1) => `(tactic| row_room_at rdsz)
local macro_rules | `(tactic| row_room_at rd1) => `(tactic| ((with_reducible apply g_ex); row_room_at rdex))
local macro_rules | `(tactic| row_room_at rd1) => `(tactic| ((with_reducible apply g_ite); row_room_at rdit))
local macro_rules | `(tactic| row_room_at rd1) => `(tactic| ((with_reducible apply g_ts); row_room_at rdts))
local macro_rules | `(tactic| row_room_at rd) => `(tactic| repeat row_room_at rd1)
def spWF (K : PySem.W.Frag) : Sp := fun vs H Q _ => ∃ (f : Fo) (a : Addr), vs = [.ref a] ∧ f.Ok ∧ f.Fits ∧ FoAt K H f a ∧ ∀ H', Same H H' → Q (.str f.txt) H'
section
variable (SG : ∃ es n, KDict K w (ga K "SIGNS") es n)
include SG
omit SG in
theorem sc_write_formula : FnScope ["formula"] ["formula"] (defScope s_write_formula) := ⟨rfl, rfl, rfl, by decide +kernel, rfl, by decide +kernel, by decide +kernel⟩
theorem ok_write_formula (T : Txt K mg) : Cal P w K mg base CX0 (44) (ga K "write_formula") ["formula"] (spWF K) := by
  obtain ⟨fd, F⟩ := T.f_write_formula
  refine ⟨fd, ?_, F.kp, F.bindsN fun _ _ _ _ _ _ us hl => match us, hl with | [_], _ => rfl⟩
  refine F.ok sc_write_formula (fun vs H Q E h => ?_) (fun cdv A outer s H vs Q E hr h => ?_)
  · obtain ⟨_, _, rfl, _⟩ := h
    rfl
  have nod := sc_write_formula.nd
  have hu := hu_of hr
  refine ⟨_, PSs.nox (pss_cons (ps_expr (pe_callC (ok_check_formula T) (hr.mono (by omega)) rfl (T.g "check_formula") pass0 (pa_cons (pv 0) pa_nil)))
  (pss_one (ps_ret (pe_callC (ok_written SG T 40) (hr.mono (by omega)) rfl (T.g "written") pass0 (pa_cons (pv 0) pa_nil))))), ?_⟩
  obtain ⟨f, a, rfl, ok, fit, hf, q⟩ := h
  row_room_at rd
  refine ⟨f, a, rfl, hf, ?_⟩
  row_room_at rd
  exact ⟨f, a, rfl, fit.2, ok, fit.1, hf, q⟩
end

end
end KM
set_option Elab.async false
set_option linter.all false
set_option maxRecDepth 100000
set_option maxHeartbeats 400000
/-! isinstance(e, C) of the exception that is handled, its class being told by the reading. -/
namespace Sw
open PySem PySem.Spec PyProof.Rows L2 He
def rIsXE (K : PySem.W.Frag) (cls : Value) (d : Option Addr) (a : Addr) : List V → Hp → VK → Prop := fun xs H Q => ∃ (C dd : Addr), cls = .ref C ∧ d = some dd ∧ ExcC K C ∧ rIsX K C a dd xs H Q
theorem call_isXE {X : Cx} {cls : Value} {d : Option Addr} {p : Addr × Obj} (hp : p ∈ X.pn) (hz : Zc cls d p.2) (hf : ∃ vs, p.2.data = .fields vs) : CallR X (.builtin "isinstance") (rIsXE X.K cls d p.1) := by
  intro pins s σ H xs us Q I r h
  obtain ⟨C, dd, rfl, rfl, T, h⟩ := h
  exact call_isX T hp hz hf pins s σ H xs us Q I r h
end Sw
namespace Sw
open PySem PySem.Spec PyProof.Rows L2 He
theorem call_isxS {X : Cx} {a : Addr} {oe : Obj} {cls : Value} {d : Option Addr} {pn : List (Addr × Obj)} (hz : Zc cls d oe) (hf : ∃ vs, oe.data = .fields vs) : CallR (X.suite a ((a, oe) :: pn)) (.builtin "isinstance") (rIsXE X.K cls d a) :=
  call_isXE (X := X.suite a ((a, oe) :: pn)) (p := (a, oe)) List.mem_cons_self hz hf
end Sw
set_option Elab.async false
set_option linter.all false
set_option maxRecDepth 100000
set_option maxHeartbeats 2000000
/-! A try with several handlers, some with a name for the exception (`except A as e`), some without. -/
namespace Sw
open PySem PySem.Spec PyProof.Rows L2
/-- a handler: its class, the slot of its name (if it has one), what its suite reads -/
abbrev Hdl := Value × Option Nat × (Addr → Value → Option Addr → TS)
/-- behind a handler its name is gone -/
def endsH (D : Ends) : Option Nat → Ends
  | none => D
  | some i => ⟨fun σ H => D.nx (σ.set i none) H, D.rt, fun σ H => D.bk (σ.set i none) H, fun σ H => D.ct (σ.set i none) H⟩
def bindH (σ : L2.St) (a : Addr) : Option Nat → L2.St
  | none => σ
  | some i => σ.set i (some (.ref a))
def wMix (K : PySem.W.Frag) (O : WX) (D : Ends) : List Hdl → WX
  | [] => O
  | (c, o, ts) :: l => fun cls d σ H => ∃ k, PySem.W.exmOne K cls c = some k ∧ (k = true → ∀ a, H a = none → ts a cls d (endsH D o) (bindH σ a o) H) ∧ (k = false → wMix K O D l cls d σ H)
inductive HdsMix (X : Cx) : List ExceptHandler → List Hdl → Prop
  | nil : HdsMix X [] []
  | bare {x : Str} {c : Value} {ts : Addr → Value → Option Addr → TS} {st : Stmt} {sts : List Stmt} {p p' : Pos} {hs : List ExceptHandler} {l : List Hdl} : Names X x c →
      (∀ (a : Addr) (o : Obj) (cls : Value) (d : Option Addr) (pn : List (Addr × Obj)), L2N.Zn cls d o → (∃ vs, o.data = .fields vs) → PSs (X.suite a ((a, o) :: pn)) (st :: sts) (ts a cls d)) →
      HdsMix X hs l → HdsMix X (.ExceptHandler (some (.Name x p)) none (st :: sts) p' :: hs) ((c, none, ts) :: l)
  | named {x n : Str} {c : Value} {i : Nat} {ts : Addr → Value → Option Addr → TS} {st : Stmt} {sts : List Stmt} {p p' : Pos} {hs : List ExceptHandler} {l : List Hdl} : Names X x c → X.N[i]? = some n → X.env.kindOf n = some .local →
      (∀ (a : Addr) (o : Obj) (cls : Value) (d : Option Addr) (pn : List (Addr × Obj)), L2N.Zn cls d o → (∃ vs, o.data = .fields vs) → PSs (X.suite a ((a, o) :: pn)) (st :: sts) (ts a cls d)) →
      HdsMix X hs l → HdsMix X (.ExceptHandler (some (.Name x p)) (some n) (st :: sts) p' :: hs) ((c, some i, ts) :: l)
section
variable {X : Cx} {bd : List Stmt} {h1 : ExceptHandler} {hr : List ExceptHandler} {l : List Hdl} {pos : Pos} {tb : WX → TS} {O : WX}
theorem ps_try_mix (st : X.stack = X.env :: X.outer) (fr : X.env.frame = some X.env.locals) (nod : X.N.Nodup) (tk : L2N.Takes X O)
    (body : ∀ (W : WX) (pn : List (Addr × Obj)) (xe : Value → Shared → Prop), L2N.Takes (X.tr pn xe) W → PassesOwn (model X.prog X.w) X.A X.env xe → PSs (X.tr pn xe) bd (tb W)) (hds : HdsMix X (h1 :: hr) l) :
    PS X (.Try bd (h1 :: hr) [] [] pos) (fun D σ H => tb (wMix X.K O D l) D σ H) := by
  constructor
  intro pins s σ H D I red
  have ok := I.ok
  have stk : X.A.frames = some (X.env :: X.outer) := ok.frames.trans (congrArg some st)
  apply wpAny_Try_except
  have run := (body (wMix X.K O D l) (X.pn ++ pins) (fun e s₁ => wpAny (model X.prog X.w) X.A (noteFrame e X.env) (fun _ s₂ => wpAny (model X.prog X.w) X.A (setFlight e none)
    (fun _ s₃ => wpAny (model X.prog X.w) X.A (handleBy e X.env (h1 :: hr)) (SP X pins D) X.xe s₃) X.xe s₂) X.xe s₁) (fun u s' caught => ?_) PassesOwn.looking).run [] s σ H D (I.toTry _) red
  · refine wpAny_mono run (fun f s1 e => ?_) fun _ _ x => x
    cases f with
    | next => obtain ⟨σ', H', J, q⟩ := e; exact wpAny_execs_nil ⟨σ', H', J.ofTry ok, q⟩
    | brk => obtain ⟨σ', H', J, q⟩ := e; exact ⟨σ', H', J.ofTry ok, q⟩
    | cont => obtain ⟨σ', H', J, q⟩ := e; exact ⟨σ', H', J.ofTry ok, q⟩
    | ret u => obtain ⟨v, σ', H', J, r, q⟩ := e; exact ⟨v, σ', H', J.ofTry ok, r, q⟩
  obtain ⟨a, B, sI, pins', σ', H', cls, d, rfl, JT, nb, up, sky, na, os, ag, wish⟩ := caught
  have J : Inv X pins σ' H' sI := JT.ofTry ok
  rw [st] at sky
  show wpAny (model X.prog X.w) X.A (noteFrame (.ref a) X.env) _ _ _
  refine L2N.Sky.land L2N.Zn.steady stk fr sky fun h3 fly up3 => ?_
  have J3 : Inv X pins σ' H' { s' with heap := h3 } := J.landed nb fly.1 (up.trans up3) os ag
  obtain ⟨o3, vs3, at3, z3, dt3⟩ := fly.there
  have out : a ∉ frs (X.env :: X.outer) := fun hm => by
    obtain ⟨_, o', e', hnf⟩ := fly.2.2.1.mem hm
    rw [at3] at e'; cases e'
    exact hnf _ dt3
  have nL : a ≠ X.env.locals := fun z => out (List.mem_filterMap.mpr ⟨_, List.mem_cons_self, by rw [fr, z]⟩)
  have nF : a ∉ X.fs := fun hm => by
    obtain ⟨e, he, q⟩ := List.mem_filterMap.mp hm
    exact out (List.mem_filterMap.mpr ⟨e, List.mem_cons_of_mem _ he, q⟩)
  have S3 := J3.suite at3 dt3 na nL nF
  -- the handlers, one behind the other
  have look : PySem.W.Looks (model X.prog X.w) h3 (typeOf (.ref a)) cls := fun A Q E s k q => wpAny_typeOf_ref (k _ _ at3) (by rw [z3.1]; exact q)
  have name : ∀ {x : Str} {c : Value} {p : Pos}, Names X x c → ∀ {Q E : Value → Shared → Prop}, Q c { s' with heap := h3 } → wpAny (model X.prog X.w) (X.A.mark (some (.ref a))) (eval (.Name x p) X.env) Q E { s' with heap := h3 } := by
    rintro x c p ⟨hg, hdbg, hm⟩ Q E q
    rcases hm with hm | ⟨hm, hv, hnn⟩
    · exact ld_glob (X := X.suite a ((a, o3) :: (X.pn ++ pins))) S3 hg hm q hdbg
    · exact ld_blt (X := X.suite a ((a, o3) :: (X.pn ++ pins))) S3 hg hm hv q hnn hdbg
  have go : ∀ {hs' : List ExceptHandler} {l' : List Hdl}, HdsMix X hs' l' → wMix X.K O D l' cls d σ' H' → wpAny (model X.prog X.w) X.A (handleBy (.ref a) X.env hs') (SP X pins D) X.xe { s' with heap := h3 } := by
    intro hs' l' hk
    induction hk with
    | nil =>
      intro w
      apply wpAny_handleBy_nil
      obtain ⟨_, _, _, oe, vs, T, oT, ts', he, hz, hd, g1, hr⟩ := id fly
      unfold PySem.passOn
      refine wpAny_bind (wpAny_field he hd g1 ?_)
      rw [if_neg (show ¬ ((Value.ref T == Value.none) = true) by simp)]
      have last : wpAny (model X.prog X.w) X.A (setFlight (.ref a) X.env.frame) (fun _ s4 => wpAny (model X.prog X.w) X.A (throw (.ref a) : Sem Flow) (SP X pins D) X.xe s4) X.xe { s' with heap := h3 } := by
        rw [fr]
        refine HandSPX.setFlight_upZ fly fun h4 hh4 up4 => wpAny_throw (tk _ _ ⟨a, B, sI, pins, σ', H', cls, d, rfl, J, nb, (up.trans up3).trans up4, .inr (.inr ?_), na, os, ag, w⟩)
        rw [st]; exact hh4
      first
        | exact wpAny_bind (wpAny_pure (wpAny_bind last))
        | exact wpAny_bind last
    | bare nm suite r ih =>
      rintro ⟨k, ek, yes, no⟩
      refine wpAny_handleBy_cons (codeAny_handlers_test ?_) (by intro q; cases q)
      refine name nm ((PySem.W.exm_one (M := model X.prog X.w) J3.kIn look ek).here ?_)
      cases k with
      | false => exact ih (no rfl)
      | true =>
        apply codeAny_handlers_suite
        refine HandSPX.lands_againZ fly fun h4 fly4 up4 => ?_
        have J4 : Inv X pins σ' H' { s' with heap := h4 } := J.landed nb fly4.1 ((up.trans up3).trans up4) os ag
        obtain ⟨o4, vs4, at4, z4, dt4⟩ := fly4.there
        refine wpAny_mono ((suite a o4 cls d (X.pn ++ pins) z4 ⟨_, dt4⟩).run [] _ _ H' _ (J4.suite at4 dt4 na nL nF) (yes rfl a na)) (fun f s6 e => ?_) (fun _ _ z => z.elim)
        cases f with
        | next => obtain ⟨σ6, H6, S6, q6⟩ := e; exact ⟨_, _, S6.unsuite ok, q6⟩
        | brk => obtain ⟨σ6, H6, S6, q6⟩ := e; exact ⟨_, _, S6.unsuite ok, q6⟩
        | cont => obtain ⟨σ6, H6, S6, q6⟩ := e; exact ⟨_, _, S6.unsuite ok, q6⟩
        | ret u => obtain ⟨v6, σ6, H6, S6, r6, q6⟩ := e; exact ⟨_, _, _, S6.unsuite ok, r6, q6⟩
    | @named x n c i ts st' sts p p' hs2 l2 nm hi hln suite r ih =>
      rintro ⟨k, ek, yes, no⟩
      refine wpAny_handleBy_cons (codeAny_handlers_test ?_) (by intro q; cases q)
      refine name nm ((PySem.W.exm_one (M := model X.prog X.w) J3.kIn look ek).here ?_)
      cases k with
      | false => exact ih (no rfl)
      | true =>
        apply codeAny_handlers_suite_as
        refine HandSPX.lands_againZ fly fun h4 fly4 up4 => ?_
        have J4 : Inv X pins σ' H' { s' with heap := h4 } := J.landed nb fly4.1 ((up.trans up3).trans up4) os ag
        obtain ⟨o4, vs4, at4, z4, dt4⟩ := fly4.there
        refine store_ok (X := X.suite a ((a, o4) :: (X.pn ++ pins))) (v := .ref a) (J4.suite at4 dt4 na nL nF) nod hi (.inl hln) rfl (fun s5 S5 => ?_) (.inr hln)
        refine wpAny_mono ((suite a o4 cls d (X.pn ++ pins) z4 ⟨_, dt4⟩).run [] s5 _ H' _ S5 (yes rfl a na)) (fun f s6 e => ?_) (fun _ _ z => z.elim)
        have fin : ∀ {σ6 : L2.St} {H6 : Hp} {Q : Shared → Prop}, Inv (X.suite a ((a, o4) :: (X.pn ++ pins))) [] σ6 H6 s6 → (∀ s7, Inv X pins (σ6.set i none) H6 s7 → Q s7) →
            wpAny (model X.prog X.w) X.A (do bindName X.env n .none; unbindBehindTheSuite X.env n p') (fun _ s7 => Q s7) X.xe s6 := fun S6 k => gone_ok (S6.unsuite ok) nod hi hln k
        cases f with
        | next => obtain ⟨σ6, H6, S6, q6⟩ := e; exact fin S6 fun s7 J7 => ⟨_, _, J7, q6⟩
        | brk => obtain ⟨σ6, H6, S6, q6⟩ := e; exact fin S6 fun s7 J7 => ⟨_, _, J7, q6⟩
        | cont => obtain ⟨σ6, H6, S6, q6⟩ := e; exact fin S6 fun s7 J7 => ⟨_, _, J7, q6⟩
        | ret u => obtain ⟨v6, σ6, H6, S6, r6, q6⟩ := e; exact fin S6 fun s7 J7 => ⟨_, _, _, J7, r6, q6⟩
  exact go hds wish
end
end Sw
set_option Elab.async false
set_option linter.all false
set_option maxRecDepth 100000
set_option maxHeartbeats 8000000
namespace KM
open PySem PySem.Spec PyProof.Rows L2 He Sw L2H
section
variable {P : Program} {w : World} {K : PySem.W.Frag} {mg : Str → Option Value} {base : Heap}
local macro_rules | `(tactic| row_room_at ne) => `(tactic| with_reducible assumption)
local macro_rules | `(tactic| row_room_at hp) => `(tactic| (apply SameBut.use; with_reducible assumption; rotate_left; row_room_at hp; row_room_at ne))
local macro_rules | `(tactic| row_room_at hp) => `(tactic| (apply FoAt.same; rotate_left; with_reducible assumption; row_room_at hp))
local macro_rules | `(tactic| row_room_at hp) => `(tactic| (apply Sw.Same.use; with_reducible assumption; row_room_at hp))
local macro_rules | `(tactic| row_room_at hp) => `(tactic| (apply SqT.of; row_room_at hp))
local macro_rules | `(tactic| row_room_at hp) => `(tactic| (apply SqL.of; row_room_at hp))
local macro_rules | `(tactic| row_room_at hp) => `(tactic| with_reducible assumption)
local macro_rules | `(tactic| row_room_at ati) => `(tactic| first | with_reducible assumption | rfl | (apply atI_nat; rfl))
local macro_rules | `(tactic| row_room_at cc) => `(tactic| first | with_reducible assumption | omega | decide | (refine ⟨?_, ?_⟩ <;> first | decide | omega) | (refine ⟨?_, ?_, ?_⟩ <;> first | decide | omega) | (left; refine ⟨?_, ?_⟩ <;> first | decide | omega) | (right; refine ⟨?_, ?_⟩ <;> first | decide | omega))
local macro_rules | `(tactic| row_room_at rdts) => `(tactic| with_reducible apply rd_retN)
local macro_rules | `(tactic| row_room_at rdts) => `(tactic| with_reducible apply rd_cont)
local macro_rules | `(tactic| row_room_at rdts) => `(tactic| with_reducible apply rd_brk)
local macro_rules | `(tactic| row_room_at rdts) => `(tactic| with_reducible apply rd_dput)
local macro_rules | `(tactic| row_room_at rdts) => `(tactic| with_reducible apply rd_drop)
local macro_rules | `(tactic| row_room_at rdts) => `(tactic| with_reducible apply rd_for)
local macro_rules | `(tactic| row_room_at rdts) => `(tactic| with_reducible apply rd_ret)
local macro_rules | `(tactic| row_room_at rdts) => `(tactic| with_reducible apply rd_next)
local macro_rules | `(tactic| row_room_at rdts) => `(tactic| with_reducible apply rd_ifS)
local macro_rules | `(tactic| row_room_at rdts) => `(tactic| with_reducible apply rd_asg)
local macro_rules | `(tactic| row_room_at rdts) => `(tactic| with_reducible refine rd_seqN fun _ _ => ?_)
local macro_rules | `(tactic| row_room_at rdit) => `(tactic| with_reducible refine rd_iteNF (by with_unfolding_all decide +kernel) ?_)
local macro_rules | `(tactic| row_room_at rdit) => `(tactic| with_reducible refine rd_iteNT (by with_unfolding_all decide +kernel) ?_)
local macro_rules | `(tactic| row_room_at rdit) => `(tactic| with_reducible apply rd_iteN0)
local macro_rules | `(tactic| row_room_at rdit) => `(tactic| with_reducible apply rd_iteN1)
local macro_rules | `(tactic| row_room_at rdit) => `(tactic| with_reducible apply rd_ite1)
local macro_rules | `(tactic| row_room_at rdit) => `(tactic| with_reducible apply rd_ite0)
local macro_rules | `(tactic| row_room_at rdit) => `(tactic| with_reducible refine rd_iteT (by with_unfolding_all decide +kernel) ?_)
local macro_rules | `(tactic| row_room_at rdit) => `(tactic| with_reducible refine rd_iteF (by with_unfolding_all decide +kernel) ?_)
local macro_rules | `(tactic| row_room_at rdex) => `(tactic| with_reducible apply rd_inS)
local macro_rules | `(tactic| row_room_at rdex) => `(tactic| with_reducible apply rd_min2)
local macro_rules | `(tactic| row_room_at rdex) => `(tactic| with_reducible apply rd_1S)
local macro_rules | `(tactic| row_room_at rdex) => `(tactic| with_reducible apply rd_2S)
local macro_rules | `(tactic| row_room_at rdex) => `(tactic| with_reducible refine rd_fld' (by with_unfolding_all row_room_at hp) (by with_unfolding_all assumption) (by with_unfolding_all assumption) (by with_unfolding_all rfl) ?_)
local macro_rules | `(tactic| row_room_at rdex) => `(tactic| with_reducible refine rd_ty (by with_unfolding_all row_room_at hp) ?_)
local macro_rules | `(tactic| row_room_at rdex) => `(tactic| with_reducible refine rd_itup' (by with_unfolding_all row_room_at hp) ?_)
local macro_rules | `(tactic| row_room_at rdex) => `(tactic| with_reducible refine rd_ilist' (by with_unfolding_all row_room_at hp) ?_)
local macro_rules | `(tactic| row_room_at rdex) => `(tactic| with_reducible apply rd_1B)
local macro_rules | `(tactic| row_room_at rdex) => `(tactic| with_reducible refine rd_dgetS (by with_unfolding_all row_room_at hp) (by with_unfolding_all assumption) ?_)
local macro_rules | `(tactic| row_room_at rdex) => `(tactic| with_reducible refine rd_dget' (by with_unfolding_all row_room_at hp) (by with_unfolding_all rfl) (by with_unfolding_all assumption) ?_)
local macro_rules | `(tactic| row_room_at rdex) => `(tactic| with_reducible refine rd_len (by with_unfolding_all first | exact .inl (by row_room_at hp) | exact .inr (by row_room_at hp)) ?_)
local macro_rules | `(tactic| row_room_at rdex) => `(tactic| with_reducible refine rd_lenQ (by with_unfolding_all first | exact .inl (by row_room_at hp) | exact .inr (by row_room_at hp)) ?_)
local macro_rules | `(tactic| row_room_at rdex) => `(tactic| with_reducible apply rd_2I)
local macro_rules | `(tactic| row_room_at rdex) => `(tactic| with_reducible refine rd_b62 (by with_unfolding_all first | decide | (constructor <;> omega)) ?_)
local macro_rules | `(tactic| row_room_at rdex) => `(tactic| with_reducible refine rd_lenS (by with_unfolding_all omega) ?_)
local macro_rules | `(tactic| row_room_at rdex) => `(tactic| with_reducible apply rd_1I)
local macro_rules | `(tactic| row_room_at rdex) => `(tactic| with_reducible apply rd_int1)
local macro_rules | `(tactic| row_room_at rdex) => `(tactic| with_reducible apply rd_iv)
local macro_rules | `(tactic| row_room_at rdex) => `(tactic| with_reducible refine rd_sz (by with_unfolding_all first | decide | (simp only [List.length_append, List.length_map, List.length_cons, List.length_nil, List.length_take]; omega)) ?_)
local macro_rules | `(tactic| row_room_at rdex) => `(tactic| with_reducible apply rd_bl)
local macro_rules | `(tactic| row_room_at rdhd) => `(tactic| with_reducible apply rd_m1)
local macro_rules | `(tactic| row_room_at rdhd) => `(tactic| with_reducible apply rd_fld)
local macro_rules | `(tactic| row_room_at rdhd) => `(tactic| with_reducible refine rd_append (by with_unfolding_all row_room_at hp) (by with_unfolding_all first | decide | (simp only [List.length_append, List.length_map, List.length_cons, List.length_nil]; omega)) ?_)
local macro_rules | `(tactic| row_room_at rdhd) => `(tactic| with_reducible apply rd_bm)
local macro_rules | `(tactic| row_room_at rdhd) => `(tactic| with_reducible apply rd_yes)
local macro_rules | `(tactic| row_room_at rdhd) => `(tactic| with_reducible apply rd_lc)
local macro_rules | `(tactic| row_room_at rdhd) => `(tactic| with_reducible apply rd_itup)
local macro_rules | `(tactic| row_room_at rdhd) => `(tactic| with_reducible apply rd_ilist)
local macro_rules | `(tactic| row_room_at rdhd) => `(tactic| with_reducible refine rd_dictK (by with_unfolding_all row_room_at hp) ?_)
local macro_rules | `(tactic| row_room_at rdhd) => `(tactic| with_reducible refine rd_lenK (by with_unfolding_all first | exact .inl (by row_room_at hp) | exact .inr (by row_room_at hp)) ?_)
local macro_rules | `(tactic| row_room_at rdhd) => `(tactic| with_reducible apply rd_methI)
local macro_rules | `(tactic| row_room_at rdhd) => `(tactic| with_reducible apply rd_dget)
local macro_rules | `(tactic| row_room_at rdhd) => `(tactic| with_reducible apply rd_if)
local macro_rules | `(tactic| row_room_at rdhd) => `(tactic| with_reducible apply rd_notV)
local macro_rules | `(tactic| row_room_at rdhd) => `(tactic| with_reducible apply rd_orV)
local macro_rules | `(tactic| row_room_at rdhd) => `(tactic| with_reducible apply rd_andV)
local macro_rules | `(tactic| row_room_at rdhd) => `(tactic| with_reducible apply rd_U)
local macro_rules | `(tactic| row_room_at rdhd) => `(tactic| with_reducible apply rd_un)
local macro_rules | `(tactic| row_room_at rdhd) => `(tactic| with_reducible refine rd_cat (by with_unfolding_all row_room_at hp) (by with_unfolding_all row_room_at hp) (by with_unfolding_all first | decide | (simp only [List.length_append, List.length_map, List.length_cons, List.length_nil, List.length_take]; omega)) ?_)
local macro_rules | `(tactic| row_room_at rdhd) => `(tactic| with_reducible refine rd_slL (by with_unfolding_all row_room_at hp) ?_)
local macro_rules | `(tactic| row_room_at rdhd) => `(tactic| with_reducible apply rd_nopart)
local macro_rules | `(tactic| row_room_at rdhd) => `(tactic| with_reducible apply rd_make)
local macro_rules | `(tactic| row_room_at rdhd) => `(tactic| with_reducible apply rd_kt)
local macro_rules | `(tactic| row_room_at rdhd) => `(tactic| with_reducible apply rd_rng1)
local macro_rules | `(tactic| row_room_at rdhd) => `(tactic| with_reducible refine rd_ne (by with_unfolding_all rfl) ?_)
local macro_rules | `(tactic| row_room_at rdhd) => `(tactic| with_reducible apply rd_and)
local macro_rules | `(tactic| row_room_at rdhd) => `(tactic| with_reducible apply rd_B)
local macro_rules | `(tactic| row_room_at rdhd) => `(tactic| with_reducible apply rd_not)
local macro_rules | `(tactic| row_room_at rdhd) => `(tactic| with_reducible refine rd_ixL (by with_unfolding_all row_room_at hp) (by with_unfolding_all row_room_at ati) ?_)
local macro_rules | `(tactic| row_room_at rdhd) => `(tactic| with_reducible apply rd_gNil)
local macro_rules | `(tactic| row_room_at rdhd) => `(tactic| with_reducible refine rd_gTup (by with_unfolding_all (apply SqT.of; row_room_at hp)) (by with_unfolding_all rfl) ?_)
local macro_rules | `(tactic| row_room_at rdhd) => `(tactic| with_reducible apply rd_sl)
local macro_rules | `(tactic| row_room_at rdhd) => `(tactic| with_reducible refine rd_I (by with_unfolding_all row_room_at cc) ?_)
local macro_rules | `(tactic| row_room_at rdhd) => `(tactic| with_reducible apply rd_or)
local macro_rules | `(tactic| row_room_at rdhd) => `(tactic| with_reducible apply rd_lst)
local macro_rules | `(tactic| row_room_at rdhd) => `(tactic| with_reducible apply rd_gCons)
local macro_rules | `(tactic| row_room_at rdhd) => `(tactic| with_reducible apply rd_part)
local macro_rules | `(tactic| row_room_at rdhd) => `(tactic| with_reducible apply rd_tup)
local macro_rules | `(tactic| row_room_at rdhd) => `(tactic| with_reducible apply rd_I0)
local macro_rules | `(tactic| row_room_at rdhd) => `(tactic| with_reducible apply rd_CB)
local macro_rules | `(tactic| row_room_at rdhd) => `(tactic| with_reducible refine rd_ixT (by with_unfolding_all row_room_at hp) (by with_unfolding_all row_room_at ati) ?_)
local macro_rules | `(tactic| row_room_at rdhd) => `(tactic| with_reducible refine rd_eq (by with_unfolding_all rfl) ?_)
local macro_rules | `(tactic| row_room_at rdhd) => `(tactic| with_reducible apply rd_call)
local macro_rules | `(tactic| row_room_at rdhd) => `(tactic| with_reducible apply rd_gName)
local macro_rules | `(tactic| row_room_at rdhd) => `(tactic| with_reducible apply rd_test)
local macro_rules | `(tactic| row_room_at rdhd) => `(tactic| with_reducible apply rd_cons)
local macro_rules | `(tactic| row_room_at rdhd) => `(tactic| with_reducible apply rd_consC)
local macro_rules | `(tactic| row_room_at rdhd) => `(tactic| with_reducible refine rd_consV (by with_unfolding_all rfl) ?_)
local macro_rules | `(tactic| row_room_at rdhd) => `(tactic| with_reducible apply rd_nil)
local macro_rules | `(tactic| row_room_at rdhd) => `(tactic| with_reducible apply rd_c)
local macro_rules | `(tactic| row_room_at rdhd) => `(tactic| with_reducible refine rd_var (by with_unfolding_all rfl) ?_)
local macro_rules | `(tactic| row_room_at rdhd) => `(tactic| with_reducible apply rd_op)
local macro_rules | `(tactic| row_room_at rdsz) => `(tactic| with_reducible refine rd_sz (by with_unfolding_all first | decide | (simp only [List.length_append, List.length_map, List.length_cons, List.length_nil, List.length_take]; omega)) ?_)
local macro_rules | `(tactic| row_room_at rd1) => `(tactic| with_reducible refine rd_unN (by with_reducible assumption) ?_)
local macro_rules | `(tactic| row_room_at rd1) => `(tactic| ((fail_if_success with_reducible apply g_sp); (fail_if_success with_reducible apply g_ite); row_room_at rdex))
local macro_rules | `(tactic| row_room_at rd1) => `(tactic| ((fail_if_success with_reducible apply g_sp); (fail_if_success with_reducible intro _); row_room_at rdhd))
local macro_rules | `(tactic| row_room_at rd1) => `(tactic| row_room_at rdsz)
local macro_rules | `(tactic| row_room_at rd1) => `(tactic| ((with_reducible apply g_ex); row_room_at rdex))
local macro_rules | `(tactic| row_room_at rd1) => `(tactic| ((with_reducible apply g_ite); row_room_at rdit))
local macro_rules | `(tactic| row_room_at rd1) => `(tactic| ((with_reducible apply g_ts); row_room_at rdts))
local macro_rules | `(tactic| row_room_at rd) => `(tactic| repeat row_room_at rd1)
/-! ### _law_copies -/
def noH : Hp := fun _ => none
theorem TrWs.rep {H0 H : Hp} {f : Fo} {t : Addr} (h : TrW H0 H f t) : ∀ n : Nat, TrWs H0 H (List.replicate n f) (List.replicate n t)
  | 0 => rfl
  | n + 1 => ⟨t, List.replicate n t, rfl, h, TrWs.rep h n⟩
theorem partsL_rep (f : Fo) : ∀ n : Nat, Fo.partsL (List.replicate n f) = n * f.parts
  | 0 => by simp [Fo.partsL]
  | n + 1 => by simp only [List.replicate_succ, Fo.partsL, partsL_rep f n, Nat.succ_mul]; omega
theorem depthL_rep (f : Fo) : ∀ n : Nat, Fo.depthL (List.replicate n f) ≤ f.depth
  | 0 => by simp [Fo.depthL]
  | n + 1 => by have := depthL_rep f n; simp only [List.replicate_succ, Fo.depthL]; omega
theorem rep_snoc {α : Type} (n : Nat) (a : α) : List.replicate (n + 1) a = List.replicate n a ++ [a] := by rw [List.replicate_succ']
def spCopies : Sp := fun vs H Q _ => ∃ (f : Fo) (t cl : Addr) (H0 : Hp) (cs : List Int), vs = [.ref t, .ref cl] ∧ H cl = some (.lst (cs.map V.int)) ∧ (∀ c ∈ cs, 3 ≤ c ∧ c ≤ 4) ∧ f.Pre ∧ TrW H0 H f t ∧
  ∀ f' t' H', f'.Pre → f'.depth ≤ f.depth + cs.length → f'.parts + 1 ≤ 4 ^ cs.length * (f.parts + 1) → TrW noH H' f' t' → Same H H' → Q (.ref t') H'
theorem sc__law_copies : FnScope ["_law_tree_here", "_law_counts", "_law_many", "_law_k"] ["_law_tree_here", "_law_counts"] (defScope s__law_copies) := ⟨rfl, rfl, rfl, by decide +kernel, rfl, by decide +kernel, by decide +kernel⟩
theorem ok__law_copies (T : Txt K mg) : Cal P w K mg base CX0 (2) (ga K "_law_copies") ["_law_tree_here", "_law_counts"] spCopies := by
  obtain ⟨fd, F⟩ := T.f__law_copies
  refine ⟨fd, ?_, F.kp, F.bindsN fun _ _ _ _ _ _ us hl => match us, hl with | [_, _], _ => rfl⟩
  refine F.ok sc__law_copies (fun vs H Q E h => ?_) (fun cdv A outer s H vs Q E hr h => ?_)
  · obtain ⟨_, _, _, _, _, rfl, _⟩ := h
    rfl
  have nod := sc__law_copies.nd
  have hu := hu_of hr
  refine ⟨_, PSs.nox (pss_cons (ps_for PassesOwn.never rfl (pi_list (pv 1)) (pg_name (i := 2) nod rfl (Or.inl rfl))
    (pss_one (ps_set (i := 0) nod rfl (Or.inr rfl) (pe_tup (pa_cons pe_str (pa_cons pe_str (pa_cons (pe_lc (own := [("_law_k", 3)]) (te := (tVar 0)) (g := (gName 3)) (tt := tYes) rfl nod (pi_range1 rfl (T.f "range") (pa_cons (pv 2) pa_nil)) (blkOk_by (N := ["_law_tree_here", "_law_counts", "_law_many", "_law_k"]) (sc := defScope s__law_copies) (by decide +kernel)) (fun _ _ _ _ _ => (pg_name (i := 3) nod rfl (Or.inl rfl))) (fun _ _ _ _ _ => pts_nil) (fun _ _ _ _ _ => (pv 0))) pa_nil)))))))
  (pss_one (ps_ret (pv 0)))), ?_⟩
  obtain ⟨f, t, cl, H0, cs, rfl, ec, hc, pre, tr, q⟩ := h
  have tr : TrW noH H f t := TrW.weak (fun _ _ => rfl) tr
  row_room_at rd
  refine for_list (K := K) (a := cl) (xs := cs.map V.int) (fun i σ H' => ∃ f1 t1 v2, σ = [some (.ref t1), some (.ref cl), v2, none] ∧ Same H H' ∧ f1.Pre ∧ f1.depth ≤ f.depth + i ∧ f1.parts + 1 ≤ 4 ^ i * (f.parts + 1) ∧ TrW noH H' f1 t1) ⟨f, t, none, rfl, Same.refl _, pre, by omega, by omega, tr⟩ (fun i σ H' _ ⟨_, _, _, _, s, _⟩ => SqL.of (s _ _ ec)) (fun i x σ H1 hx ⟨f1, t1, v2, hσ, s1, pre1, d1, p1, tr1⟩ => ?_) (fun σ H1 ⟨f1, t1, v2, hσ, s1, pre1, d1, p1, tr1⟩ => ?_)
  · subst hσ
    obtain ⟨c, hc', rfl⟩ : ∃ c, cs[i]? = some c ∧ x = .int c := by
      rw [List.getElem?_map] at hx
      cases h : cs[i]? with
      | none => rw [h] at hx; cases hx
      | some p => rw [h] at hx; injection hx with hx; exact ⟨p, rfl, hx.symm⟩
    obtain ⟨c3, c4⟩ := hc c (List.mem_of_getElem? hc')
    obtain ⟨n, rfl⟩ := Int.eq_ofNat_of_zero_le (show 0 ≤ c by omega)
    row_room_at rd
    rw [Int.toNat_natCast]
    refine fun D hD => ?_
    have up : ∀ {H' : Hp} {o : HO}, Same H1 H' → Same H1 (upd H' D o) := fun {H' o} s' b o' e => by rw [upd_ne (ne_of_none e hD)]; exact s' _ _ e
    refine loop_it (walk_range (lo := 0) (n := n)) (fun j H' => Same H1 H' ∧ H' D = some (.lst ((List.replicate j t1).map V.ref))) ⟨up (Same.refl _), upd_same⟩ (fun _ _ _ _ => trivial) (fun j x' H2 H3 hj ⟨s2, e2⟩ ⟨hH, hx⟩ => ?_) (fun H2 ⟨s2, e2⟩ => ?_)
    · subst hH hx
      row_room_at rd
      refine ⟨rfl, ?_⟩
      row_room_at rd
      refine ⟨_, e2, by rw [List.length_map, List.length_replicate, sizeLine_eq]; omega, up s2, by rw [upd_same, rep_snoc, List.map_append]; rfl⟩
    · row_room_at rd
      refine rd_new fun t2 H3 ht2 s3 e3 => ?_
      row_room_at rd
      have dp : (Fo.call "g" (List.replicate n f1)).depth ≤ f1.depth + 1 := by have := depthL_rep f1 n; rw [dps_call]; omega
      have pp : (Fo.call "g" (List.replicate n f1)).parts = 1 + n * f1.parts := by rw [pts_call, partsL_rep]
      refine ⟨.call "g" (List.replicate n f1), t2, _, rfl, s1.trans (s2.trans s3), ?_, by omega, ?_, ?_⟩
      · simp only [Fo.Pre]
        exact ⟨⟨by decide +kernel, by decide +kernel⟩, by rw [List.length_replicate]; omega, by rw [List.length_replicate]; omega, Fo.preL_mem.mpr fun g hg => by rw [List.eq_of_mem_replicate hg]; exact pre1⟩
      · have : n * f1.parts ≤ 4 * f1.parts := Nat.mul_le_mul_right _ (by omega)
        rw [pp, Nat.pow_succ, Nat.mul_comm (4 ^ i) 4, Nat.mul_assoc]
        omega
      · simp only [TrW]
        exact ⟨D, List.replicate n t1, e3, s3 _ _ e2, rfl, TrWs.rep (TrW.same (s2.trans s3) tr1) n⟩
  · subst hσ
    rw [List.length_map] at d1 p1
    row_room_at rd
    exact q f1 t1 H1 pre1 d1 p1 tr1 s1
/-! ### _law_answer -/
section
variable (KD : KeysAt K w (ga K "KINDS") ["+", "-", "*", "<"])
include KD
/-- what an answer's tuple holds -/
def AnsFt (K : PySem.W.Frag) (H : Hp) (f : Fo) (o : Option Ft) (u : Addr) : Prop := match o with
  | none => ∃ b, H u = some (.tup [.str "told", .ref b]) ∧ FoAt K H f b
  | some (.bd i) => ∃ b, H u = some (.tup [.str "bound", .ref b]) ∧ FoAt K H (.nam i) b
  | some (.nm i) => H u = some (.tup [.str "name", .str i])
  | some .mny => H u = some (.tup [.str "many", .non])
def AnsAt (K : PySem.W.Frag) (H : Hp) (r : Except Nat Fo) (u : Addr) : Prop := match r with
  | .error q => H u = some (.tup [.str "text", .int q])
  | .ok f => AnsFt K H f f.fault u
def spAns (K : PySem.W.Frag) : Sp := fun vs H Q _ => ∃ (z : Str), vs = [.str z] ∧ z.length ≤ 300000 ∧ pTree (TL.tl z) 60 0 ≠ .error ((TL.tl z).length + 1) ∧ (∀ f, pRead (TL.tl z) 60 = .ok f → f.depth ≤ 60 ∧ f.Pre) ∧
  ∀ u H', Same H H' → AnsAt K H' (pRead (TL.tl z) 60) u → Q (.ref u) H'
omit KD in
theorem sc__law_answer : FnScope ["_law_text_here", "_law_answer_here", "e"] ["_law_text_here"] (defScope s__law_answer) := ⟨rfl, rfl, rfl, by decide +kernel, rfl, by decide +kernel, by decide +kernel⟩
theorem ok__law_answer (T : Txt K mg) : Cal P w K mg base CX0 145 (ga K "_law_answer") ["_law_text_here"] (spAns K) := by
  obtain ⟨fd, F⟩ := T.f__law_answer
  obtain ⟨fdM, GM, kM, bM⟩ := okE_read_formula (P := P) (w := w) (base := base) T KD
  refine ⟨fd, ?_, F.kp, F.bindsN fun _ _ _ _ _ _ us hl => match us, hl with | [_], _ => rfl⟩
  refine F.ok sc__law_answer (fun vs H Q E h => ?_) (fun cdv A outer s H vs Q E hr h => ?_)
  · obtain ⟨v, rfl, _⟩ := h
    rfl
  obtain ⟨z, rfl, hz, hne, ho, q⟩ := h
  have nod := sc__law_answer.nd
  refine ⟨_, pss_cons (ps_set (i := 1) nod rfl (Or.inl rfl) (pe_tup (pa_cons pe_str (pa_cons pe_non pa_nil))))
    (pss_cons (ps_try_mix (O := fun _ _ _ _ => False) rfl rfl nod (fun _ _ ⟨_, _, _, _, _, _, _, _, _, _, _, _, _, _, _, _, w⟩ => w.elim)
      (fun W pn xe tkW po => pss_one (ps_set (i := 1) nod rfl (Or.inl rfl) (pe_tup (pa_cons pe_str (pa_cons (pe_callS (E := L2.WE W) GM (hr.mono (by omega)) rfl (T.g "read_formula") kM bM (fun σ => L2N.passAt tkW σ) (pa_cons (pv 0) pa_nil)) pa_nil)))))
      (.named (i := 2) (x := "BadText") (c := .ref (ga K "BadText")) ⟨rfl, by decide, .inl (T.g "BadText")⟩ rfl rfl (fun a o cls d pn hz hf => pss_one (ps_set (i := 1) nod rfl (Or.inl rfl) (pe_tup (pa_cons pe_str (pa_cons (pe_xfE hz.zc hf (pv 2)) pa_nil)))))
      (.named (i := 2) (x := "BadBound") (c := .ref (ga K "BadBound")) ⟨rfl, by decide, .inl (T.g "BadBound")⟩ rfl rfl (fun a o cls d pn hz hf => pss_one (ps_set (i := 1) nod rfl (Or.inl rfl) (pe_tup (pa_cons pe_str (pa_cons (pe_xfE hz.zc hf (pv 2)) pa_nil)))))
      (.named (i := 2) (x := "BadName") (c := .ref (ga K "BadName")) ⟨rfl, by decide, .inl (T.g "BadName")⟩ rfl rfl (fun a o cls d pn hz hf => pss_one (ps_set (i := 1) nod rfl (Or.inl rfl) (pe_tup (pa_cons pe_str (pa_cons (pe_xfE hz.zc hf (pv 2)) pa_nil)))))
      (.named (i := 2) (x := "TooMany") (c := .ref (ga K "TooMany")) ⟨rfl, by decide, .inl (T.g "TooMany")⟩ rfl rfl (fun a o cls d pn hz hf => pss_one (ps_set (i := 1) nod rfl (Or.inl rfl) (pe_tup (pa_cons pe_str (pa_cons (pe_xfE hz.zc hf (pv 2)) pa_nil)))))
      (.bare (x := "SameError") (c := .ref (ga K "SameError")) ⟨rfl, by decide, .inl (T.g "SameError")⟩ (fun a o cls d pn hz hf => pss_one (ps_set (i := 1) nod rfl (Or.inl rfl) (pe_tup (pa_cons pe_str (pa_cons pe_non pa_nil)))))
      .nil))))))
    (pss_one (ps_ret (pv 1)))), ?_⟩
  have ex : ∀ {x y : Str} {b : Bool}, x ∈ errL → y ∈ errL → decide (x = y) = b → PySem.W.exmOne K (.ref (ga K x)) (.ref (ga K y)) = some b := fun hx hy e => by rw [T.exmE _ hx _ hy, e]
  have mT : ("BadText" : Str) ∈ errL := by decide +kernel
  have mB : ("BadBound" : Str) ∈ errL := by decide +kernel
  have mN : ("BadName" : Str) ∈ errL := by decide +kernel
  have mM : ("TooMany" : Str) ∈ errL := by decide +kernel
  row_room_at rd
  refine rd_new fun u0 H0 hu0 s0 e0 => ?_
  row_room_at rd
  rename_i nx hnx
  refine ⟨_, rfl, z, rfl, hz, hne, ho, fun f b H1 hF hf s1 hb => ?_, fun f e hF hf => ?_, fun q' hF H1 d s1 hd ed => ?_⟩
  · row_room_at rd
    refine rd_new fun u H2 hu s2 e2 => ?_
    row_room_at rd
    exact q u H2 (s0.trans (s1.trans s2)) (by rw [hF]; show AnsFt K H2 f f.fault u; rw [hf]; exact ⟨b, e2, hb.same s2⟩)
  · have qa : ∀ u H2, Same H0 H2 → AnsFt K H2 f (some e) u → Q (.ref u) H2 := fun u H2 s a => q u H2 (s0.trans s) (by rw [hF]; show AnsFt K H2 f f.fault u; rw [hf]; exact a)
    cases e with
    | bd i =>
      intro H1 b s1 hb H2 d s2 hd ed
      have TB := T.err "BadBound" mB
      refine ⟨false, ex mB mT (by decide +kernel), (fun z => nomatch z), fun _ => ⟨true, ex mB mB (by decide +kernel), fun _ a ha => ?_, fun z => nomatch z⟩⟩
      refine ⟨_, rfl, rfl, ga K "BadBound", d, [("value", V.ref b)], V.ref b, rfl, TB.xf, TB.nv, rfl, ed, rfl, ?_⟩
      refine ⟨tsz (by show 2 ≤ 1000000; decide), fun r hr' => ?_⟩
      have s3 := upd_new (o := .tup [V.str "bound", V.ref b]) hr'
      have er : (upd H2 r (.tup [V.str "bound", V.ref b])) r = some (.tup [V.str "bound", V.ref b]) := upd_same
      generalize upd H2 r (.tup [V.str "bound", V.ref b]) = H3 at s3 er ⊢
      refine rd_gName ?_
      show nx _ _
      rw [hnx]
      row_room_at rd
      exact qa r H3 (s1.trans (s2.trans s3)) ⟨b, er, (hb.same s2).same s3⟩
    | nm i =>
      intro H2 d s2 hd ed
      have TB := T.err "BadName" mN
      refine ⟨false, ex mN mT (by decide +kernel), (fun z => nomatch z), fun _ => ⟨false, ex mN mB (by decide +kernel), (fun z => nomatch z), fun _ => ⟨true, ex mN mN (by decide +kernel), fun _ a ha => ?_, fun z => nomatch z⟩⟩⟩
      refine ⟨_, rfl, rfl, ga K "BadName", d, [("value", V.str i)], V.str i, rfl, TB.xf, TB.nv, rfl, ed, rfl, ?_⟩
      refine ⟨tsz (by show 2 ≤ 1000000; decide), fun r hr' => ?_⟩
      have s3 := upd_new (o := .tup [V.str "name", V.str i]) hr'
      have er : (upd H2 r (.tup [V.str "name", V.str i])) r = some (.tup [V.str "name", V.str i]) := upd_same
      generalize upd H2 r (.tup [V.str "name", V.str i]) = H3 at s3 er ⊢
      refine rd_gName ?_
      show nx _ _
      rw [hnx]
      row_room_at rd
      exact qa r H3 (s2.trans s3) er
    | mny =>
      intro H2 d s2 hd ed
      have TB := T.err "TooMany" mM
      refine ⟨false, ex mM mT (by decide +kernel), (fun z => nomatch z), fun _ => ⟨false, ex mM mB (by decide +kernel), (fun z => nomatch z), fun _ => ⟨false, ex mM mN (by decide +kernel), (fun z => nomatch z), fun _ => ⟨true, ex mM mM (by decide +kernel), fun _ a ha => ?_, fun z => nomatch z⟩⟩⟩⟩
      refine ⟨_, rfl, rfl, ga K "TooMany", d, [("value", V.non)], V.non, rfl, TB.xf, TB.nv, rfl, ed, rfl, ?_⟩
      refine ⟨tsz (by show 2 ≤ 1000000; decide), fun r hr' => ?_⟩
      have s3 := upd_new (o := .tup [V.str "many", V.non]) hr'
      have er : (upd H2 r (.tup [V.str "many", V.non])) r = some (.tup [V.str "many", V.non]) := upd_same
      generalize upd H2 r (.tup [V.str "many", V.non]) = H3 at s3 er ⊢
      refine rd_gName ?_
      show nx _ _
      rw [hnx]
      row_room_at rd
      exact qa r H3 (s2.trans s3) er
  · have TB := T.err "BadText" mT
    refine ⟨true, ex mT mT (by decide +kernel), fun _ a ha => ?_, fun z => nomatch z⟩
    refine ⟨_, rfl, rfl, ga K "BadText", d, [("value", V.int q')], V.int q', rfl, TB.xf, TB.nv, rfl, ed, rfl, ?_⟩
    refine ⟨tsz (by show 2 ≤ 1000000; decide), fun r hr' => ?_⟩
    have s2 := upd_new (o := .tup [V.str "text", V.int q']) hr'
    have er : (upd H1 r (.tup [V.str "text", V.int q'])) r = some (.tup [V.str "text", V.int q']) := upd_same
    generalize upd H1 r (.tup [V.str "text", V.int q']) = H2 at s2 er ⊢
    refine rd_gName ?_
    show nx _ _
    rw [hnx]
    row_room_at rd
    exact q r H2 (s0.trans (s1.trans s2)) (by rw [hF]; exact er)
end
/-! ### _law_right -/
section
variable (SG : ∃ es n, KDict K w (ga K "SIGNS") es n) (KD : KeysAt K w (ga K "KINDS") ["+", "-", "*", "<"])
include SG KD
def spRight (K : PySem.W.Frag) : Sp := fun vs H Q _ => ∃ (f : Fo) (v : V), vs = [.str f.txt, v] ∧ f.Pre ∧ f.depth ≤ 60 ∧ f.parts ≤ 1100 ∧ FtAt H f.fault v ∧ ∀ H', Same H H' → Q (.bl true) H'
omit SG KD in
theorem sc__law_right : FnScope ["_law_text_here", "_law_fault", "_law_answer_here"] ["_law_text_here", "_law_fault"] (defScope s__law_right) := ⟨rfl, rfl, rfl, by decide +kernel, rfl, by decide +kernel, by decide +kernel⟩
theorem ok__law_right (T : Txt K mg) : Cal P w K mg base CX0 (150) (ga K "_law_right") ["_law_text_here", "_law_fault"] (spRight K) := by
  obtain ⟨fd, F⟩ := T.f__law_right
  refine ⟨fd, ?_, F.kp, F.bindsN fun _ _ _ _ _ _ us hl => match us, hl with | [_, _], _ => rfl⟩
  refine F.ok sc__law_right (fun vs H Q E h => ?_) (fun cdv A outer s H vs Q E hr h => ?_)
  · obtain ⟨_, _, rfl, _⟩ := h
    rfl
  have nod := sc__law_right.nd
  have hu := hu_of hr
  refine ⟨_, PSs.nox (pss_cons (ps_set (i := 2) nod rfl (Or.inl rfl) (pe_callC (ok__law_answer KD T) (hr.mono (by omega)) rfl (T.g "_law_answer") pass0 (pa_cons (pv 0) pa_nil)))
  (pss_cons (ps_if (pt_cmpR op_isN (pv 1) pe_non (nomark _))
    (pss_one (ps_ret (pe_and (pe_cmpR op_eq (pe_ix ix_tup (pv 2) pe_int (fun _ _ => rfl)) pe_str (nomark _)) (pe_one (pe_cmpR op_eq (pe_callC (ok_write_formula SG T) (hr.mono (by omega)) rfl (T.g "write_formula") pass0 (pa_cons (pe_ix ix_tup (pv 2) pe_int (fun _ _ => rfl)) pa_nil)) (pv 0) (nomark _))))))
    pss_nil)
  (pss_cons (ps_if (pt_cmpR op_ne (pe_ix ix_tup (pv 2) pe_int (fun _ _ => rfl)) (pe_ix ix_tup (pv 1) pe_int (fun _ _ => rfl)) (nomark _))
    (pss_one (ps_ret pe_bl))
    pss_nil)
  (pss_cons (ps_if (pt_cmpR op_eq (pe_ix ix_tup (pv 1) pe_int (fun _ _ => rfl)) pe_str (nomark _))
    (pss_one (ps_ret (pe_cmpR op_isN (pe_ix ix_tup (pv 2) pe_int (fun _ _ => rfl)) pe_non (nomark _))))
    pss_nil)
  (pss_cons (ps_if (pt_cmpR op_eq (pe_ix ix_tup (pv 1) pe_int (fun _ _ => rfl)) pe_str (nomark _))
    (pss_one (ps_ret (pe_and (pe_callB call_isi rfl (T.f "isinstance") (by decide +kernel) (pa_cons (pe_ix ix_tup (pv 2) pe_int (fun _ _ => rfl)) (pa_cons (pe_bltn (v := .ty "str") rfl (T.f "str") (by decide +kernel) rfl) pa_nil))) (pe_one (pe_cmpR op_eq (pe_ix ix_tup (pv 2) pe_int (fun _ _ => rfl)) (pe_ix ix_tup (pv 1) pe_int (fun _ _ => rfl)) (nomark _))))))
    pss_nil)
  (pss_cons (ps_if (PW.pt (pw_or (pt_not (pt_val (pe_callB call_isi rfl (T.f "isinstance") (by decide +kernel) (pa_cons (pe_ix ix_tup (pv 2) pe_int (fun _ _ => rfl)) (pa_cons (pe_glob (v := .ref (ga K "Formula")) rfl (T.g "Formula") rfl) pa_nil))))) (pw_or1 (pt_cmpR op_ne (pe_fld (pe_ix ix_tup (pv 2) pe_int (fun _ _ => rfl)) rfl) pe_str (nomark _)))))
    (pss_one (ps_ret pe_bl))
    pss_nil)
  (pss_one (ps_ret (pe_and (pe_callB call_isi rfl (T.f "isinstance") (by decide +kernel) (pa_cons (pe_fld (pe_ix ix_tup (pv 2) pe_int (fun _ _ => rfl)) rfl) (pa_cons (pe_bltn (v := .ty "tuple") rfl (T.f "tuple") (by decide +kernel) rfl) pa_nil))) (pe_and (pe_cmpR op_eq (pe_callB call_lenK rfl (T.f "len") (by decide +kernel) (pa_cons (pe_fld (pe_ix ix_tup (pv 2) pe_int (fun _ _ => rfl)) rfl) pa_nil)) pe_int (nomark _)) (pe_one (pe_cmpR op_eq (pe_ix ix_tup (pe_fld (pe_ix ix_tup (pv 2) pe_int (fun _ _ => rfl)) rfl) pe_int (fun _ _ => rfl)) (pe_ix ix_tup (pv 1) pe_int (fun _ _ => rfl)) (nomark _))))))))))))), ?_⟩
  obtain ⟨f, v, rfl, ok, fd60, fp, fv, q⟩ := h
  have tl := txt_leP ok fp
  have r1 := pRead_P ok fd60
  have r2 := read_P ok fd60
  row_room_at rd
  refine ⟨f.txt, rfl, by omega, by rw [r2]; exact (fun z => nomatch z), fun g e => by rw [r1] at e; injection e with e; rw [← e]; exact ⟨fd60, ok⟩, fun u H1 s1 ha => ?_⟩
  rw [r1] at ha
  have ha : AnsFt K H1 f f.fault u := ha
  have fv := fv.same s1
  cases hf : f.fault with
  | none =>
    rw [hf] at ha fv
    obtain ⟨b, eu, hb⟩ := ha
    have fv : v = .non := fv
    subst fv
    obtain ⟨fok, fit⟩ := Fo.ok_of ok hf
    row_room_at rd
    refine ⟨rfl, ?_⟩
    row_room_at rd
    refine ⟨f, b, rfl, fok, fit, hb, fun H2 s2 => ?_⟩
    row_room_at rd
    rw [decide_eq_true rfl]
    exact q H2 (s1.trans s2)
  | some e =>
    rw [hf] at ha fv
    cases e with
    | mny =>
      obtain ⟨t, rfl, et⟩ := fv
      have ha : H1 u = some (.tup [.str "many", .non]) := ha
      row_room_at rd
      refine ⟨rfl, ?_⟩
      row_room_at rd
      refine ite2 (fun h => absurd h (by simp)) (fun _ => ?_)
      row_room_at rd
      exact ⟨rfl, by rw [decide_eq_true rfl]; exact q H1 s1⟩
    | nm i =>
      obtain ⟨t, rfl, et⟩ := fv
      have ha : H1 u = some (.tup [.str "name", .str i]) := ha
      row_room_at rd
      refine ⟨rfl, ?_⟩
      row_room_at rd
      refine ite2 (fun h => absurd h (by simp)) (fun _ => ?_)
      row_room_at rd
      refine ⟨.str i, .ty "str", .type "str", .type "str", true, rfl, .ty _, .base (.str _), kit_ty (show kitB _ _ = some true by decide +kernel), ?_⟩
      row_room_at rd
      rw [decide_eq_true rfl]
      exact q H1 s1
    | bd i =>
      obtain ⟨t, rfl, et⟩ := fv
      obtain ⟨b, eu, hb⟩ := ha
      obtain ⟨dx, th, tht, xs, eb, eth, sh, fk⟩ := hb.opened
      have I := T.ins _ (Fo.nam i).cls_mem
      have nk := I.no "kind" (by decide +kernel)
      have nt := I.no "things" (by decide +kernel)
      have Icl := I.cl
      have tyf : TyX K H1 (.ref b) (.ref (ga K (Fo.nam i).cls)) := .base (.ins eb I.cl I.ha I.hn I.ht I.hm)
      have kf := kitF T (Fo.nam i).cls_mem
      cases sh
      simp only [Fo.kind] at eb
      row_room_at rd
      refine ⟨rfl, ?_⟩
      row_room_at rd
      refine ite2 (fun h => absurd h (by simp)) (fun _ => ?_)
      row_room_at rd
      refine ⟨.ref b, _, _, _, true, rfl, .own _, tyf, kf, ?_⟩
      row_room_at rd
      refine ⟨.ref th, .ty "tuple", .type "tuple", .type "tuple", true, rfl, .ty _, .base (.tup eth), kit_ty (show kitB _ _ = some true by decide +kernel), ?_⟩
      row_room_at rd
      rw [show decide (V.int (([V.str i].length : Nat) : Int) = V.int 1) = true from rfl]
      row_room_at rd
      rw [decide_eq_true rfl]
      exact q H1 s1
end

end
end KM
set_option Elab.async false
set_option linter.all false
set_option maxRecDepth 100000
set_option maxHeartbeats 8000000
namespace KM
open PySem PySem.Spec PyProof.Rows L2 He Sw L2H
section
variable {P : Program} {w : World} {K : PySem.W.Frag} {mg : Str → Option Value} {base : Heap}
local macro_rules | `(tactic| row_room_at ne) => `(tactic| with_reducible assumption)
local macro_rules | `(tactic| row_room_at hp) => `(tactic| (apply SameBut.use; with_reducible assumption; rotate_left; row_room_at hp; row_room_at ne))
local macro_rules | `(tactic| row_room_at hp) => `(tactic| (apply FoAt.same; rotate_left; with_reducible assumption; row_room_at hp))
local macro_rules | `(tactic| row_room_at hp) => `(tactic| (apply Sw.Same.use; with_reducible assumption; row_room_at hp))
local macro_rules | `(tactic| row_room_at hp) => `(tactic| (apply SqT.of; row_room_at hp))
local macro_rules | `(tactic| row_room_at hp) => `(tactic| (apply SqL.of; row_room_at hp))
local macro_rules | `(tactic| row_room_at hp) => `(tactic| with_reducible assumption)
local macro_rules | `(tactic| row_room_at ati) => `(tactic| first | with_reducible assumption | rfl | (apply atI_nat; rfl))
local macro_rules | `(tactic| row_room_at cc) => `(tactic| first | with_reducible assumption | omega | decide | (refine ⟨?_, ?_⟩ <;> first | decide | omega) | (refine ⟨?_, ?_, ?_⟩ <;> first | decide | omega) | (left; refine ⟨?_, ?_⟩ <;> first | decide | omega) | (right; refine ⟨?_, ?_⟩ <;> first | decide | omega))
local macro_rules | `(tactic| row_room_at rdts) => `(tactic| with_reducible apply rd_retN)
local macro_rules | `(tactic| row_room_at rdts) => `(tactic| with_reducible apply rd_cont)
local macro_rules | `(tactic| row_room_at rdts) => `(tactic| with_reducible apply rd_brk)
local macro_rules | `(tactic| row_room_at rdts) => `(tactic| with_reducible apply rd_dput)
local macro_rules | `(tactic| row_room_at rdts) => `(tactic| with_reducible apply rd_drop)
local macro_rules | `(tactic| row_room_at rdts) => `(tactic| with_reducible apply rd_for)
local macro_rules | `(tactic| row_room_at rdts) => `(tactic| with_reducible apply rd_ret)
local macro_rules | `(tactic| row_room_at rdts) => `(tactic| with_reducible apply rd_next)
local macro_rules | `(tactic| row_room_at rdts) => `(tactic| with_reducible apply rd_ifS)
local macro_rules | `(tactic| row_room_at rdts) => `(tactic| with_reducible apply rd_asg)
local macro_rules | `(tactic| row_room_at rdts) => `(tactic| with_reducible refine rd_seqN fun _ _ => ?_)
local macro_rules | `(tactic| row_room_at rdit) => `(tactic| with_reducible refine rd_iteNF (by with_unfolding_all decide +kernel) ?_)
local macro_rules | `(tactic| row_room_at rdit) => `(tactic| with_reducible refine rd_iteNT (by with_unfolding_all decide +kernel) ?_)
local macro_rules | `(tactic| row_room_at rdit) => `(tactic| with_reducible apply rd_iteN0)
local macro_rules | `(tactic| row_room_at rdit) => `(tactic| with_reducible apply rd_iteN1)
local macro_rules | `(tactic| row_room_at rdit) => `(tactic| with_reducible apply rd_ite1)
local macro_rules | `(tactic| row_room_at rdit) => `(tactic| with_reducible apply rd_ite0)
local macro_rules | `(tactic| row_room_at rdit) => `(tactic| with_reducible refine rd_iteT (by with_unfolding_all decide +kernel) ?_)
local macro_rules | `(tactic| row_room_at rdit) => `(tactic| with_reducible refine rd_iteF (by with_unfolding_all decide +kernel) ?_)
local macro_rules | `(tactic| row_room_at rdex) => `(tactic| with_reducible apply rd_inS)
local macro_rules | `(tactic| row_room_at rdex) => `(tactic| with_reducible apply rd_min2)
local macro_rules | `(tactic| row_room_at rdex) => `(tactic| with_reducible apply rd_1S)
local macro_rules | `(tactic| row_room_at rdex) => `(tactic| with_reducible apply rd_2S)
local macro_rules | `(tactic| row_room_at rdex) => `(tactic| with_reducible refine rd_fld' (by with_unfolding_all row_room_at hp) (by with_unfolding_all assumption) (by with_unfolding_all assumption) (by with_unfolding_all rfl) ?_)
local macro_rules | `(tactic| row_room_at rdex) => `(tactic| with_reducible refine rd_ty (by with_unfolding_all row_room_at hp) ?_)
local macro_rules | `(tactic| row_room_at rdex) => `(tactic| with_reducible refine rd_itup' (by with_unfolding_all row_room_at hp) ?_)
local macro_rules | `(tactic| row_room_at rdex) => `(tactic| with_reducible refine rd_ilist' (by with_unfolding_all row_room_at hp) ?_)
local macro_rules | `(tactic| row_room_at rdex) => `(tactic| with_reducible apply rd_1B)
local macro_rules | `(tactic| row_room_at rdex) => `(tactic| with_reducible refine rd_dgetS (by with_unfolding_all row_room_at hp) (by with_unfolding_all assumption) ?_)
local macro_rules | `(tactic| row_room_at rdex) => `(tactic| with_reducible refine rd_dget' (by with_unfolding_all row_room_at hp) (by with_unfolding_all rfl) (by with_unfolding_all assumption) ?_)
local macro_rules | `(tactic| row_room_at rdex) => `(tactic| with_reducible refine rd_len (by with_unfolding_all first | exact .inl (by row_room_at hp) | exact .inr (by row_room_at hp)) ?_)
local macro_rules | `(tactic| row_room_at rdex) => `(tactic| with_reducible refine rd_lenQ (by with_unfolding_all first | exact .inl (by row_room_at hp) | exact .inr (by row_room_at hp)) ?_)
local macro_rules | `(tactic| row_room_at rdex) => `(tactic| with_reducible apply rd_2I)
local macro_rules | `(tactic| row_room_at rdex) => `(tactic| with_reducible refine rd_b62 (by with_unfolding_all first | decide | (constructor <;> omega)) ?_)
local macro_rules | `(tactic| row_room_at rdex) => `(tactic| with_reducible refine rd_lenS (by with_unfolding_all omega) ?_)
local macro_rules | `(tactic| row_room_at rdex) => `(tactic| with_reducible apply rd_1I)
local macro_rules | `(tactic| row_room_at rdex) => `(tactic| with_reducible apply rd_int1)
local macro_rules | `(tactic| row_room_at rdex) => `(tactic| with_reducible apply rd_iv)
local macro_rules | `(tactic| row_room_at rdex) => `(tactic| with_reducible refine rd_sz (by with_unfolding_all first | decide | (simp only [List.length_append, List.length_map, List.length_cons, List.length_nil, List.length_take]; omega)) ?_)
local macro_rules | `(tactic| row_room_at rdex) => `(tactic| with_reducible apply rd_bl)
local macro_rules | `(tactic| row_room_at rdhd) => `(tactic| with_reducible apply rd_m1)
local macro_rules | `(tactic| row_room_at rdhd) => `(tactic| with_reducible apply rd_fld)
local macro_rules | `(tactic| row_room_at rdhd) => `(tactic| with_reducible refine rd_append (by with_unfolding_all row_room_at hp) (by with_unfolding_all first | decide | (simp only [List.length_append, List.length_map, List.length_cons, List.length_nil]; omega)) ?_)
local macro_rules | `(tactic| row_room_at rdhd) => `(tactic| with_reducible apply rd_bm)
local macro_rules | `(tactic| row_room_at rdhd) => `(tactic| with_reducible apply rd_yes)
local macro_rules | `(tactic| row_room_at rdhd) => `(tactic| with_reducible apply rd_lc)
local macro_rules | `(tactic| row_room_at rdhd) => `(tactic| with_reducible apply rd_itup)
local macro_rules | `(tactic| row_room_at rdhd) => `(tactic| with_reducible apply rd_ilist)
local macro_rules | `(tactic| row_room_at rdhd) => `(tactic| with_reducible refine rd_dictK (by with_unfolding_all row_room_at hp) ?_)
local macro_rules | `(tactic| row_room_at rdhd) => `(tactic| with_reducible refine rd_lenK (by with_unfolding_all first | exact .inl (by row_room_at hp) | exact .inr (by row_room_at hp)) ?_)
local macro_rules | `(tactic| row_room_at rdhd) => `(tactic| with_reducible apply rd_methI)
local macro_rules | `(tactic| row_room_at rdhd) => `(tactic| with_reducible apply rd_dget)
local macro_rules | `(tactic| row_room_at rdhd) => `(tactic| with_reducible apply rd_if)
local macro_rules | `(tactic| row_room_at rdhd) => `(tactic| with_reducible apply rd_notV)
local macro_rules | `(tactic| row_room_at rdhd) => `(tactic| with_reducible apply rd_orV)
local macro_rules | `(tactic| row_room_at rdhd) => `(tactic| with_reducible apply rd_andV)
local macro_rules | `(tactic| row_room_at rdhd) => `(tactic| with_reducible apply rd_U)
local macro_rules | `(tactic| row_room_at rdhd) => `(tactic| with_reducible apply rd_un)
local macro_rules | `(tactic| row_room_at rdhd) => `(tactic| with_reducible refine rd_cat (by with_unfolding_all row_room_at hp) (by with_unfolding_all row_room_at hp) (by with_unfolding_all first | decide | (simp only [List.length_append, List.length_map, List.length_cons, List.length_nil, List.length_take]; omega)) ?_)
local macro_rules | `(tactic| row_room_at rdhd) => `(tactic| with_reducible refine rd_slL (by with_unfolding_all row_room_at hp) ?_)
local macro_rules | `(tactic| row_room_at rdhd) => `(tactic| with_reducible apply rd_nopart)
local macro_rules | `(tactic| row_room_at rdhd) => `(tactic| with_reducible apply rd_make)
local macro_rules | `(tactic| row_room_at rdhd) => `(tactic| with_reducible apply rd_kt)
local macro_rules | `(tactic| row_room_at rdhd) => `(tactic| with_reducible apply rd_rng1)
local macro_rules | `(tactic| row_room_at rdhd) => `(tactic| with_reducible refine rd_ne (by with_unfolding_all rfl) ?_)
local macro_rules | `(tactic| row_room_at rdhd) => `(tactic| with_reducible apply rd_and)
local macro_rules | `(tactic| row_room_at rdhd) => `(tactic| with_reducible apply rd_B)
local macro_rules | `(tactic| row_room_at rdhd) => `(tactic| with_reducible apply rd_not)
local macro_rules | `(tactic| row_room_at rdhd) => `(tactic| with_reducible refine rd_ixL (by with_unfolding_all row_room_at hp) (by with_unfolding_all row_room_at ati) ?_)
local macro_rules | `(tactic| row_room_at rdhd) => `(tactic| with_reducible apply rd_gNil)
local macro_rules | `(tactic| row_room_at rdhd) => `(tactic| with_reducible refine rd_gTup (by with_unfolding_all (apply SqT.of; row_room_at hp)) (by with_unfolding_all rfl) ?_)
local macro_rules | `(tactic| row_room_at rdhd) => `(tactic| with_reducible apply rd_sl)
local macro_rules | `(tactic| row_room_at rdhd) => `(tactic| with_reducible refine rd_I (by with_unfolding_all row_room_at cc) ?_)
local macro_rules | `(tactic| row_room_at rdhd) => `(tactic| with_reducible apply rd_or)
local macro_rules | `(tactic| row_room_at rdhd) => `(tactic| with_reducible apply rd_lst)
local macro_rules | `(tactic| row_room_at rdhd) => `(tactic| with_reducible apply rd_gCons)
local macro_rules | `(tactic| row_room_at rdhd) => `(tactic| with_reducible apply rd_part)
local macro_rules | `(tactic| row_room_at rdhd) => `(tactic| with_reducible apply rd_tup)
local macro_rules | `(tactic| row_room_at rdhd) => `(tactic| with_reducible apply rd_I0)
local macro_rules | `(tactic| row_room_at rdhd) => `(tactic| with_reducible apply rd_CB)
local macro_rules | `(tactic| row_room_at rdhd) => `(tactic| with_reducible refine rd_ixT (by with_unfolding_all row_room_at hp) (by with_unfolding_all row_room_at ati) ?_)
local macro_rules | `(tactic| row_room_at rdhd) => `(tactic| with_reducible refine rd_eq (by with_unfolding_all rfl) ?_)
local macro_rules | `(tactic| row_room_at rdhd) => `(tactic| with_reducible apply rd_call)
local macro_rules | `(tactic| row_room_at rdhd) => `(tactic| with_reducible apply rd_gName)
local macro_rules | `(tactic| row_room_at rdhd) => `(tactic| with_reducible apply rd_test)
local macro_rules | `(tactic| row_room_at rdhd) => `(tactic| with_reducible apply rd_cons)
local macro_rules | `(tactic| row_room_at rdhd) => `(tactic| with_reducible apply rd_consC)
local macro_rules | `(tactic| row_room_at rdhd) => `(tactic| with_reducible refine rd_consV (by with_unfolding_all rfl) ?_)
local macro_rules | `(tactic| row_room_at rdhd) => `(tactic| with_reducible apply rd_nil)
local macro_rules | `(tactic| row_room_at rdhd) => `(tactic| with_reducible apply rd_c)
local macro_rules | `(tactic| row_room_at rdhd) => `(tactic| with_reducible refine rd_var (by with_unfolding_all rfl) ?_)
local macro_rules | `(tactic| row_room_at rdhd) => `(tactic| with_reducible apply rd_op)
local macro_rules | `(tactic| row_room_at rdsz) => `(tactic| with_reducible refine rd_sz (by with_unfolding_all first | decide | (simp only [List.length_append, List.length_map, List.length_cons, List.length_nil, List.length_take]; omega)) ?_)
local macro_rules | `(tactic| row_room_at rd1) => `(tactic| with_reducible refine rd_unN (by with_reducible assumption) ?_)
local macro_rules | `(tactic| row_room_at rd1) => `(tactic| ((fail_if_success with_reducible apply g_sp); (fail_if_success with_reducible apply g_ite); row_room_at rdex))
local macro_rules | `(tactic| row_room_at rd1) => `(tactic| ((fail_if_success with_reducible apply g_sp); (fail_if_success with_reducible intro _); row_room_at rdhd))
local macro_rules | `(tactic| row_room_at rd1) => `(tactic| row_room_at rdsz)
local macro_rules | `(tactic| row_room_at rd1) => `(tactic| ((with_reducible apply g_ex); row_room_at rdex))
local macro_rules | `(tactic| row_room_at rd1) => `(tactic| ((with_reducible apply g_ite); row_room_at rdit))
local macro_rules | `(tactic| row_room_at rd1) => `(tactic| ((with_reducible apply g_ts); row_room_at rdts))
local macro_rules | `(tactic| row_room_at rd) => `(tactic| repeat row_room_at rd1)
/-! ### the law -/
theorem cut20 (ns : List Int) : ∃ cs : List Int, cutV (ns.map V.int) none (some 20) = cs.map V.int ∧ cs.length ≤ 20 := by
  refine ⟨ns.take (min 20 ns.length), ?_, by rw [List.length_take]; omega⟩
  have e := HT.sIx_nat (ns.map V.int).length (ns.map V.int).length 20
  unfold cutV
  rw [HT.sIx_none]
  rw [show (some (20 : Int)) = some ((20 : Nat) : Int) from rfl, e, List.length_map]
  simp [List.map_take]
theorem last_cut {z : Str} (h : cutS z (some (-1)) none = ")") : 41 ∈ TL.tl z := by
  have e : TL.tl (cutS z (some (-1)) none) = [41] := by rw [h]; decide +kernel
  have m : 41 ∈ TL.tl (cutS z (some (-1)) none) := by rw [e]; exact List.mem_singleton.mpr rfl
  unfold cutS at m
  exact List.mem_of_mem_drop (List.mem_of_mem_take m)
theorem cut_less {z : Str} (h : 1 ≤ z.length) : cutS z none (some (-1)) = mk ((TL.tl z).take ((TL.tl z).length - 1)) := by
  have e1 : HT.sIx z.length 0 none = 0 := rfl
  have e2 : HT.sIx z.length z.length (some (-1)) = z.length - 1 := by
    unfold HT.sIx
    simp only []
    split <;> omega
  unfold cutS
  rw [e1, e2, Nat.sub_zero, List.drop_zero, TL.len_tl]
  rfl
theorem ne_txt {K : PySem.W.Frag} {H : Hp} {u t : Addr} {q : Int} {Q : VK} (hu : H u = some (.tup [.str "text", .int q])) (ht : H t = some (.tup [.str "text", .int q])) (k : Q (.bl false) H) : rNeD K (.ref u) (.ref t) H Q := by
  have on : PyData.strOk "text" = true := by decide +kernel
  refine ⟨.tuple [.str "text", .int q], .tuple [.str "text", .int q], .tup (SqT.of hu) (.cons (.str _) (.cons (.int _) .nil)), .tup (SqT.of ht) (.cons (.str _) (.cons (.int _) .nil)), ?_, ?_, ?_⟩
  · simp [SeqAt.shaped, PyData.canLay0, PyData.canLayAll0, PyData.depth, PyData.depthAll, on]
  · simp [SeqAt.shaped, PyData.canLay0, PyData.canLayAll0, PyData.depth, PyData.depthAll, on]
  · have : PyData.eqv (.tuple [.str "text", .int q]) (.tuple [.str "text", .int q]) = true := by simp [PyData.eqv, PyData.eqvAll]
    rw [this]; exact k
theorem ints_rm {H : Hp} {rm x : Addr} {r : Int} {cs : List Int} (h : H rm = some (.lst [.int r])) (e : H x = some (.lst (cs.map V.int))) (l : cs.length ≠ 1) : x ≠ rm := fun z => by
  rw [z, h] at e
  injection e with e
  injection e with e
  have := congrArg List.length e
  rw [List.length_map] at this
  exact l this.symm
def spLaw (K : PySem.W.Frag) : Sp := fun vs H Q _ => ∃ (a : Addr) (ns : List Int), vs = [.ref a] ∧ SqL K H a (ns.map V.int) ∧ ∀ H', Q (.bl true) H'
section
variable (SG : ∃ es n, KDict K w (ga K "SIGNS") es n) (KD : KeysAt K w (ga K "KINDS") ["+", "-", "*", "<"])
include SG KD
omit SG KD in
theorem sc_law : FnScope ["_law_script", "_law_cells", "_law_k", "_law_stream_here", "_law_signs", "_law_counts", "_law_room", "_law_tree_here", "_law_j", "_law_text_here"] ["_law_script"] (defScope sLaw) := ⟨rfl, rfl, rfl, by decide +kernel, rfl, by decide +kernel, by decide +kernel⟩
theorem ok_law (T : Txt K mg) {fd : FuncData} (F : FnG K "law" sLaw fd) : FnOk P w K mg base CX0 200 (ga K "law") fd ["_law_script"] (spLaw K) := by
  refine F.ok sc_law (fun vs H Q E h => ?_) (fun cdv A outer s H vs Q E hr h => ?_)
  · obtain ⟨_, _, rfl, _⟩ := h
    rfl
  have nod := sc_law.nd
  have hu := hu_of hr
  refine ⟨_, PSs.nox (pss_cons (ps_set (i := 1) nod rfl (Or.inl rfl) (pe_callTy call_list_of rfl (T.f "list") (by decide +kernel) (pa_cons (pe_slice sl_list (pv 0) po_none (po_some pe_int)) pa_nil)))
  (C8.pss_cut (ps_if (pt_cmpR op_eq (pe_callB call_lenK rfl (T.f "len") (by decide +kernel) (pa_cons (pv 1) pa_nil)) pe_int (nomark _))
    (pss_one (ps_set (i := 1) nod rfl (Or.inl rfl) (pe_lst (pa_cons pe_int pa_nil))))
    pss_nil)
  (pss_cons (ps_for PassesOwn.never rfl (pi_range1 rfl (T.f "range") (pa_cons (pe_callB call_lenK rfl (T.f "len") (by decide +kernel) (pa_cons (pv 1) pa_nil)) pa_nil)) (pg_name (i := 2) nod rfl (Or.inl rfl))
    (pss_cons (ps_set (i := 3) nod rfl (Or.inl rfl) (pe_callC (ok__law_stream T) (hr.mono (by omega)) rfl (T.g "_law_stream") pass0 (pa_cons (pe_ix ix_list (pv 1) (pv 2) (fun _ _ => rfl)) pa_nil)))
    (pss_cons (ps_set (i := 4) nod rfl (Or.inl rfl) pe_int)
    (C8.pss_cut (ps_if (pt_cmpR op_eq (pe_callC (ok__law_draw T) (hr.mono (by omega)) rfl (T.g "_law_draw") pass0 (pa_cons (pv 3) (pa_cons pe_int pa_nil))) pe_int (nomark _))
      (pss_one (ps_set (i := 4) nod rfl (Or.inl rfl) (pe_callC (ok__law_draw T) (hr.mono (by omega)) rfl (T.g "_law_draw") pass0 (pa_cons (pv 3) (pa_cons pe_int pa_nil)))))
      pss_nil)
    (pss_cons (ps_set (i := 5) nod rfl (Or.inl rfl) (pe_lst pa_nil))
    (C8.pss_cut (ps_if (PW.pt (pw_and (pt_cmpR op_eq (pv 2) pe_int (nomark _)) (pw_and1 (pt_cmpR op_eq (pe_callC (ok__law_draw T) (hr.mono (by omega)) rfl (T.g "_law_draw") pass0 (pa_cons (pv 3) (pa_cons pe_int pa_nil))) pe_int (nomark _)))))
      (pss_one (ps_set (i := 5) nod rfl (Or.inl rfl) (pe_lst (pa_cons (pe_op op_add pe_int (pe_callC (ok__law_draw T) (hr.mono (by omega)) rfl (T.g "_law_draw") pass0 (pa_cons (pv 3) (pa_cons pe_int pa_nil)))) (pa_cons (pe_op op_add pe_int (pe_callC (ok__law_draw T) (hr.mono (by omega)) rfl (T.g "_law_draw") pass0 (pa_cons (pv 3) (pa_cons pe_int pa_nil)))) (pa_cons pe_int pa_nil))))))
      pss_nil)
    (pss_cons (ps_set (i := 6) nod rfl (Or.inl rfl) (pe_lst (pa_cons pe_int pa_nil)))
    (C8.pss_cut (ps_if (pt_cmpR op_gt (pe_callB call_lenK rfl (T.f "len") (by decide +kernel) (pa_cons (pv 5) pa_nil)) pe_int (nomark _))
      (pss_one (ps_set (i := 6) nod rfl (Or.inl rfl) (pe_lst (pa_cons pe_int pa_nil))))
      pss_nil)
    (pss_cons (ps_set (i := 7) nod rfl (Or.inl rfl) (pe_callC (ok__law_copies T) (hr.mono (by omega)) rfl (T.g "_law_copies") pass0 (pa_cons (pe_callC (ok__law_tree T 6) (hr.mono (by omega)) rfl (T.g "_law_tree") pass0 (pa_cons (pv 3) (pa_cons (pe_op op_sub pe_int (pe_op op_fdiv (pe_callB call_lenK rfl (T.f "len") (by decide +kernel) (pa_cons (pv 5) pa_nil)) pe_int)) (pa_cons (pv 6) pa_nil)))) (pa_cons (pv 5) pa_nil))))
    (pss_cons (ps_for PassesOwn.never rfl (pi_range1 rfl (T.f "range") (pa_cons (pv 4) pa_nil)) (pg_name (i := 8) nod rfl (Or.inl rfl))
      (pss_one (ps_set (i := 7) nod rfl (Or.inl rfl) (pe_tup (pa_cons pe_str (pa_cons (pv 7) pa_nil))))))
    (pss_cons (ps_set (i := 9) nod rfl (Or.inl rfl) (pe_callC (ok__law_text T 60) (hr.mono (by omega)) rfl (T.g "_law_text") pass0 (pa_cons (pv 7) pa_nil)))
    (pss_cons (ps_if (pt_not (pt_val (pe_callC (ok__law_right SG KD T) (hr.mono (by omega)) rfl (T.g "_law_right") pass0 (pa_cons (pv 9) (pa_cons (pe_ix ix_tup (pe_callC (ok__law_walk T 60) (hr.mono (by omega)) rfl (T.g "_law_walk") pass0 (pa_cons (pv 7) pa_nil)) pe_int (fun _ _ => rfl)) pa_nil)))))
      (pss_one (ps_ret pe_bl))
      pss_nil)
    (pss_one (ps_if (pt_cmpR op_eq (pe_slice sl_str (pv 9) (po_some (pe_un un_neg pe_int)) po_none) pe_str (nomark _))
      (pss_cons (ps_if (pt_cmpR (op_neD hr.units) (pe_callC (ok__law_answer KD T) (hr.mono (by omega)) rfl (T.g "_law_answer") pass0 (pa_cons (pe_slice sl_str (pv 9) po_none (po_some (pe_un un_neg pe_int))) pa_nil)) (pe_tup (pa_cons pe_str (pa_cons (pe_op op_sub (pe_callB call_len_str rfl (T.f "len") (by decide +kernel) (pa_cons (pv 9) pa_nil)) pe_int) pa_nil))) (nomark _))
        (pss_one (ps_ret pe_bl))
        pss_nil)
      (pss_one (ps_if (PW.pt (pw_or (pt_cmpR (op_neD hr.units) (pe_callC (ok__law_answer KD T) (hr.mono (by omega)) rfl (T.g "_law_answer") pass0 (pa_cons (pe_op op_add_str (pe_slice sl_str (pv 9) po_none (po_some (pe_un un_neg pe_int))) pe_str) pa_nil)) (pe_tup (pa_cons pe_str (pa_cons (pe_op op_sub (pe_callB call_len_str rfl (T.f "len") (by decide +kernel) (pa_cons (pv 9) pa_nil)) pe_int) pa_nil))) (nomark _)) (pw_or1 (pt_cmpR (op_neD hr.units) (pe_callC (ok__law_answer KD T) (hr.mono (by omega)) rfl (T.g "_law_answer") pass0 (pa_cons (pe_op op_add_str (pv 9) pe_str) pa_nil)) (pe_tup (pa_cons pe_str (pa_cons (pe_callB call_len_str rfl (T.f "len") (by decide +kernel) (pa_cons (pv 9) pa_nil)) pa_nil))) (nomark _)))))
        (pss_one (ps_ret pe_bl))
        pss_nil)))
      pss_nil))))))))))))))
  (pss_one (ps_ret pe_bl))))), ?_⟩
  obtain ⟨a, ns, rfl, hS, q⟩ := h
  row_room_at rd
  refine rd_slL hS (rd_new fun p H1 hp s1 e1 => ?_)
  obtain ⟨cs, ec, lc⟩ := cut20 ns
  rw [ec] at e1
  row_room_at rd
  refine ⟨p, _, rfl, .inl (SqL.of e1), fun l hl => ?_⟩
  have e2 : (upd H1 l (.lst (cs.map V.int))) l = some (.lst (cs.map V.int)) := upd_same
  generalize upd H1 l (.lst (cs.map V.int)) = H2 at e2 ⊢
  clear e1 s1 hp hl
  row_room_at rd
  refine rd_cut (fun σ' H' => ∃ (l' : Addr) (c : List Int), c.length ≤ 20 ∧ 1 ≤ c.length ∧ H' l' = some (.lst (c.map V.int)) ∧ σ' = [some (.ref a), some (.ref l'), none, none, none, none, none, none, none, none]) ?_ ?_
  · row_room_at rd
    rw [List.length_map]
    refine ite2 (fun _ => ?_) (fun hc => ?_)
    · row_room_at rd
      refine rd_new fun p2 H3 hp s3 e3 => ?_
      exact ⟨p2, [0], by decide, by decide, e3, rfl⟩
    · have : cs.length ≠ 0 := fun z => hc (by rw [z]; exact decide_eq_true rfl)
      row_room_at rd
      exact ⟨l, cs, lc, by omega, e2, rfl⟩
  clear e2 lc ec
  rintro σ' H3 ⟨l', c, l40, l1, e3, rfl⟩
  have lm : (c.map V.int).length ≤ 20 := by rw [List.length_map]; exact l40
  row_room_at rd
  rw [List.length_map, Int.toNat_natCast]
  refine for_range (lo := 0) (n := c.length) (fun _ σ H' => H' l' = some (.lst (c.map V.int)) ∧ ∃ v2 v3 v4 v5 v6 v7 v8 v9, σ = [some (.ref a), some (.ref l'), v2, v3, v4, v5, v6, v7, v8, v9]) ⟨e3, none, none, none, none, none, none, none, none, rfl⟩ ?_ ?_
  · rintro i σ H4 hi ⟨e4, v2, v3, v4, v5, v6, v7, v8, v9, rfl⟩
    have hx : (c.map V.int)[i]? = some (V.int c[i]) := by rw [List.getElem?_map, List.getElem?_eq_getElem hi]; rfl
    have ai : atI (c.map V.int) (0 + (i : Nat)) = some (V.int c[i]) := by rw [Int.zero_add]; exact atI_nat hx
    generalize c[i] = cell at hx ai
    row_room_at rd
    refine ⟨cell, rfl, fun sr H5 hsr s5 S5 => ?_⟩
    have e5 := s5 _ _ e4
    have nl : l' ≠ sr := fun z => by rw [z, hsr] at e4; cases e4
    clear s5 hsr e4
    row_room_at rd
    -- the signs
    refine rd_cut (fun σ' H' => ∃ sg : Nat, sg ≤ 49 ∧ StrmAt H' sr 2 ∧ H' l' = some (.lst (c.map V.int)) ∧ σ' = [some (.ref a), some (.ref l'), some (.int (0 + (i : Nat))), some (.ref sr), some (.int sg), v5, v6, v7, v8, v9]) ?_ ?_
    · row_room_at rd
      refine ⟨sr, 0, 4, rfl, S5, by decide, by decide, by decide, fun r H6 r0 r1 S6 b6 => ?_⟩
      have e6 := b6 _ _ nl e5
      row_room_at rd
      refine ite2 (fun _ => ?_) (fun _ => ?_)
      · row_room_at rd
        refine ⟨sr, 1, 50, rfl, S6, by decide, by decide, by decide, fun r2 H7 r0' r1' S7 b7 => ?_⟩
        obtain ⟨k, rfl⟩ := Int.eq_ofNat_of_zero_le r0'
        row_room_at rd
        exact ⟨k, by omega, S7, b7 _ _ nl e6, rfl⟩
      · row_room_at rd
        exact ⟨0, by decide, S6.mono (by decide), e6, rfl⟩
    clear S5 e5
    rintro σ' H5 ⟨sg, hsg, S5, e5, rfl⟩
    row_room_at rd
    refine rd_new fun cl0 H6 hc0 s6 ec0 => ?_
    replace ec0 : H6 cl0 = some (.lst (([] : List Int).map V.int)) := ec0
    have S6 := S5.same s6
    have e6 := s6 _ _ e5
    have nc0 : cl0 ≠ sr := S5.ne_new hc0
    clear s6 hc0 S5 e5
    row_room_at rd
    refine rd_cut (fun σ' H' => ∃ (cl : Addr) (cs : List Int), (cs.length = 0 ∨ cs.length = 3) ∧ (∀ x ∈ cs, 3 ≤ x ∧ x ≤ 4) ∧ cl ≠ sr ∧ H' cl = some (.lst (cs.map V.int)) ∧ StrmAt H' sr 5 ∧ H' l' = some (.lst (c.map V.int)) ∧ σ' = [some (.ref a), some (.ref l'), some (.int (0 + (i : Nat))), some (.ref sr), some (.int sg), some (.ref cl), v6, v7, v8, v9]) ?_ ?_
    · have nil : ∀ {H' : Hp}, SameBut sr H6 H' → StrmAt H' sr 5 → ∃ (cl : Addr) (cs : List Int), (cs.length = 0 ∨ cs.length = 3) ∧ (∀ x ∈ cs, 3 ≤ x ∧ x ≤ 4) ∧ cl ≠ sr ∧ H' cl = some (.lst (cs.map V.int)) ∧ StrmAt H' sr 5 ∧ H' l' = some (.lst (c.map V.int)) ∧ [some (.ref a), some (.ref l'), some (.int (0 + (i : Nat))), some (.ref sr), some (.int sg), some (.ref cl0), v6, v7, v8, v9] = [some (.ref a), some (.ref l'), some (.int (0 + (i : Nat))), some (.ref sr), some (.int sg), some (.ref cl), v6, v7, v8, v9] := fun {H'} b S' => ⟨cl0, [], .inl rfl, (fun x h => nomatch h), nc0, b _ _ nc0 ec0, S', b _ _ nl e6, rfl⟩
      row_room_at rd
      refine ite2 (fun _ => ?_) (fun _ => ?_)
      · row_room_at rd
        refine ⟨sr, 2, 8, rfl, S6, by decide, by decide, by decide, fun r H7 r0 r1 S7 b7 => ?_⟩
        row_room_at rd
        refine ite2 (fun _ => ?_) (fun _ => ?_)
        · row_room_at rd
          refine ⟨sr, 3, 2, rfl, S7, by decide, by decide, by decide, fun x1 H8 x10 x11 S8 b8 => ?_⟩
          row_room_at rd
          refine ⟨sr, 4, 2, rfl, S8, by decide, by decide, by decide, fun x2 H9 x20 x21 S9 b9 => ?_⟩
          row_room_at rd
          refine rd_new fun cl H10 hcl s10 ecl => ?_
          refine ⟨cl, [3 + x1, 3 + x2, 4], .inr rfl, fun x hx => ?_, S9.ne_new hcl, ecl, S9.same s10, s10 _ _ (b9 _ _ nl (b8 _ _ nl (b7 _ _ nl e6))), rfl⟩
          simp only [List.mem_cons, List.not_mem_nil, or_false] at hx
          rcases hx with rfl | rfl | rfl <;> omega
        · row_room_at rd
          exact nil b7 (S7.mono (by decide))
      · row_room_at rd
        exact nil SameBut.refl (S6.mono (by decide))
    clear S6 e6 ec0 nc0
    rintro σ' H6 ⟨cl, cs, lcs, hcs, ncl, ecl, S6, e6, rfl⟩
    row_room_at rd
    refine rd_new fun rm0 H7 hr0 s7 er0 => ?_
    replace er0 : H7 rm0 = some (.lst [.int 10]) := er0
    have S7 := S6.same s7
    have e7 := s7 _ _ e6
    have ec7 := s7 _ _ ecl
    have nr0 : rm0 ≠ sr := S6.ne_new hr0
    have nl0 : l' ≠ rm0 := fun z => by rw [z, hr0] at e6; cases e6
    have ncr0 : cl ≠ rm0 := fun z => by rw [z, hr0] at ecl; cases ecl
    clear s7 hr0 S6 e6 ecl
    row_room_at rd
    refine rd_cut (fun σ' H' => ∃ (rm : Addr) (r : Int), (cs.length = 0 ∧ r = 10 ∨ cs.length = 3 ∧ r = 4) ∧ rm ≠ sr ∧ l' ≠ rm ∧ cl ≠ rm ∧ H' rm = some (.lst [.int r]) ∧ H' cl = some (.lst (cs.map V.int)) ∧ StrmAt H' sr 5 ∧ H' l' = some (.lst (c.map V.int)) ∧ σ' = [some (.ref a), some (.ref l'), some (.int (0 + (i : Nat))), some (.ref sr), some (.int sg), some (.ref cl), some (.ref rm), v7, v8, v9]) ?_ ?_
    · row_room_at rd
      rw [List.length_map]
      refine ite2 (fun hc => ?_) (fun hc => ?_)
      · have hc := of_decide_eq_true hc
        row_room_at rd
        refine rd_new fun rm H8 hrm s8 er => ?_
        exact ⟨rm, 4, .inr ⟨by omega, rfl⟩, S7.ne_new hrm, (fun z => by rw [z, hrm] at e7; cases e7), (fun z => by rw [z, hrm] at ec7; cases ec7), er, s8 _ _ ec7, S7.same s8, s8 _ _ e7, rfl⟩
      · have hc : ¬ (0 : Int) < (cs.length : Nat) := fun z => hc (decide_eq_true z)
        row_room_at rd
        exact ⟨rm0, 10, .inl ⟨by omega, rfl⟩, nr0, nl0, ncr0, er0, ec7, S7, e7, rfl⟩
    clear S7 e7 ec7 nr0 nl0 ncr0 er0
    rintro σ' H7 ⟨rm, r, hr', nr, nlr, ncr, er, ec7, S7, e7, rfl⟩
    row_room_at rd
    rw [List.length_map]
    have R7 : SR H7 sr rm 5 r := ⟨S7, er⟩
    obtain ⟨d, hd, hd5, hdr⟩ : ∃ d : Int, (5 : Int) - ((cs.length : Nat) : Int) / 3 = d ∧ 4 ≤ d ∧ (cs.length = 0 ∧ r = 10 ∧ d = 5 ∨ cs.length = 3 ∧ r = 4 ∧ d = 4) := ⟨_, rfl, by omega, by omega⟩
    rw [hd]
    refine ⟨sr, rm, d, 5, r, rfl, ⟨by omega, by omega, R7, by omega, by omega, by omega⟩, fun f t H8 G => ?_⟩
    have dp := G.dp
    have pr := G.pr (by omega)
    have e8 := G.B.use nl nlr e7
    have ec8 := G.B.use ncl ncr ec7
    have ok := G.ok
    have tr := G.tr
    clear G R7 S7 er e7 ec7
    row_room_at rd
    refine ⟨f, t, cl, _, cs, rfl, ec8, hcs, ok, tr, fun f1 t1 H9 ok1 d1 p1 tr1 s9 => ?_⟩
    have e9 := s9 _ _ e8
    have dd : f1.depth ≤ 7 := by omega
    have pp : f1.parts ≤ 900 := by
      rcases hdr with ⟨h0, h1, h2⟩ | ⟨h0, h1, h2⟩
      · rw [h0] at p1; omega
      · rw [h0] at p1
        have : (4 : Nat) ^ 3 = 64 := rfl
        omega
    clear tr ok dp pr ec8 e8 s9 d1 p1 hd hd5 hdr hr' lcs hcs
    row_room_at rd
    rw [Int.toNat_natCast]
    refine for_range (lo := 0) (n := sg) (fun j σ H' => ∃ (g : Fo) (t2 : Addr) (v8 : Option V), σ = [some (.ref a), some (.ref l'), some (.int (0 + (i : Nat))), some (.ref sr), some (.int sg), some (.ref cl), some (.ref rm), some (.ref t2), v8, v9] ∧ g.Pre ∧ g.depth ≤ 7 + j ∧ g.parts ≤ 900 + j ∧ TrW noH H' g t2 ∧ H' l' = some (.lst (c.map V.int))) ⟨f1, t1, _, rfl, ok1, by omega, by omega, tr1, e9⟩ ?_ ?_
    · rintro j σ H10 hj ⟨g, t2, v8, rfl, okg, dg, pg, trg, e10⟩
      row_room_at rd
      refine rd_new fun t3 H11 ht3 s11 e11 => ?_
      refine ⟨.neg g, t3, _, rfl, by simp only [Fo.Pre]; exact okg, by rw [dps_neg]; omega, by rw [pts_neg]; omega, ?_, s11 _ _ e10⟩
      simp only [TrW]
      exact ⟨t2, e11, TrW.same s11 trg⟩
    · rintro σ H10 ⟨g, t2, v8, rfl, okg, dg, pg, trg, e10⟩
      have dg60 : g.depth ≤ 60 := by omega
      have pg11 : g.parts ≤ 1100 := by omega
      row_room_at rd
      refine ⟨g, t2, noH, rfl, by omega, okg, pg11, trg, fun H11 s11 => ?_⟩
      have tl := txt_leP okg pg11
      have lz := TL.len_tl g.txt
      have e11 := s11 _ _ e10
      have tr11 := TrW.same s11 trg
      row_room_at rd
      refine ⟨g, t2, noH, rfl, by omega, okg, pg11, tr11, fun H12 u s12 ⟨v, p, dd', l2, eu, fv, _⟩ => ?_⟩
      have e12 := s12 _ _ e11
      row_room_at rd
      refine ⟨g, v, rfl, okg, dg60, pg11, fv, fun H13 s13 => ?_⟩
      have e13 := s13 _ _ e12
      clear tr11 trg s11 s12 s13 e10 e11 e12 eu fv
      row_room_at rd
      refine rd_slS (by omega) ?_
      row_room_at rd
      refine ite2 (fun h41 => ?_) (fun _ => ?_)
      · have h41 := of_decide_eq_true h41
        have m41 : 41 ∈ TL.tl g.txt := last_cut (by injection h41)
        have nlf : ¬ g.leaf := fun lf => leaf_no41 lf okg m41
        have k1 := cut_P okg nlf dg60
        have l1' : 1 ≤ g.txt.length := by rw [lz]; exact List.length_pos_iff.mpr (fun z => by rw [z] at m41; cases m41)
        have lL : ((TL.tl g.txt).take ((TL.tl g.txt).length - 1)).length = g.txt.length - 1 := by rw [List.length_take, lz]; omega
        have k1 : pTree ((TL.tl g.txt).take ((TL.tl g.txt).length - 1)) 60 0 = .error ((TL.tl g.txt).take ((TL.tl g.txt).length - 1)).length := by rw [lL, k1, lz]
        obtain ⟨k2, k3, k4⟩ := read_none k1
        obtain ⟨k5, k6⟩ := more_P okg dg60
        generalize hL : (TL.tl g.txt).take ((TL.tl g.txt).length - 1) = L at k1 k2 k3 k4 lL
        have hs : TL.tl (Str.ofString "#") = [35] := by decide +kernel
        have hs1 : (Str.ofString "#").length = 1 := by decide +kernel
        have et2 : TL.tl (mk L ++ Str.ofString "#") = L ++ [35] := by rw [TL.tl_append, hs]; rfl
        have et3 : TL.tl (g.txt ++ Str.ofString "#") = TL.tl g.txt ++ [35] := by rw [TL.tl_append, hs]
        have l2' : (mk L ++ Str.ofString "#").length = L.length + 1 := by rw [PySem.Str.length_append, hs1, mk_len]
        have l3' : (g.txt ++ Str.ofString "#").length = g.txt.length + 1 := by rw [PySem.Str.length_append, hs1]
        row_room_at rd
        refine rd_slS (by omega) ?_
        rw [cut_less l1', hL]
        row_room_at rd
        refine ⟨mk L, rfl, by rw [mk_len]; omega, ?_, fun f e => ?_, fun u1 H14 s14 a1 => ?_⟩
        · show pTree L 60 0 ≠ .error (L.length + 1)
          rw [k1]; exact fun e => by injection e with e; omega
        · rw [show pRead (TL.tl (mk L)) 60 = .error L.length from k2] at e; cases e
        rw [show pRead (TL.tl (mk L)) 60 = .error L.length from k2] at a1
        have a1 : H14 u1 = some (.tup [.str "text", .int (L.length : Nat)]) := a1
        have e14 := s14 _ _ e13
        row_room_at rd
        refine rd_new fun t4 H15 ht4 s15 e15 => ?_
        rw [show ((g.txt.length : Nat) : Int) - 1 = (L.length : Nat) by omega] at e15
        refine ne_txt (s15 _ _ a1) e15 ?_
        have e15' := s15 _ _ e14
        clear e15 e14 a1 s14 s15
        row_room_at rd
        refine rd_slS (by omega) ?_
        rw [cut_less l1', hL]
        row_room_at rd
        refine ⟨by rw [← PySem.Str.length_append, l2', sizeLine_eq]; omega, ?_⟩
        row_room_at rd
        refine ⟨mk L ++ Str.ofString "#", rfl, by omega, ?_, fun f e => ?_, fun u1 H16 s16 a1 => ?_⟩
        · rw [et2, k3]; exact fun e => by injection e with e; rw [List.length_append] at e; omega
        · rw [et2, k4] at e; cases e
        rw [et2, k4] at a1
        have a1 : H16 u1 = some (.tup [.str "text", .int (L.length : Nat)]) := a1
        have e16 := s16 _ _ e15'
        row_room_at rd
        refine rd_new fun t5 H17 ht5 s17 e17 => ?_
        rw [show ((g.txt.length : Nat) : Int) - 1 = (L.length : Nat) by omega] at e17
        refine ne_txt (s17 _ _ a1) e17 ?_
        have e17' := s17 _ _ e16
        clear e17 e16 a1 s16 s17 e15'
        row_room_at rd
        refine ⟨by rw [← PySem.Str.length_append, l3', sizeLine_eq]; omega, ?_⟩
        row_room_at rd
        refine ⟨g.txt ++ Str.ofString "#", rfl, by omega, ?_, fun f e => ?_, fun u1 H18 s18 a1 => ?_⟩
        · rw [et3, k5]; exact fun e => nomatch e
        · rw [et3, k6] at e; cases e
        rw [et3, k6] at a1
        have a1 : H18 u1 = some (.tup [.str "text", .int ((TL.tl g.txt).length : Nat)]) := a1
        rw [← lz] at a1
        have e18 := s18 _ _ e17'
        row_room_at rd
        refine rd_new fun t6 H19 ht6 s19 e19 => ?_
        refine ne_txt (s19 _ _ a1) e19 ?_
        have e19' := s19 _ _ e18
        row_room_at rd
        exact ⟨e19', _, _, _, _, _, _, _, _, rfl⟩
      · row_room_at rd
        exact ⟨e13, _, _, _, _, _, _, _, _, rfl⟩
  · rintro σ H4 ⟨e4, v2, v3, v4, v5, v6, v7, v8, v9, rfl⟩
    row_room_at rd
    exact q H4
end

end
end KM
set_option Elab.async false
set_option linter.all false
set_option maxRecDepth 100000
set_option maxHeartbeats 4000000
namespace KM
open PySem PySem.Spec PyProof.Rows L2 He Sw L2H
theorem allOf {α : Type} {l : List α} {p : α → Bool} (h : l.all p = true) : ∀ x ∈ l, p x = true := List.all_eq_true.mp h
theorem short_cls : ∀ z ∈ clsS, ShortOk z := by
  intro z hz
  simp only [clsS, List.mem_cons, List.not_mem_nil, or_false] at hz
  rcases hz with rfl | rfl | rfl | rfl | rfl <;> constructor <;> decide +kernel
theorem cls_str {x : Str} (hx : x ∈ clsL) : ∃ z ∈ clsS, x = Str.ofString z := by
  have e : clsL = clsS.map Str.ofString := rfl
  rw [e] at hx
  obtain ⟨z, hz, rfl⟩ := List.mem_map.mp hx
  exact ⟨z, hz, rfl⟩
theorem noCls_ok {K : PySem.W.Frag} {C : Addr} {name : Str} {z : String} (h : noClsB K C name z = true) (k : ShortOk z) : NoCls K C name := by
  obtain ⟨h1, h⟩ := ba h
  obtain ⟨h2, h⟩ := ba h
  obtain ⟨h3, h4⟩ := ba h
  exact ⟨h1, eqO_ok h2, eqO_ok h3, z, h4, k⟩
theorem op_ok {K : PySem.W.Frag} (c : SaysF fa fn K) {x : Str} (hx : x ∈ clsL) {nm : String} (hn : nm ∈ binL) :
    PySem.W.selfFirst K (ga K x) = true ∧ PySem.W.findIn K (.ref (ga K x)) (PySem.dunder nm) = some (some (.ref (mF K (PySem.dunder nm)))) ∧ PySem.W.isFn K (.ref (mF K (PySem.dunder nm))) = true ∧ NoCls K (ga K x) (dunderR nm) := by
  obtain ⟨z, hz, rfl⟩ := cls_str hx
  have h : opB K (ga K (Str.ofString z)) nm z = true := allOf (allOf (p := fun z => binL.all fun nm => opB K (ga K (Str.ofString z)) nm z) (c.fact 14) z hz) nm hn
  obtain ⟨h1, h⟩ := ba h
  obtain ⟨h2, h⟩ := ba h
  obtain ⟨h3, h4⟩ := ba h
  exact ⟨h1, eqO_ok h2, h3, noCls_ok h4 (short_cls z hz)⟩
theorem txt {K : PySem.W.Frag} {h : Heap} {mg : Str → Option Value} (X : K.In h) (G : h.Ns mainGlobals mg) (c : SaysF fa fn K) : Txt K mg where
  err := fun x hx => errB_ok (allOf (c.fact 18) x hx)
  exmE := fun x hx y hy => exm_ok (allOf (p := fun y => (Fa.exm x y (decide (x = y))).ok K) (allOf (p := fun x => errL.all fun y => (Fa.exm x y (decide (x = y))).ok K) (c.fact 19) x hx) y hy)
  kveE := fun x hx => of_decide_eq_true (allOf (c.fact 20) x hx)
  seI := clfnB_ok (c.fact 21)
  veI := veinB_ok (c.fact 22)
  sg := c.fact 23
  dig := str_ok X G (c.fact 24)
  mDig := int_ok X G (c.fact 25)
  kd := c.fact 26
  dd := fun i d h => c.def_ i h
  glo := fun x hx => glo_ok X G (allOf (c.fact 0) x hx)
  fre := fun x hx => free_ok X G (allOf (c.fact 1) x hx)
  foI := clfnB_ok (c.fact 2)
  let_ := str_ok X G (c.fact 3)
  mLet := int_ok X G (c.fact 4)
  mPar := int_ok X G (c.fact 5)
  mDep := int_ok X G (c.fact 6)
  nEnd := int_ok X G (c.fact 7)
  mShf := int_ok X G (c.fact 8)
  mThg := int_ok X G (c.fact 9)
  noN := fun H => tupB_ok (c.fact 10) H
  ins := fun x hx => by
    have q : ((Fa.cls x).ok K && ((Fa.mkr x).ok K && insB K (ga K x))) = true := allOf (p := fun x => (Fa.cls x).ok K && ((Fa.mkr x).ok K && insB K (ga K x))) (c.fact 11) x hx
    obtain ⟨h1, h⟩ := ba q
    obtain ⟨h2, h⟩ := ba h
    obtain ⟨h3, h⟩ := ba h
    obtain ⟨h4, h⟩ := ba h
    obtain ⟨h5, h6⟩ := ba h
    exact ⟨cls_ok h1, mkr_ok h2, eqO_ok h3, eqO_ok h4, of_decide_eq_true h5, of_decide_eq_true h6, fun f hf => noat_ok (allOf (p := fun f => (Fa.noat x f).ok K) (allOf (p := fun x => fldL.all fun f => (Fa.noat x f).ok K) (c.fact 12) x hx) f hf)⟩
  kit := fun x hx y hy => of_decide_eq_true (allOf (p := fun y => kitB2 K x y (decide (x = y) || decide (y = "Formula"))) (allOf (p := fun x => clsL.all fun y => kitB2 K x y (decide (x = y) || decide (y = "Formula"))) (c.fact 13) x hx) y hy)
  bin := fun x hx y hy nm hn => by
    obtain ⟨a1, a2, a3, a4⟩ := op_ok c hx hn
    obtain ⟨b1, b2, b3, b4⟩ := op_ok c hy hn
    exact ⟨a1, b1, a2, a3, ⟨_, b2⟩, a4.m2, b4, Option.isSome_iff_exists.mp (allOf (p := fun y => (PySem.W.subIn K (.ref (ga K y)) (.ref (ga K x))).isSome) (allOf (p := fun x => clsL.all fun y => (PySem.W.subIn K (.ref (ga K y)) (.ref (ga K x))).isSome) (c.fact 15) x hx) y hy)⟩
  shl := fun x hx => by
    have h : shlB K (ga K x) = true := allOf (p := fun x => shlB K (ga K x)) (c.fact 16) x hx
    obtain ⟨h1, h⟩ := ba h
    obtain ⟨h2, h⟩ := ba h
    obtain ⟨h3, h⟩ := ba h
    obtain ⟨h4, h⟩ := ba h
    obtain ⟨h5, h6⟩ := ba h
    obtain ⟨h7, h8⟩ := ba h5
    obtain ⟨r1, e1⟩ := Option.isSome_iff_exists.mp h7
    obtain ⟨r2, e2⟩ := Option.isSome_iff_exists.mp h8
    exact ⟨h1, eqO_ok h2, h3, eqO_ok h4, ⟨r1, r2, e1, e2⟩, of_decide_eq_true h6⟩
  neg := fun x hx => by
    have h : negB K (ga K x) = true := allOf (p := fun x => negB K (ga K x)) (c.fact 17) x hx
    obtain ⟨h1, h2⟩ := ba h
    exact ⟨eqO_ok h1, h2⟩
theorem facts {P : Program} {w : World} {K : PySem.W.Frag} {h : Heap} {mg : Str → Option Value} {f : Addr} (X : K.In h) (G : h.Ns mainGlobals mg) (hfa : mg ("law" : Str) = some (.ref f)) (c : SaysX fa fn ts w K) :
    ∃ fd : FuncData, (∀ (s : Shared) (v : Value), BindsTo s fd ⟨[v], []⟩ [("_law_script", v)]) ∧ ∀ base : Heap, FnOk P w K mg base CX0 200 f fd ["_law_script"] (spLaw K) := by
  have T := txt X G c.f
  obtain ⟨fd, F⟩ := T.f_law
  have e := hfa.symm.trans (T.g "law")
  cases e
  have b := FunD.bindsA (ps := ["_law_script"]) F fun _ _ _ _ _ _ us hl => match us, hl with | [_], _ => rfl
  refine ⟨fd, fun s v => b s [v] rfl, fun base => ?_⟩
  exact ok_law (c.tab 0) (c.keys 1) T F
end KM
set_option Elab.async false
set_option linter.all false
set_option maxRecDepth 100000
set_option maxHeartbeats 0
open PySem PySem.W PySem.Calls PyProof.Rows
theorem PySem.Challenge.cw_samewords_k19_first_part_that_fails_holds : PySem.Challenge.rw_samewords_k19_first_part_that_fails.Holds := by
  refine KM.headQ ?_
  refine L2.walk_ofE (l := PySem.Challenge.rw_samewords_k19_first_part_that_fails) (n := 63) (k := 200) (x := "_law_script") (CX := L2.CX0) rfl (by decide) (by kernel_rfl) ⟨rfl, by decide, by decide⟩ ?F (fun _ _ _ _ z => z)
  intro w mg fa h Y G hmg0
  obtain ⟨K, KX, c⟩ := Y
  have hmg : mg ("law" : PySem.Str) = some (.ref fa) := by
    have e : (HandSHeadRun.topDef (OpenLaw.row PySem.Challenge.rw_samewords_k19_first_part_that_fails).prog 64).name = ("law" : PySem.Str) := by kernel_rfl
    rw [← e]
    exact hmg0
  obtain ⟨fd, hb, hF⟩ := KM.facts (P := (PySem.Challenge.rw_samewords_k19_first_part_that_fails).prog) (w := w) KX G hmg c
  exact ⟨K, fd, KM.spLaw K, KX, hb, fun H a ns hl _ hS => ⟨a, ns, rfl, hS, fun _ => rfl⟩, fun base _ _ => hF base⟩
