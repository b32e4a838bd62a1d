import PyProof.Rows.All
import Wide.All
import OpenK.AllK
import Wide.FinOn
import KE.KTypeName
import HandS.Base
import HandS.Call
import HandS.List
import HandS.Ends
import HandS.Exc
import HandS.ExcOwn
import HandS.ExcCtx
import HandS.Hot
import HandS.HotCalls
import HandS.ExcInit
import HandS.ExcInitHot
import HandS.ExcIs
import HandS.ClsMeth
import HandS.Comp
import KE.KExcIs
import HandS.ExcField
import HandS.SortKw
import KE.KMinKey
import KE.KStateDown
import Lean
import HandS.More
import HandS.Words
import HandS.WordsExc
import HandS.Defaults
import HandS.Head0
import HandS.Head1
import HandS.Head2
import HandS.HeadEnd
import HandS.HeadHook1
import HandS.HeadHook2
import PyProof.AttrMiss
import OpenK.KCls
import KE.KOpsOwn
import PySem.Challenge.RW_samewords_k08_when_no_word_is_told
import HandS.WordsList
import HandS.IsInst
import HandS.Wide
import HandS.Iter
import HandS.Text
import HandS.StrMore
import HandS.Flow
import HandS.Walk
import HandS.Codes
import HandS.Set
import HandS.Strs
import PyProof.Rows.SortStr
import KE.DataEq
import HandS.DictComp
import HandS.WideBits
import HandS.Dict
import HandS.Conv
import HandS.Star
import HandS.WordsDict
import HandS.DeepEq
import HandS.OwnEq
import HandS.Deep
import KE.KEqDict
import PyProof.EqKinds
import PyProof.FactsAll.dict
import PyProof.CompFree
import KE.DataMinMax
import PyProof.Rows.StrMeet
set_option Elab.async false
set_option linter.all false
set_option maxRecDepth 100000
set_option maxHeartbeats 2000000
/-! Rules of my own: functions read off an own class, the class's name, classes made in a try. -/
namespace Sw
open PySem PySem.Spec PyProof.Rows L2

/-! ### C.m(e, ..), m a plain def of the class at C -/
structure ClFn (K : PySem.W.Frag) (C : Addr) (m : Str) (f : Addr) : Prop where
  rd : PySem.W.readsIn K C (.type "type") = true
  ga : PySem.W.specialIn K (.ref C) "__getattribute__" = some (some (.builtin "type.__getattribute__"))
  at_ : PySem.W.findCls K (.ref C) (.type "type") m = some (.val (.ref f))
section
variable {X : Cx} {CX : CXT} {k : Nat} {f C : Addr} {fd : FuncData} {ps : List Str} {sp : Sp} {dvs : List V} {ds : List Value} {E : XK} {x m : Str} {p pos apos : Pos} {e : Expr} {es : List Expr} {t : TA}
theorem getmeth_cls {pins : List (Addr × Obj)} {σ : L2.St} {H : Hp} {s : Shared} {A : Around} {E : Value → Shared → Prop} {pl : Sem Bool} {Q : Value × List Value → Shared → Prop} (I : Inv X pins σ H s) (c : ClFn X.K C m f)
    (h : ∀ s', Inv X pins σ H s' → Q (.ref f, []) s') : wpAny (model X.prog X.w) A (getMethod (.ref C) m pl) Q E s :=
  PySem.W.method_cls I.kIn c.ga (PySem.W.cls_value I.kIn c.rd c.at_ (handed_of (v := V.ref f) rfl) (h _ (I.tok _)))
theorem pe_clfn {pl : Sem Bool} (hg : Gl X x) (hm : X.mg x = some (.ref C)) (c : ClFn X.K C m f) (F : FnOk X.prog X.w X.K X.mg X.base CX k f fd ps sp) (hr : Room k X.A) (hk : PySem.W.keepIn X.K (.ref f) = true) (hb : Binds X.K fd ps ds) (hd : Vals dvs ds)
    (hx : Passes CX X E) (ha : PA X (e :: es) t)
    (hdb : (x == ("__debug__" : Str)) = false := by decide) (hst : starEach (e :: es) X.env = (false, eval e X.env) :: starEach es X.env := by rfl) (hpl : (backTo pos (starEach es X.env)).any (·.1) = false := by rfl)
    (ht : eval (.Call (.Attribute (.Name x p) m apos) (e :: es) [] pos) X.env = (do
      let ov ← eval (.Name x p) X.env
      standAt apos.atName
      let (f, first) ← holding [ov] (getMethod ov m pl)
      callWith pos f first (backTo pos (starEach (e :: es) X.env)) (backToKw pos (keywordEach [] X.env))) := by rfl) :
    PE X (.Call (.Attribute (.Name x p) m apos) (e :: es) [] pos) (tCall sp dvs E t) := by
  refine ⟨fun pins s σ H Q I h => ?_⟩
  refine PySem.W.methodCall_KW (pl := pl) (thn ((pe_glob (v := V.ref C) hg hm rfl hdb).run pins s σ H _ I (show (tC (V.ref C)) σ H (fun v H1 => v = .ref C ∧ H1 = H) from ⟨rfl, rfl⟩)) fun u s1 ⟨y, H1, I1, rx, ex, eh⟩ => ?_) ht
  subst ex eh
  obtain rfl : u = Value.ref C := rx
  refine getmeth_cls I1 c fun s2 I2 => ?_
  refine PySem.W.callWith_K (first := []) (h₀ := X.base) I2.ok.mod.kin hk (thn (ha.run pos pins s2 σ _ _ I2 h) fun us s3 ⟨vs, H3, I3, r, q3⟩ => ⟨I3.kIn, ?_⟩) hst hpl
  exact run_fn F hr hb hd hx I3 r q3
end

/-! ### C(e, ..) in a try: what follows a raise hangs on the slots -/
section
variable {X : Cx} {CX : CXT} {k : Nat} {f C : Addr} {fd : FuncData} {ps : List Str} {sp : Sp} {dvs : List V} {ds : List Value} {E : L2.St → XK} {x : Str} {p pos : Pos} {e : Expr} {es : List Expr} {t : TA}
def tMakeS (C : Addr) (sp : Sp) (dvs : List V) (E : L2.St → XK) (t : TA) : TE := fun σ H Q => t σ H fun vs H1 => ∀ x dx, H1 x = none → H1 dx = none → dx ≠ x →
  sp (.ref x :: (vs ++ dvs)) (upd (upd H1 dx (.own x)) x (.ins C dx [])) (fun v H2 => v = .non ∧ Q (.ref x) H2) (E σ)
theorem run_makeS {pins : List (Addr × Obj)} {σ : L2.St} {H : Hp} {s : Shared} {Q : VK} {us : List Value} {vs : List V} (M : Mk X.K C f) (F : FnOk X.prog X.w X.K X.mg X.base CX k f fd ps sp) (hr : Room (k + 1) X.A) (hb : Binds X.K fd ps ds) (hd : Vals dvs ds)
    (hx : PassesAt CX X σ (E σ)) (I : Inv X pins σ H s) (r : Vals vs us)
    (h : ∀ x dx, H x = none → H dx = none → dx ≠ x → sp (.ref x :: (vs ++ dvs)) (upd (upd H dx (.own x)) x (.ins C dx [])) (fun v H2 => v = .non ∧ Q (.ref x) H2) (E σ)) :
    wpAny (model X.prog X.w) X.A (call (.ref C) us) (EP X pins σ Q) X.xe s := by
  have hq := h (s.heap.objs.size + 1) s.heap.objs.size (I.hok.fresh (Nat.le_succ _)) (I.hok.fresh (Nat.le_refl _)) (Nat.ne_of_lt (Nat.lt_succ_self _))
  have I2 := Inv.made (C := C) I
  have r2 : Vals (V.ref (s.heap.objs.size + 1) :: (vs ++ dvs)) (Value.ref (s.heap.objs.size + 1) :: (us ++ ds)) := .cons rfl (r.append hd)
  have hl : (Value.ref (s.heap.objs.size + 1) :: us ++ ds).length = ps.length := by
    have e := r2.length
    rw [F.len _ _ _ _ hq] at e
    exact e.symm
  refine wpAny_call (make_map (f := f) I.kIn M.makes M.init (beq_iff_eq.mp M.fn) (codeAny_mono (F.run _ X.stack _ _ ⟨Value.ref (s.heap.objs.size + 1) :: us, []⟩ (Value.ref (s.heap.objs.size + 1) :: (us ++ ds)) _ _ (E σ) (hr.make C us [])
    (I2.env0.make C us []) (hb _ (Value.ref (s.heap.objs.size + 1) :: us) I2.kIn hl) r2 hq) fun r s' hq' => ?_))
  cases r with
  | error e => exact hx pins _ _ e s' I2 hq'
  | ok fl =>
    cases fl with
    | ret u =>
      obtain ⟨v, H', I3, rv, ev, q3⟩ := I2.after hq'
      subst ev
      exact ⟨rv, ⟨V.ref (s.heap.objs.size + 1), H', I3, rfl, q3⟩⟩
    | next => exact False.elim hq'
    | brk => exact False.elim hq'
    | cont => exact False.elim hq'
theorem pe_makeS (M : Mk X.K C f) (F : FnOk X.prog X.w X.K X.mg X.base CX k f fd ps sp) (hr : Room (k + 1) X.A) (hg : Gl X x) (hm : X.mg x = some (.ref C)) (hb : Binds X.K fd ps ds) (hd : Vals dvs ds) (hx : ∀ σ, PassesAt CX X σ (E σ))
    (ha : PA X (e :: es) t) (hdb : (x == ("__debug__" : Str)) = false := by decide) (he : starEach (e :: es) X.env = (false, eval e X.env) :: starEach es X.env := by rfl) (hpl : (backTo pos (starEach es X.env)).any (·.1) = false := by rfl) :
    PE X (.Call (.Name x p) (e :: es) [] pos) (tMakeS C sp dvs E t) := by
  refine ⟨fun pins s σ H Q I h => ?_⟩
  refine wpAny_Call_Name_kw (ld_glob I hg hm ?_ hdb)
  refine PySem.W.callWith_K (h₀ := X.base) I.ok.mod.kin M.kp (thn (ha.run pos pins s σ H _ I h) fun us s1 ⟨vs, H1, I1, r, q⟩ => ⟨I1.kIn, ?_⟩) he hpl
  exact run_makeS M F hr hb hd (hx σ) I1 r q
end
end Sw

/-! ### C.__name__, e.__class__ of an exception in the making -/
namespace Sw
open PySem PySem.W PySem.Calls PyProof.Rows Builtin Builtin.ObjectAttr Builtin.Getset_descriptor
section
variable {prog : Program} {w : World} {A : Around} {E : Value → Shared → Prop} {s : Shared} {K : Frag} {R : Result → Shared → Prop} {C : Addr} {o : Obj} {z : PySem.Str} {tk : Tok}
theorem cnm_dga (d tp : Value) (C : Addr) : descrGetArgs ⟨[d, .ref C, tp], []⟩ = pure (d, some (.ref C), given tp) := by kernel_rfl
theorem cnm_get {tp : Value} (hC : s.heap.get? C = some o) (hcls : o.cls = .type "type") (hsl : o.slots[2]? = some (some (.str z tk))) (h : R (.ok (.ret (.str z tk))) s) :
    codeAny (model prog w) A (.call (.builtin "getset_descriptor.__get__") ⟨[.builtin "type.__name__", .ref C, tp], []⟩) R s := by
  obtain ⟨hh, g, dr, t, os⟩ := s
  have L0 : Looks (model prog w) hh (typeOf (.ref C)) (.type "type") := by
    have q := (Looks.ld (M := model prog w) (part := some .none) hC).andThen (f := fun o => pure o.cls) .now
    rw [hcls] at q
    exact q
  have L1 : Looks (model prog w) hh (isSubtype (.type "type") (.type "type")) true := Looks.of_pure (by rw [isSubtype_type]; kernel_rfl)
  refine codeAny_call_builtin KF.slot_gs.plain KF.entry_gs (KF.slot_gs.check _ _ _ _ _ _ _ _ ktyn_type (KF.args_gs _ _ _) ?_)
  unfold Builtin.«getset_descriptor.__get__» descrGet
  rw [cnm_dga]
  refine wpAny_bind (wpAny_pure ?_)
  unfold descrGetter descrCheckInstance descrNameAndClass isInstance
  simp only [ktyn_owner]
  repeat lk
  refine ⟨Code.quiet_builtin _ (by decide +kernel), codeAny_builtin ktyn_entry ?_⟩
  unfold Builtin.«type.__name__» keptObject slotAt
  dsimp only
  refine wpAny_bind (wpAny_bind (wpAny_loadPart_at hC (wpAny_pure ?_)))
  rw [hsl]
  exact wpAny_pure h
/-- C.__name__ -/
theorem cnm_attr {expr : Bool} {Q : Value → Shared → Prop} (X : K.In s.heap) (rd : readsIn K C (.type "type") = true) (hf : findCls K (.ref C) (.type "type") "__name__" = some (.get (.builtin "getset_descriptor.__get__") (.builtin "type.__name__") (.ref C) (.type "type")))
    (hC : K.lookup C = some o) (hcls : o.cls = .type "type") (hsl : o.slots[2]? = some (some (.str z tk))) (h : Q (.str z tk) { s with toks := s.toks + 1 }) : wpAny (model prog w) A (getAttr (.ref C) "__name__" expr) Q E s := by
  refine cls_bind X rd hf (wpAny_call (cnm_get (s := { s with toks := s.toks + 1 }) (X _ _ hC) hcls hsl ?_))
  exact handed_on rfl h
/-- e.__class__, e an exception without a dict as yet -/
theorem exc_class {x : Addr} {ox : Obj} {expr : Bool} {Q : Value → Shared → Prop} {gt : Option Value}
    (X : K.In s.heap) (I : InstAt s.heap x ox C none) (hga : findIn K (.ref C) "__getattribute__" = some (some (.builtin "BaseException.__getattribute__"))) (hgt : findIn K (.ref C) "__getattr__" = some gt)
    (hsub : subIn K (.ref C) (.type "BaseException") = some true) (hdct : hasDictIn K C = true) (ha : findIn K (.ref C) "__class__" = some (some (.builtin "object.__class__")))
    (hn : specialIn K (.builtin "object.__class__") "__get__" = some (some (.builtin "getset_descriptor.__get__"))) (htk : takesIn K (.builtin "object.__class__") = some true) (hm : mroIn K C (.type "object") = some true)
    (h : Q (.ref C) { s with toks := s.toks + 1 }) : wpAny (model prog w) A (getAttr (.ref x) "__class__" expr) Q E s := by
  have hf : findObj K C none "__class__" = some (.bind (.builtin "getset_descriptor.__get__") (.builtin "object.__class__")) := findObj_dataN (by obtain ⟨cd, hc, _⟩ := any_some hdct; rw [hc]; rfl) ha hn htk
  obtain ⟨hp, g, d, t, os⟩ := s
  have L0 := I.type (M := model prog w)
  have L1 := looks_findIn (M := model prog w) X hga
  have L2 := looks_findIn (M := model prog w) X hgt
  have L3 := looks_find (M := model prog w) X I hf
  have sub : Looks (model prog w) hp (isInstance (.ref x) (.type "BaseException")) true := L0.andThen (looks_subIn X hsub)
  have hx0 : (expr && onTheHeap (Value.builtin "BaseException.__getattribute__")) = false := by cases expr <;> rfl
  have hx2 : (Value.builtin "BaseException.__getattribute__" == Value.builtin "object.__getattribute__") = false := by decide +kernel
  have hx1 : (onTheHeap (Value.ref C) && Value.builtin "BaseException.__getattribute__" == Value.builtin "object.__getattribute__") = false := by rw [hx2]; rfl
  unfold getAttr getAttrBy
  refine wpAny_bind (wpAny_mkText (wpAny_holding (wpAny_bind (L0.at (wpAny_bind (L1.at ?_))))))
  show wpAny _ _ (if (onTheHeap (Value.ref C) && Value.builtin "BaseException.__getattribute__" == Value.builtin "object.__getattribute__") = true then _ else _) _ _ _
  rw [hx1, if_neg Bool.false_ne_true]
  unfold getAttrByItsOwn hookBefore
  refine wpAny_bind ?_
  rw [if_pos (show onTheHeap (Value.ref C) = true from rfl)]
  refine L2.at ?_
  refine wpAny_bind (wpAny_attempt (wpAny_holding ?_))
  unfold callGetattribute
  rw [hx0, if_neg Bool.false_ne_true]
  unfold boundAndCalled
  rw [PySem.F.excAttr_ValueError.ga.bind (.ref x)]
  refine wpAny_bind (wpAny_pure ?_)
  show wpAny _ _ (call (.builtin "BaseException.__getattribute__") [.ref x, .str "__class__" t]) _ _ _
  refine wpAny_call (codeAny_call_builtin PySem.F.excAttr_ValueError.ga.plain PySem.F.entry_bexc_ga ?_)
  refine @check_slot (model prog w) _ _ ⟨hp, g, d, t + 1, os⟩ "BaseException.__getattribute__" "BaseException" "__getattribute__" (.ref x) [.str "__class__" t] [] _ (by decide +kernel) (by decide +kernel) sub (PySem.F.args_bexc_ga (.ref x) (.str "__class__" t)) ?_
  unfold Builtin.«object.__getattribute__»
  refine wpAny_bind (wpAny_of_eq (a := ((Value.ref x : Value), [Value.str "__class__" t])) (by first | rfl | (simp only [slotArgs]; rfl)) ?_)
  refine wpAny_bind (wpAny_pure (wpAny_bind (L0.at (wpAny_bind (L3.at ?_)))))
  show wpAny _ _ (holding [Value.builtin "object.__class__"] (call (.builtin "getset_descriptor.__get__") [.builtin "object.__class__", .ref x, .ref C]) >>= ret) _ _ _
  refine wpAny_bind (wpAny_holding (wpAny_call (class_get (s := ⟨hp, g, d, t + 1, os⟩) (ox := ox) (od := none) X I hm ?_)))
  refine wpAny_pure ?_
  show wpAny _ _ (handedOut (.ref C)) _ _ _
  rw [handedOut_of (v := .ref C) rfl]
  exact wpAny_pure h
end
end Sw
namespace Sw
open PySem PySem.Spec PyProof.Rows L2
/-- what a class must be for its name to be read -/
structure NamC (K : PySem.W.Frag) (C : Addr) (z : Str) : Prop where
  rd : PySem.W.readsIn K C (.type "type") = true
  fc : PySem.W.findCls K (.ref C) (.type "type") "__name__" = some (.get (.builtin "getset_descriptor.__get__") (.builtin "type.__name__") (.ref C) (.type "type"))
  lk : ∃ (o : Obj) (tk : Tok), K.lookup C = some o ∧ o.cls = .type "type" ∧ o.slots[2]? = some (some (.str z tk))
/-- e.__class__.__name__, e an exception in the making -/
def tExN (K : PySem.W.Frag) (te : TE) : TE := fun σ H Q => te σ H fun x H1 => ∃ (a C : Addr) (z : Str), x = .ref a ∧ H1 a = some (exo a C none) ∧ ExcC K C ∧ NamC K C z ∧ Q (.str z) H1
theorem pe_exn {X : Cx} {e : Expr} {p1 p2 : Pos} {te : TE} (he : PE X e te) (hb : attributeBase e "__class__" X.env (eval e X.env) = eval e X.env := by rfl)
    (hb2 : attributeBase (.Attribute e "__class__" p1) "__name__" X.env (eval (.Attribute e "__class__" p1) X.env) = eval (.Attribute e "__class__" p1) X.env := by rfl) :
    PE X (.Attribute (.Attribute e "__class__" p1) "__name__" p2) (tExN X.K te) := by
  refine ⟨fun pins s σ H Q I h => ?_⟩
  refine attr_of hb2 (attr_of hb (thn (he.run pins s σ H _ I h) fun u s1 ⟨x, H1, I1, rx, a, C, z, ex, ea, T, N, q⟩ => ?_))
  subst ex
  obtain rfl : u = Value.ref a := rx
  obtain ⟨t1, ho⟩ := exo_at I1.hok ea
  obtain ⟨o, tk, hC, hcls, hsl⟩ := N.lk
  refine exc_class I1.kIn (ox := _) ⟨ho, rfl, rfl, trivial⟩ T.hg T.hk T.hs T.hd T.ha T.hn T.ht T.hm ?_
  have I2 := I1.tok (s1.toks + 1)
  refine cnm_attr (s := { s1 with toks := s1.toks + 1 }) I2.kIn N.rd N.fc hC hcls hsl ?_
  exact ⟨.str z, H1, I2.tok _, ⟨tk, rfl⟩, q⟩
end Sw
set_option Elab.async false
set_option linter.all false
set_option maxRecDepth 100000
set_option maxHeartbeats 2000000
/-! Rules of my own: within an except suite: a def that is handed the caught exception, isinstance of it, a comprehension over a range. -/
namespace Sw
open PySem PySem.Spec PyProof.Rows L2 L2H HotX

/-! ### a def called while p's exception is handled, its promise speaks of p -/
structure FnE (P : Program) (w : World) (K : PySem.W.Frag) (mg : Str → Option Value) (base : Heap) (CX : CXT) (k : Nat) (f : Addr) (fd : FuncData) (ps : List Str) (sp : Addr × Obj → Sp) : Prop where
  len : ∀ p vs H Q E, sp p vs H Q E → vs.length = ps.length
  run : ∀ (p : Addr × Obj) (A : Around) (outer : List Env) (s : Shared) (H : Hp) (args : Args) (us : List Value) (vs : List V) (Q : VK) (E : XK), RoomH k A → Hot1 A p → PinOk outer H s p → Env0 P w K mg base A outer s H →
    BindsTo s fd args (ps.zip us) → Vals vs us → sp p vs H Q E → codeAny (model P w) A (.call (.ref f) args) (CR CX outer P w H s Q E) s
/-- for one exception it is a def of the hot kind; what a hot def's promise may lean on is put into it -/
def atP (p : Addr × Obj) (A : Around) (sp : Sp) : Sp := fun vs H Q E => Hot1 A p ∧ sp vs H Q E
theorem fn_ofE {CX : CXT} {P : Program} {w : World} {K : PySem.W.Frag} {mg : Str → Option Value} {base : Heap} {k : Nat} {f : Addr} {name qual : Str} {params : Arguments} {body : List Stmt} {scope : Scope} {dV kV doc pm cdv ct oc : Value} {an od : Option Addr}
    {osl : Array (Option Value)} {N ps : List Str} {sp : Addr × Obj → Sp} (lk : K.lookup f = some ⟨oc, od, .func (PySem.W.fnOf name qual params body scope dV kV doc pm an cdv ct), osl⟩) (hcd : PySem.W.codeIn K cdv qual = true) (S : FnScope N ps scope)
    (len : ∀ p vs H Q E, sp p vs H Q E → vs.length = ps.length)
    (hbody : ∀ (p : Addr × Obj) (A : Around) (outer : List Env) (s : Shared) (H : Hp) (vs : List V) (Q : VK) (E : XK), Hot1 A p → RoomH k (A.deeper (envOfC qual scope s.heap.objs.size f cdv)) → sp p vs H Q E →
      ∃ t, PSs (cxH CX P w K mg base N qual scope f cdv A outer s H E p) body t ∧ t { nx := fun _ H' => Q .non H', rt := Q } (L2.start N vs) H) :
    FnE P w K mg base CX (k + 1) f (PySem.W.fnOf name qual params body scope dV kV doc pm an cdv ct) ps sp := by
  refine ⟨len, fun p A outer s H args us vs Q E hr hot hpin e0 hb r hsp => ?_⟩
  have KX : K.In s.heap := e0.mod.kin.keeps fun b o e => (e0.bs b o e).1
  have lim := e0.mod.nolimit.keeps fun b o e => (e0.bs b o e).1
  have hl := len p _ _ _ _ hsp
  have names : ∀ y ∈ ps.zip us, scope.names.lookup y.1 = some .local ∨ (scope.names.lookup y.1 = some .cell ∧ ((cellsFrom (s.heap.objs.size + 1) scope.names []).lookup y.1).isSome = true) := by
    rintro ⟨n, v⟩ hy
    exact (S.par n (List.of_mem_zip hy).1).imp id fun q => ⟨q, PySem.W.cellsFrom_some _ _ _ (.inl q)⟩
  refine codeAny_call_function hr.depth (KX _ _ lk) rfl S.co S.gen rfl (PySem.W.codeRec_of KX hcd) (hb _ _ _ _ (wpAny_newFunctionEnv_cells S.kind names fun env he s1 x => ?_))
  subst he
  refine ⟨lim.keeps x.toInCall.keep, codeAny_func ?_⟩
  obtain ⟨t, ht, hq⟩ := hbody p A outer s H vs Q E hot (hr.deeper _) hsp
  refine wpAny_mono (ht.run [] s1 (L2.start N vs) H _ (inv_startH S hpin e0 hl r x) hq) (fun fl s' hs => ?_) fun _ _ z => z
  cases fl with
  | ret u =>
    obtain ⟨v, _, H', J, rv, q⟩ := hs
    exact ⟨v, H', J.os, J.bare, J.base, J.hok, rv, q⟩
  | next =>
    obtain ⟨_, H', J, q⟩ := hs
    exact ⟨V.non, H', J.os, J.bare, J.base, J.hok, rfl, q⟩
  | brk =>
    obtain ⟨_, _, _, q⟩ := hs
    exact False.elim q
  | cont =>
    obtain ⟨_, _, _, q⟩ := hs
    exact False.elim q
/-- f(e, ..), f being handed the exception: what its promise asks is shown of any object that Z holds of -/
def tCallX (Z : Addr × Obj → Prop) (sp : Addr × Obj → Sp) (E : L2.St → XK) (t : TA) : TE := fun σ H Q => t σ H fun vs H1 => ∀ p, Z p → sp p vs H1 Q (E σ)
section
variable {X : Cx} {CX : CXT} {k : Nat} {f : Addr} {fd : FuncData} {ps : List Str} {sp : Addr × Obj → Sp} {E : L2.St → XK} {x : Str} {q pos : Pos} {e : Expr} {es : List Expr} {t : TA} {p : Addr × Obj}
theorem pe_callE {Z : Addr × Obj → Prop} (hz : Z p) (F : FnE X.prog X.w X.K X.mg X.base CX k f fd ps sp) (hr : RoomH k X.A) (hot : Hot1 X.A p) (hp : p ∈ X.pn) (hg : Gl X x) (hm : X.mg x = some (.ref f)) (hk : PySem.W.keepIn X.K (.ref f) = true) (hb : Binds X.K fd ps []) (hx : ∀ σ, PassesAt CX X σ (E σ))
    (ha : PA X (e :: es) t) (hdb : (x == ("__debug__" : Str)) = false := by decide) (he : starEach (e :: es) X.env = (false, eval e X.env) :: starEach es X.env := by rfl) (hpl : (backTo pos (starEach es X.env)).any (·.1) = false := by rfl) :
    PE X (.Call (.Name x q) (e :: es) [] pos) (tCallX Z sp E t) := by
  refine ⟨fun pins s σ H Q I h => wpAny_Call_Name_kw (ld_glob I hg hm ?_ hdb)⟩
  refine PySem.W.callWith_K (h₀ := X.base) I.ok.mod.kin hk (thn (ha.run pos pins s σ H _ I h) fun us s1 ⟨vs, H1, I1, r, all⟩ => ⟨I1.kIn, ?_⟩) he hpl
  have hsp := all p hz
  have hl : us.length = ps.length := r.length.symm.trans (F.len p _ _ _ _ hsp)
  have b := hb s1 us I1.kIn (by rw [List.append_nil]; exact hl)
  rw [List.append_nil] at b
  have P1 := I1.pin p (List.mem_append_left _ hp)
  have hpin : PinOk X.stack H1 s1 p := ⟨P1.1, P1.2.1, fun hm => (List.mem_cons.mp (I1.stkSub p.1 hm)).elim P1.2.2.1 P1.2.2.2.1, P1.2.2.2.2⟩
  refine wpAny_call (codeAny_mono (F.run p X.A X.stack s1 H1 ⟨us, []⟩ us vs Q (E σ) hr hot hpin I1.env0 b r hsp) fun r s' hq => ?_)
  cases r with
  | error e => exact hx σ pins H1 s1 e s' I1 hq
  | ok fl =>
    cases fl with
    | ret u => exact I1.after hq
    | _ => exact hq.elim
end

/-! ### isinstance(e, C), e the exception that is handled, with a dict of its own -/
/-- isinstance(e, c): a the exception, D its class, d its dict -/
def rIsX (K : PySem.W.Frag) (D a d : Addr) : List V → Hp → VK → Prop := fun xs H Q => ∃ (c : V) (cv : Value) (b : Bool) (fs : List (Str × V)), xs = [.ref a, c] ∧ (∀ u, RelV c u → u = cv) ∧ PySem.W.kitOne K (.ref D) cv = some b ∧ H d = some (.xd fs) ∧ Q (.bl b) H
theorem call_isX {X : Cx} {D d : Addr} {p : Addr × Obj} (T : ExcC X.K D) (hp : p ∈ X.pn) (hz : Zc (.ref D) (some d) p.2) (hf : ∃ vs, p.2.data = .fields vs) : CallR X (.builtin "isinstance") (rIsX X.K D p.1 d) := by
  intro pins s σ H xs us Q I r h
  obtain ⟨c, cv, b, fs, rfl, hcv, e, hd, q⟩ := h
  obtain ⟨u1, u2, rfl, r1, r2⟩ := vals2 r
  obtain rfl : u1 = Value.ref p.1 := r1
  obtain rfl := hcv _ r2
  obtain ⟨vs, hv⟩ := hf
  obtain ⟨mA, hns, _⟩ := (show ObjOk X.prog X.w H s.heap d (.xd fs) from I.hok d _ hd)
  obtain ⟨od, ho, _⟩ := lookIn_ns hns
  have J : PySem.W.InstAt s.heap p.1 p.2 D (some od) := ⟨(I.pin p (List.mem_append_left _ hp)).1, hz.1, by unfold PySem.W.notCls; rw [hv] <;> rfl, by rw [hz.2]; exact ho⟩
  exact PySem.W.kia_one (PySem.W.kitx_exc (by obtain ⟨cd, hc, _⟩ := PySem.W.any_some T.hd; rw [hc]; rfl) T.hg T.hk T.hs T.ha T.hn T.ht T.hm) I.kIn J e (fun z => nomatch z) fun tk => ⟨.bl b, H, I.kept (t' := tk) fun _ _ z => z, rfl, q⟩

/-! ### [e for i in range(n) if t] within a suite -/
/-- a comprehension's block there: the handled exception is kept -/
abbrev hBlk (X : Cx) (s : Shared) (H : Hp) (scope : Scope) (cenv : Env) (fp : List Addr) : Cx := { X.blk s H scope cenv fp with pn := X.pn }
theorem hBlk_start {X : Cx} {pins : List (Addr × Obj)} {σ : L2.St} {H : Hp} {s : Shared} {scope : Scope} {own : List (Str × Nat)} {fp : List Addr} (I : Inv X pins σ H s) (ok : BlkOk X.N X.env.scope scope own) (hN : X.N.Nodup) (hfp : ∀ b ∈ fp, FpOk X pins H b ∧ b < s.heap.objs.size) :
    Inv (hBlk X s H scope (compEnvC scope (cellsFrom (s.heap.objs.size + 1) scope.names (cloFrom X.env.cells scope.names [])) s.heap.objs.size X.env) fp) [] (wipe σ (own.map (·.2))) H { s with heap := pushCells (s.heap.push { cls := .type "dict", data := .dict #[] }) scope.names } := by
  have J := block_start I ok hN hfp
  refine ⟨⟨J.ok.mod, J.ok.kind, J.ok.glob, J.ok.blt, J.ok.above, J.ok.inj, J.ok.has, J.ok.cab, J.ok.hd, J.ok.frames, J.ok.stk, J.ok.exf, J.ok.bs, J.ok.bsz, J.ok.noex, J.ok.exfs, J.ok.funs, J.ok.frf⟩, J.os, J.bare, J.base, J.loc, J.cell, J.free, J.freeC, fun p hp => ?_, J.hok, J.len⟩
  have hp2 : p ∈ X.pn := by simpa using hp
  obtain ⟨g1, g2, g3, g4, g5⟩ := I.pin p (List.mem_append_left _ hp2)
  refine ⟨pushCells_keeps _ _ _ _ (Heap.get?_push_of_some _ g1), g2, Nat.ne_of_lt (Heap.lt_size g1), fun hm => ?_, g5⟩
  exact (List.mem_cons.mp (I.stkSub p.1 hm)).elim g3 g4
def tLcH (lo : Int) (n : Nat) (g : TG) (tt : TT) (te : TE) (vs : List Nat) : TE := fun σ H Q => ∀ D, H D = none → ∃ Pv : Nat → Hp → Prop, Pv 0 (upd H D (.lst [])) ∧
  (∀ i H1, i < n → Pv i H1 → g (.int (lo + i)) (wipe σ vs) H1 fun σ2 H2 => wipe σ2 vs = wipe σ vs ∧ tt σ2 H2 fun b H3 =>
    if b = true then te σ2 H3 fun y H4 => ∃ acc, H4 D = some (.lst acc) ∧ acc.length < sizeLine ∧ Pv (i + 1) (upd H4 D (.lst (acc ++ [y]))) else Pv (i + 1) H3) ∧ ∀ H1, Pv n H1 → Q (.ref D) H1
section
variable {X : Cx}
theorem lc_coreH {pins : List (Addr × Obj)} {s : Shared} {σ : L2.St} {H : Hp} {Q : VK} {elt tg iter : Expr} {ifs : List Expr} {scope : Scope} {own : List (Str × Nat)} {pos pos' : Pos} {wi : TI} {g : TG} {tt : TT} {te : TE} {n : Nat} {lo : Int} {use : Option (Value → Sem Unit)} {Qf : Value → Shared → Prop}
    (hc : HotC X) (hN : X.N.Nodup) (I : Inv X pins σ H s) (hi : PIH X tg iter wi) (hw : ∀ σ H (R : It → Hp → Prop), R (Itr lo n) H → wi σ H R)
    (ok : BlkOk X.N X.env.scope scope own)
    (hg : ∀ (s : Shared) (H : Hp) (C : Addr) (cl : List (Str × Addr)) (fp : List Addr), PG (hBlk X s H scope (compEnvC scope cl C X.env) fp) tg g) (ht : ∀ (s : Shared) (H : Hp) (C : Addr) (cl : List (Str × Addr)) (fp : List Addr), PTs (hBlk X s H scope (compEnvC scope cl C X.env) fp) ifs tt)
    (he : ∀ (s : Shared) (H : Hp) (C : Addr) (cl : List (Str × Addr)) (fp : List Addr), PE (hBlk X s H scope (compEnvC scope cl C X.env) fp) elt te) (hs : ∀ x, foldedSetIterable iter X.env x = pure x)
    (h : tLcH lo n g tt te (own.map (·.2)) σ H Q)
    (hRR : ∀ D C s' m H', Inv X pins σ H' s' → Q (.ref D) H' → s'.heap.Ns C m → FpOk X pins H' C → compPost (model X.prog X.w) X.A X.xe use Qf (.ref D) C (.ok .next) s') :
    wpAny (model X.prog X.w) X.A (comprehension (.ListComp elt [⟨tg, iter, ifs, 0⟩] scope pos) scope X.env pos' (newList []) false (eval iter X.env) use) Qf X.xe s := by
  have caps : ∀ y ∈ scope.names, y.2 = .free → ∃ c, X.env.cells.lookup y.1 = some c := fun y hy e => I.ok.has _ ((ok.free y hy e).imp id id)
  refine wpAny_comprehension_free (use := use) rfl hs (closure_ok caps) ok.kind (fun y hy e => (ok.uniq y hy).trans (congrArg some e))
    (thn (hi.run pins s σ H (fun J H' => J = Itr lo n ∧ H' = H) I (hw _ _ _ ⟨rfl, rfl⟩)) fun xv s1 hx => thn hx fun itv s2 h2 => ?_)
  obtain ⟨it, fp, tn, J, H2, rfl, I2, T, st2, f2, eJ, eH⟩ := h2
  subst eJ eH
  refine wpAny_newObj_type (newEnv_comp ?_) (Nat.zero_le _)
  -- the list that is filled stands at D
  generalize hD : s2.heap.objs.size = D
  have freeD : H2 D = none := I2.hok.fresh (Nat.le_of_eq hD)
  obtain ⟨Pv, p0, turn, fin⟩ := h D freeD
  generalize hs3 : ({ s2 with heap := s2.heap.push { cls := .type "list", data := .seq ([] : List Value).toArray } } : Shared) = s3
  have heap3 : s3.heap = s2.heap.push { cls := .type "list", data := .seq ([] : List Value).toArray } := by rw [← hs3]
  have I3 : Inv X pins σ (upd H2 D (.lst [])) s3 := by
    rw [← hs3]
    exact I2.laid (t' := s2.toks) (fun b o e => Heap.get?_push_of_some _ e) (Nat.le_of_eq hD) ⟨Nat.zero_le _, [], 0, .nil, by rw [← hD]; exact Heap.get?_push_size _ rfl⟩
  have f3 : ∀ b ∈ fp, FpOk X pins (upd H2 D (.lst [])) b ∧ b < s3.heap.objs.size := fun b hb => by
    obtain ⟨o, e, _⟩ := T.obj _ _ st2 b hb
    have lt := Heap.lt_size e
    exact ⟨⟨by rw [upd_ne (by rw [← hD]; exact Nat.ne_of_lt lt)]; exact (f2 b hb).1, (f2 b hb).2⟩, by rw [heap3, Heap.size_push]; exact Nat.lt_succ_of_lt lt⟩
  have I4 := hBlk_start I3 ok hN f3
  have pg := hg s3 (upd H2 D (.lst [])) s3.heap.objs.size (cellsFrom (s3.heap.objs.size + 1) scope.names (cloFrom X.env.cells scope.names [])) fp
  have pt := ht s3 (upd H2 D (.lst [])) s3.heap.objs.size (cellsFrom (s3.heap.objs.size + 1) scope.names (cloFrom X.env.cells scope.names [])) fp
  have pe := he s3 (upd H2 D (.lst [])) s3.heap.objs.size (cellsFrom (s3.heap.objs.size + 1) scope.names (cloFrom X.env.cells scope.names [])) fp
  show codeAny _ _ (.compStart (.ListComp elt [⟨tg, iter, ifs, 0⟩] scope pos) 0 (.ref it) (.ref D) (compEnvC scope (cellsFrom (s3.heap.objs.size + 1) scope.names (cloFrom X.env.cells scope.names [])) s3.heap.objs.size X.env))
    (compPost (model X.prog X.w) X.A X.xe use Qf (.ref D) s3.heap.objs.size) { s3 with heap := pushCells (s3.heap.push { cls := .type "dict", data := .dict #[] }) scope.names }
  generalize hce : compEnvC scope (cellsFrom (s3.heap.objs.size + 1) scope.names (cloFrom X.env.cells scope.names [])) s3.heap.objs.size X.env = ce at I4 pg pt pe ⊢
  have cL : ce.locals = s3.heap.objs.size := by subst hce; rfl
  have nf3 : ∀ b ∈ fp, (upd H2 D (.lst [])) b = none := fun b hb => (f3 b hb).1.1
  generalize upd H2 D (.lst []) = H3 at I3 I4 pg pt pe p0 f3 nf3
  have hcB : HotC (hBlk X s3 H3 scope ce fp) := hc
  have st4 : tn 0 (pushCells (s3.heap.push { cls := .type "dict", data := .dict #[] }) scope.names) := T.keep _ _ _ st2 fun b _ o e => pushCells_keeps _ _ _ _ (Heap.get?_push_of_some _ (by rw [heap3]; exact Heap.get?_push_of_some _ e))
  generalize hs4 : ({ s3 with heap := pushCells (s3.heap.push { cls := .type "dict", data := .dict #[] }) scope.names } : Shared) = s4 at I4 ⊢
  have st4 : tn 0 s4.heap := by
    rw [← hs4]
    exact st4
  have stat : ∀ {σ' : L2.St} {H' : Hp} {s' : Shared}, Inv (hBlk X s3 H3 scope ce fp) [] σ' H' s' → (∀ b ∈ fp, H' b = none) → ∀ b ∈ fp, FpOk (hBlk X s3 H3 scope ce fp) [] H' b := fun {_ _ _} I' hn b hb =>
    ⟨hn b hb, (I'.ok.exf b hb).1, I'.ok.exfs b hb, .inl hb, fun x c e => (I'.ok.exf b hb).2 x c e, fun p hp => (f3 b hb).1.2.2.2.2.2 p (List.mem_append_left _ (by simpa using hp))⟩
  suffices loop : codeAny (model X.prog X.w) X.A (.compLoop (.ListComp elt [⟨tg, iter, ifs, 0⟩] scope pos) 0 (.ref it) (.ref D) ce) (compPost (model X.prog X.w) X.A X.xe use Qf (.ref D) s3.heap.objs.size) s4 from codeAny_compStart_list loop (T.self X.A 0 _ _ _ st4 loop)
  refine (compLoop_any (fun m s' => ∃ i H', m = n - i ∧ i ≤ n ∧ Inv (hBlk X s3 H3 scope ce fp) [] (wipe σ (own.map (·.2))) H' s' ∧ tn i s'.heap ∧ (∀ b ∈ fp, H' b = none) ∧ Pv i H') ?_ n ⟨0, H3, by simp, Nat.zero_le _, I4, st4, nf3, p0⟩)
  rintro m s5 ⟨i, H5, rfl, hle, I5, st5, n5, p5⟩
  by_cases hlt : i < n
  · -- one more turn
    refine thnF (T.item (hBlk X s3 H3 scope ce fp) rfl rfl rfl hcB i [] s5 _ H5 (fun _ _ => False) I5 (stat I5 n5) st5 hlt) fun r s6 ⟨u, hr, h6⟩ => ?_
    subst hr
    refine thnF h6 fun _ s7 ⟨x, H7, I7, r7, y7, st7, n7⟩ => ?_
    obtain ⟨e7, ex⟩ := y7
    subst e7 ex
    refine thnF (pg.run _ s7 _ H7 _ u _ (I7.pinned (stat I7 n7) (T.obj _ _ st7)) r7 (turn i H7 hlt p5)) fun _ s8 ⟨σ8, H8, I8, w8, q8⟩ => ?_
    refine thnF (pt.run _ s8 σ8 H8 _ I8 q8) fun b s9 ⟨H9, I9, q9⟩ => ?_
    have next : ∀ {s' : Shared} {H' : Hp}, Inv (hBlk X s3 H3 scope ce fp) ([] ++ pinsAt fp s7.heap) σ8 H' s' → Pv (i + 1) H' →
        ∃ m, m < n - i ∧ ∃ i H', m = n - i ∧ i ≤ n ∧ Inv (hBlk X s3 H3 scope ce fp) [] (wipe σ (own.map (·.2))) H' s' ∧ tn i s'.heap ∧ (∀ b ∈ fp, H' b = none) ∧ Pv i H' := fun {s' H'} I' p' => by
      have still : ∀ b ∈ fp, ∀ o, s7.heap.get? b = some o → s'.heap.get? b = some o ∧ H' b = none := fun b hb o e =>
        let z := I'.pin (b, o) (List.mem_append_right _ (List.mem_append_right _ (mem_pinsAt hb e)))
        ⟨z.1, z.2.1⟩
      refine ⟨n - (i + 1), by omega, i + 1, H', rfl, hlt, (I'.unpinned (pins := [])).weak (by rw [← w8, wipe_length]) (fun j v e => ?_), T.keep _ _ _ st7 fun b hb o e => (still b hb o e).1, fun b hb => ?_, p'⟩
      · rw [← w8] at e
        exact (wipe_some e).1
      · obtain ⟨o, e, _⟩ := T.obj _ _ st7 b hb
        exact (still b hb o e).2
    cases b with
    | false => exact next I9 q9
    | true =>
      refine thnF (pe.run _ s9 σ8 H9 _ I9 q9) fun z s10 ⟨yv, H10, I10, r10, acc, hD10, hz10, nx⟩ => ?_
      exact app_ok (X := hBlk X s3 H3 scope ce fp) I10 hD10 hz10 r10 fun s11 I11 => next I11 nx
  · -- the range is at its end
    have e : i = n := by omega
    subst e
    refine thnF (T.done (hBlk X s3 H3 scope ce fp) rfl rfl rfl hcB i [] s5 _ H5 (fun _ _ => False) I5 (stat I5 n5) st5 (Nat.le_refl i)) fun r s6 ⟨hr, I6⟩ => ?_
    subst hr
    have I7 : Inv X pins σ H5 s6 := I3.call' (ch := fp) I6.os I6.base I6.hok I6.bare fun b hb => ⟨(f3 b hb).1.2.2.2.1, (f3 b hb).1.2.1, (f3 b hb).1.2.2.2.2.1, (f3 b hb).1.2.2.2.2.2⟩
    have noC : H5 s3.heap.objs.size = none := cL ▸ I6.free
    obtain ⟨m, hn, _⟩ := I6.loc
    have hn : s6.heap.Ns s3.heap.objs.size m := cL ▸ hn
    exact hRR D s3.heap.objs.size s6 m H5 I7 (fin H5 p5) hn (I3.fpOk (Nat.le_refl _) noC)
variable {elt tg iter : Expr} {ifs : List Expr} {scope : Scope} {own : List (Str × Nat)} {pos : Pos} {wi : TI} {g : TG} {tt : TT} {te : TE} {n : Nat} {lo : Int}
theorem pe_lcH (hc : HotC X) (hN : X.N.Nodup) (hi : PIH X tg iter wi) (hw : ∀ σ H (R : It → Hp → Prop), R (Itr lo n) H → wi σ H R) (ok : BlkOk X.N X.env.scope scope own)
    (hg : ∀ (s : Shared) (H : Hp) (C : Addr) (cl : List (Str × Addr)) (fp : List Addr), PG (hBlk X s H scope (compEnvC scope cl C X.env) fp) tg g) (ht : ∀ (s : Shared) (H : Hp) (C : Addr) (cl : List (Str × Addr)) (fp : List Addr), PTs (hBlk X s H scope (compEnvC scope cl C X.env) fp) ifs tt)
    (he : ∀ (s : Shared) (H : Hp) (C : Addr) (cl : List (Str × Addr)) (fp : List Addr), PE (hBlk X s H scope (compEnvC scope cl C X.env) fp) elt te) (hs : ∀ x, foldedSetIterable iter X.env x = pure x := by intro _; rfl) :
    PE X (.ListComp elt [⟨tg, iter, ifs, 0⟩] scope pos) (tLcH lo n g tt te (own.map (·.2))) := by
  refine ⟨fun pins s σ H Q I h => ?_⟩
  rw [eval_ListComp]
  refine lc_coreH hc hN I hi hw ok hg ht he hs h fun D C s' m H' I' q hn ⟨z0, z1, z2, z3, z4, z5⟩ => ⟨m, hn, fun h'' sb => ?_⟩
  exact ⟨.ref D, H', I'.turned (t' := s'.toks) (fun b o hb e => (sb.2 b hb).trans e) z0 z1 z3 z4 z5, rfl, q⟩
/-- y = [..], y a local, written within the block's frame -/
theorem ps_setLcH {i : Nat} {y : Str} {py spos : Pos} (hc : HotC X) (hN : X.N.Nodup) (hy : X.N[i]? = some y) (hyl : X.env.scope.names.lookup y = some .local)
    (hsw : swapsWith (.ListComp elt [⟨tg, iter, ifs, 0⟩] scope pos) (some (.Name y py)) spos.line X.env = pure true) (hi : PIH X tg iter wi) (hw : ∀ σ H (R : It → Hp → Prop), R (Itr lo n) H → wi σ H R) (ok : BlkOk X.N X.env.scope scope own)
    (hg : ∀ (s : Shared) (H : Hp) (C : Addr) (cl : List (Str × Addr)) (fp : List Addr), PG (hBlk X s H scope (compEnvC scope cl C X.env) fp) tg g) (ht : ∀ (s : Shared) (H : Hp) (C : Addr) (cl : List (Str × Addr)) (fp : List Addr), PTs (hBlk X s H scope (compEnvC scope cl C X.env) fp) ifs tt)
    (he : ∀ (s : Shared) (H : Hp) (C : Addr) (cl : List (Str × Addr)) (fp : List Addr), PE (hBlk X s H scope (compEnvC scope cl C X.env) fp) elt te) (hs : ∀ x, foldedSetIterable iter X.env x = pure x := by intro _; rfl) :
    PS X (.Assign [.Name y py] (.ListComp elt [⟨tg, iter, ifs, 0⟩] scope pos) spos) (tAsg (tLcH lo n g tt te (own.map (·.2))) (gName i)) := by
  refine ⟨fun pins s σ H D I h => ?_⟩
  rw [exec_Assign_Name_used _ _ _ _ hsw]
  have h : tLcH lo n g tt te (own.map (·.2)) σ H (fun x H1 => gName i x σ H1 D.nx) := h
  refine wpAny_bind (wpAny_standAt (wpAny_bind ?_))
  refine wpAny_bind (thn (lc_coreH (use := some (assign (.Name y py) X.env)) (Qf := fun _ s' => SP X pins D .next s') hc hN I hi hw ok hg ht he hs h fun L C s' m H' I' q hn f => ?_) fun _ _ z => wpAny_pure (wpAny_pure z))
  obtain ⟨z0, z1, z2, z3, z4, z5⟩ := f
  refine wpAny_assign_Name (store_ok2 (v := V.ref L) I' hN hy (.inl hyl) rfl (fun s2 I2 ⟨a, sb, ha⟩ => ?_) (.inr hyl))
  have ne : C ≠ a := ha.elim (fun z => z ▸ z1) (fun z e => z4 y a z e.symm)
  refine ⟨m, hn.sameBut sb ne, fun h3 sb3 => ?_⟩
  exact ⟨_, H', I2.turned (t' := s2.toks) (fun b o hb e => (sb3.2 b hb).trans e) z0 z1 z3 z4 z5, q⟩
end
end Sw
set_option Elab.async false
set_option linter.all false
set_option maxRecDepth 100000
set_option maxHeartbeats 2000000
/-! Rules of my own: max(xs, default=d), xs a list of ints that may be empty. -/
namespace Sw
open PySem
section
variable {prog : Program} {w : World} {A : Around} {R : Result → Shared → Prop} {I S : Addr} {fp wr : List Addr} {n : Nat} {P : Nat → Value → Prop} {St : Nat → Heap → Prop} {d : Value}
abbrev dkw (d : Value) : List (Str × Value) := [(Str.ofString "default", d)]
/-- what stands in the list of the best so far -/
def bestSeq : Option Value → Array Value
  | none => #[]
  | some v => #[v, v]
theorem mxd_loop (W : Walks prog w A.in1 I fp wr n P St) (bt : Nat → Nat → Bool) (hcmp : CmpOf prog w A.in1 .Gt P bt) (hSf : S ∉ fp) : ∀ (k j : Nat) (s : Shared) (c : Nat) (best : Option Value), n - j = k → j ≤ n → St j s.heap →
    (best = none → j = 0) → (∀ v, best = some v → 0 < j ∧ P (argBest bt (j - 1)) v) → s.heap.get? S = some { cls := .type "list", dict := none, data := .seq (bestSeq best) c, slots := #[] } →
    (∀ u h' tk, (n = 0 → u = d) → (0 < n → P (argBest bt (n - 1)) u) → (∀ b o, b ∉ wr → b ≠ S → s.heap.get? b = some o → h'.get? b = some o) → R (.ok (.ret u)) { s with heap := h', toks := tk }) →
    codeAny (model prog w) A (.builtin "max.loop" ⟨[.ref I, .none, .ref S], dkw d⟩) R s := by
  have nameL : (toString "max" ++ toString ".loop" : String) = "max.loop" := by decide
  have hSw : S ∉ wr := fun h => hSf (W.sub _ h)
  intro k
  induction k with
  | zero =>
    intro j s c best hk hj hst h0 h1 hS hR
    have ej : j = n := by omega
    subst ej
    refine codeAny_builtin F.entry_max_loop ?_
    rw [Around.under_plainId F.plain_max_loop _]
    refine wpAny_bind (wpAny_seqItems hS rfl ?_)
    refine wpAny_bind (wpAny_tryCatch (W.done s _ _ hst fun h' tk hk' => ?_))
    have hS' := hk' S _ hSw hS
    cases best with
    | none =>
      have z := h0 rfl
      refine wpAny_bind (wpAny_rule ?_)
      refine wpAny_pure (hR d h' tk (fun _ => rfl) (fun y => absurd y (by omega)) fun b o hbw _ e => hk' b o hbw e)
    | some v =>
      obtain ⟨z1, z2⟩ := h1 v rfl
      have hS2 : h'.get? S = some { cls := .type "list", dict := none, data := .seq #[v, v] c, slots := #[] } := hS'
      refine wpAny_bind (wpAny_updateSeq hS2 rfl (wpAny_bind (wpAny_letGo (wpAny_pure ?_))))
      exact hR v _ tk (fun y => absurd y (by omega)) (fun _ => z2) fun b o hbw hbS e => (Heap.get?_update_other _ _ (Ne.symm hbS)).trans (hk' b o hbw e)
  | succ k ih =>
    intro j s c best hk hj hst h0 h1 hS hR
    have hlt : j < n := by omega
    refine codeAny_builtin F.entry_max_loop ?_
    rw [Around.under_plainId F.plain_max_loop _]
    refine wpAny_bind (wpAny_seqItems hS rfl ?_)
    refine wpAny_bind (wpAny_tryCatch (W.item j s _ _ hlt hst fun v h' tk hP hst' hk' => ?_))
    have hS' := hk' S _ hSw hS
    have put : ∀ (u : Value) (old : Array Value), h'.get? S = some { cls := .type "list", dict := none, data := .seq old c, slots := #[] } → P (argBest bt j) u →
        codeAny (model prog w) A (.builtin "max.loop" ⟨[.ref I, .none, .ref S], dkw d⟩) R { s with heap := h'.update S (Obj.mapSeq fun _ => #[u, u]), toks := tk } := fun u old hS2 hu => by
      have other : ∀ b, b ≠ S → (h'.update S (Obj.mapSeq fun _ => #[u, u])).get? b = h'.get? b := fun b hb => Heap.get?_update_other _ _ (Ne.symm hb)
      refine ih (j + 1) _ _ (some u) (by omega) hlt (W.frame _ _ _ hst' fun b hbf o e => (other b fun z => hSf (by rw [← z]; exact hbf)).trans e) (fun z => nomatch z) (fun v' e => ?_) (Heap.get?_update_self _ hS2 rfl) fun u' h'' tk'' e0 e1 hk'' => ?_
      · cases e
        exact ⟨by omega, hu⟩
      · exact hR u' h'' tk'' e0 e1 fun b o hbw hbS e => hk'' b o hbw hbS ((other b hbS).trans (hk' b o hbw e))
    cases best with
    | none =>
      have z := h0 rfl
      subst z
      have hS2 : h'.get? S = some { cls := .type "list", dict := none, data := .seq #[] c, slots := #[] } := hS'
      refine wpAny_bind (wpAny_pure (wpAny_bind (wpAny_updateSeq hS2 rfl ?_)))
      rw [nameL]
      exact wpAny_pure ⟨plainId_quiet F.plain_max_loop _, put v _ hS2 hP⟩
    | some vb =>
      obtain ⟨z1, z2⟩ := h1 vb rfl
      have hS2 : h'.get? S = some { cls := .type "list", dict := none, data := .seq #[vb, vb] c, slots := #[] } := hS'
      have ej : j - 1 + 1 = j := by omega
      have ab : argBest bt j = if bt j (argBest bt (j - 1)) = true then j else argBest bt (j - 1) := by
        have q : argBest bt (j - 1 + 1) = if bt (j - 1 + 1) (argBest bt (j - 1)) = true then j - 1 + 1 else argBest bt (j - 1) := rfl
        rw [ej] at q
        exact q
      refine wpAny_bind (wpAny_pure (wpAny_bind (wpAny_tryCatch (wpAny_holding (wpAny_bind (hcmp j (argBest bt (j - 1)) v vb _ _ _ hP z2 ?_))))))
      refine wpAny_bind (wpAny_holding (wpAny_truthy_bool (wpAny_bind (wpAny_letGo (wpAny_pure ?_)))))
      cases hb : bt j (argBest bt (j - 1)) with
      | true =>
        rw [hb, if_pos rfl] at ab
        refine wpAny_bind (wpAny_updateSeq hS2 rfl (wpAny_bind (wpAny_letGo ?_)))
        rw [nameL]
        exact wpAny_pure ⟨plainId_quiet F.plain_max_loop _, put v _ hS2 (by rw [ab]; exact hP)⟩
      | false =>
        rw [hb, if_neg (by decide)] at ab
        refine wpAny_bind (wpAny_letGo ?_)
        rw [nameL]
        refine wpAny_pure ⟨plainId_quiet F.plain_max_loop _, ih (j + 1) _ c (some vb) (by omega) hlt hst' (fun z => nomatch z) (fun v' e => ?_) hS2 fun u' h'' tk'' e0 e1 hk'' => ?_⟩
        · cases e
          exact ⟨by omega, by show P (argBest bt j) vb; rw [ab]; exact z2⟩
        · exact hR u' h'' tk'' e0 e1 fun b o hbw hbS e => hk'' b o hbw hbS (hk' b o hbw e)
end
section
variable {prog : Program} {w : World} {A : Around} {E : Value → Shared → Prop} {s : Shared} {l : Addr} {xs : Array (Int × Tok)} {d : Value}
theorem mxd_args (a v : Value) : argsOk "max" ⟨[a], dkw v⟩ := by unfold argsOk; kernel_rfl
theorem mxd_ints {Q : Value → Shared → Prop} (hh : A.handled = none) (hl : s.heap.IsList l (intItems xs))
    (h : ∀ v h' tk, (xs.size = 0 → v = d) → (0 < xs.size → (intItems xs)[argBest (fun i j => decide (numAt xs i > numAt xs j)) (xs.size - 1)]? = some v) → (∀ b o, s.heap.get? b = some o → h'.get? b = some o) → Q v { s with heap := h', toks := tk }) :
    wpAny (model prog w) A (call (.builtin "max") [.ref l] (dkw d)) Q E s := by
  have nameL : (toString "max" ++ toString ".loop" : String) = "max.loop" := by decide
  have hsz : (intItems xs).size = xs.size := by simp [intItems]
  refine PyProof.Rows.kmk_tree F.kind_max F.plain_max F.entry_max (mxd_args _ _) ?_
  refine wpAny_bind (wpAny_of_eq (show Builtin.Builtins.bindParams "max" ["key", "default"] 0 ⟨[], dkw d⟩ = pure [none, some d] from rfl) ?_)
  refine wpAny_bind (wpAny_pure ?_)
  refine wpAny_bind (iter_intList hl fun s2 e st hfp hlI => ?_)
  subst e
  refine wpAny_bind (wpAny_newObj_type ?_)
  rw [nameL]
  refine wpAny_pure ⟨plainId_quiet F.plain_max_loop _, ?_⟩
  have W := Walks.list (prog := prog) (w := w) (A := A.in1) hh s.heap.objs.size l hlI (intItems xs)
  refine mxd_loop W _ (CmpOf.ints_gt (numAt xs) (fun _ _ => intItems_at)) (fun hm => Nat.lt_irrefl _ (hfp _ hm)) _ 0 _ _ none rfl (Nat.zero_le _) (W.frame _ _ _ st fun b _ o e => Heap.get?_push_of_some _ e) (fun _ => rfl) (fun _ z => nomatch z)
    (Heap.get?_push_size _ rfl) fun u h' tk e0 e1 hk => ?_
  refine h u h' tk (fun z => e0 (hsz.trans z)) (fun z => ?_) fun b o e => ?_
  · have q := e1 (by rw [hsz]; exact z)
    rw [hsz] at q
    exact q
  · have lt := Heap.lt_size e
    refine hk b o (fun hm => ?_) (fun z => ?_) (Heap.get?_push_of_some _ (Heap.get?_push_of_some _ e))
    · have z : b = s.heap.objs.size := by simpa using hm
      exact absurd lt (by rw [z]; exact Nat.lt_irrefl _)
    · rw [z, Heap.size_push] at lt
      exact absurd lt (Nat.not_lt.mpr (Nat.le_succ _))
end
end Sw
namespace Sw
open PySem PySem.Spec PyProof.Rows L2
/-- max(xs, default=d) of a list of ints -/
def rMaxD (K : PySem.W.Frag) : List V → List V → Hp → VK → Prop := fun vs zs H Q => ∃ (a : Addr) (ns : List Int) (d : V), vs = [V.ref a] ∧ zs = [d] ∧ SqL K H a (ns.map V.int) ∧ (ns = [] → Q d H) ∧ ∀ m, m ∈ ns → (∀ y, y ∈ ns → y ≤ m) → Q (.int m) H
theorem crk_max {X : Cx} (hc : X.calm = true) : CallRK X (.builtin "max") ["default"] (rMaxD X.K) := by
  intro pins s σ H vs zs us ws Q I r rz h
  obtain ⟨a, ns, d, rfl, rfl, hs, q0, q1⟩ := h
  obtain ⟨its, rv, hl, _⟩ := I.list hs
  rw [Vals.ref1 r]
  cases rz with
  | @cons _ du _ _ rd rz =>
    cases rz
    obtain ⟨xs, e⟩ := rv.ints.allInts.items
    have hn : numsOf (intItems xs).toList = ns := by rw [← e]; exact rv.ints.numsOf
    rw [nums_intItems] at hn
    have hl2 := hl.isList
    rw [e] at hl2
    subst hn
    refine mxd_ints (d := du) (I.ok.hd hc) hl2 fun v h' tk e0 e1 hk => ?_
    cases hz : xs.size with
    | zero =>
      rw [e0 hz]
      refine ⟨d, H, I.kept hk, rd, q0 ?_⟩
      have : xs = #[] := Array.eq_empty_of_size_eq_zero hz
      rw [this]
      rfl
    | succ k =>
      have hv := e1 (by omega)
      obtain ⟨t, rfl⟩ := intItems_at hv
      obtain ⟨h1, h2⟩ := argBest_gt (numAt xs) (xs.size - 1)
      refine ⟨.int _, H, I.kept hk, ⟨t, rfl⟩, q1 _ ?_ fun y hy => ?_⟩
      · rw [numAt_eq]
        exact PySem.getD_mem (by rw [List.length_map, Array.length_toList]; omega)
      · obtain ⟨j, hj, rfl⟩ := mem_getD hy
        rw [List.length_map, Array.length_toList] at hj
        rw [← numAt_eq]
        exact h2 j (by omega)
end Sw
set_option Elab.async false
set_option linter.all false
set_option maxRecDepth 100000
set_option maxHeartbeats 2000000
/-! The head's facts: any closed test of the written part. -/
namespace Sw
open PySem PySem.Spec PyProof.Rows L2 He
abbrev Fb : Type := PySem.W.Frag → Bool
def asR (g : Addr → Option Obj) (roots : List Addr) : Nat → List Addr
  | 0 => roots
  | n + 1 => growD g (asR g roots n)
def obsF (fa : List Fb) (fn : List DefD) (K : PySem.W.Frag) : AlD := ((fa.all fun f => f K) && fn.all fun d => d.ok K, fn.map fun d => fnW K d.at_)
def SaysF (fa : List Fb) (fn : List DefD) (K : PySem.W.Frag) : Prop := obsF fa fn K = valD fn
abbrev roots : List Addr := [mainGlobals, cStatics]
def obsFG (n : Nat) (fa : List Fb) (fn : List DefD) (g : Addr → Option Obj) : AlD := obsF fa fn (frG g (asR g roots n))
def hookF (n : Nat) (fa : List Fb) (fn : List DefD) : PySem.W.Hook where
  α := AlD
  obs := fun s => obsFG n fa fn s.heap.get?
  val := fun _ => valD fn
  says := fun _ h => ∃ K : PySem.W.Frag, K.In h ∧ SaysF fa fn K
  of := fun _ _ e => ⟨_, frG_in, e⟩
  keeps := fun _ _ _ ⟨K, hK, c⟩ k => ⟨K, PySem.W.Frag.In.keeps hK k, c⟩
theorem obsFG_eq {n : Nat} {fa : List Fb} {fn : List DefD} {g : Addr → Option Obj} {s : Shared} (h : ∀ a, g a = s.heap.get? a) : obsFG n fa fn g = (hookF n fa fn).obs s := by
  have e : g = s.heap.get? := funext h
  rw [e] <;> rfl
section
variable {fa : List Fb} {fn : List DefD} {K : PySem.W.Frag}
theorem SaysF.fact (c : SaysF fa fn K) (i : Nat) {f : Fb} (h : fa[i]? = some f := by rfl) : f K = true :=
  List.all_eq_true.mp (ba (show ((fa.all fun f => f K) && fn.all fun d => d.ok K) = true from congrArg (fun z : AlD => z.1) c)).1 f (List.mem_of_getElem? h)
theorem SaysF.def_ (c : SaysF fa fn K) (i : Nat) {d : DefD} (h : fn[i]? = some d := by rfl) : ∃ fd, FunD K d.name d.qual d.params d.body d.scope (d.dvs K) (d.kws K) (fAd K d.at_) fd := by
  have e2 : (fn.map fun d => fnW K d.at_)[i]? = (fn.map DefD.val)[i]? := congrArg (fun z : AlD => z.2[i]?) c
  rw [List.getElem?_map, List.getElem?_map, h] at e2
  exact DefD.funD (Option.some.inj e2) (List.all_eq_true.mp (ba (show ((fa.all fun f => f K) && fn.all fun d => d.ok K) = true from congrArg (fun z : AlD => z.1) c)).2 d (List.mem_of_getElem? h))
end
end Sw
set_option Elab.async false
set_option linter.all false
set_option maxRecDepth 100000
set_option maxHeartbeats 2000000
/-! Own error classes over ValueError whose __init__ hands on to a base's: what the written part says, the promises, raise. -/
namespace Sw
open PySem PySem.Spec PyProof.Rows L2 He

/-! ### tests of the written part -/
def oexB (K : PySem.W.Frag) (C : Addr) : Bool := (match K.lookup C with
  | some ⟨.type c, _, .cls cd, sl⟩ => decide (c = "type") && (match cd.mro, sl.toList with
    | .ref C' :: bm, [_, _, _, _, some (.builtin n), _] => decide (C' = C) && (decide (n = "ValueError.__new__") && (cd.hasDict && (!cd.hasDel && PySem.HandSPX.refsVE bm)))
    | _, _ => false)
  | _ => false) && (eqO (PySem.W.findIn K (.ref C) "__setattr__") (some (some (.builtin "object.__setattr__"))) && (decide (PySem.W.subIn K (.ref C) (.type "BaseException") = some true) && (decide (PySem.W.typeIn K (.ref C) = some (.type "type")) && PySem.W.keepIn K (.ref C))))
theorem oexB_ok {K : PySem.W.Frag} {C : Addr} (h : oexB K C = true) : OexC K C := by
  obtain ⟨h1, h⟩ := ba h
  obtain ⟨h2, h⟩ := ba h
  obtain ⟨h3, h⟩ := ba h
  obtain ⟨h4, h5⟩ := ba h
  refine ⟨?_, eqO_ok h2, of_decide_eq_true h3, of_decide_eq_true h4, h5⟩
  split at h1
  · rename_i c dd cd sl lk
    obtain ⟨hc, h1⟩ := ba h1
    split at h1
    · rename_i C' bm k0 k1 k2 k3 n k5 hm hs
      obtain ⟨e1, h1⟩ := ba h1
      obtain ⟨e2, h1⟩ := ba h1
      obtain ⟨e3, h1⟩ := ba h1
      obtain ⟨e4, e5⟩ := ba h1
      obtain ⟨nm, bs, mro, ns, qn, hd, sn, sub, ab, col, del⟩ := cd
      obtain rfl := of_decide_eq_true hc
      obtain rfl := of_decide_eq_true e1
      obtain rfl := of_decide_eq_true e2
      have hsl : sl = #[k0, k1, k2, k3, some (.builtin "ValueError.__new__"), k5] := by
        obtain ⟨l⟩ := sl
        exact congrArg Array.mk hs
      have hm : mro = Value.ref C' :: bm := hm
      have hhd : hd = true := e3
      have hdl : del = false := by
        cases del with
        | false => rfl
        | true => cases e4
      subst hm hhd hdl hsl
      exact ⟨nm, qn, ns, bs, bm, sn, sub, ab, col, dd, k0, k1, k2, k3, k5, lk, e5⟩
    · cases h1
  · cases h1
def excB (K : PySem.W.Frag) (D : Addr) : Bool := eqO (PySem.W.findIn K (.ref D) "__getattribute__") (some (some (.builtin "BaseException.__getattribute__"))) && (eqO (PySem.W.findIn K (.ref D) "__getattr__") (some none) &&
  (PySem.W.hasDictIn K D && (eqO (PySem.W.findIn K (.ref D) "__class__") (some (some (.builtin "object.__class__"))) && (eqO (PySem.W.specialIn K (.builtin "object.__class__") "__get__") (some (some (.builtin "getset_descriptor.__get__"))) &&
  (decide (PySem.W.takesIn K (.builtin "object.__class__") = some true) && decide (PySem.W.mroIn K D (.type "object") = some true))))))
theorem excB_ok {K : PySem.W.Frag} {D : Addr} (o : OexC K D) (h : excB K D = true) : ExcC K D := by
  obtain ⟨h1, h⟩ := ba h
  obtain ⟨h2, h⟩ := ba h
  obtain ⟨h3, h⟩ := ba h
  obtain ⟨h4, h⟩ := ba h
  obtain ⟨h5, h⟩ := ba h
  obtain ⟨h6, h7⟩ := ba h
  exact ⟨eqO_ok h1, eqO_ok h2, o.exC, h3, eqO_ok h4, eqO_ok h5, of_decide_eq_true h6, of_decide_eq_true h7⟩
def clsRd (K : PySem.W.Frag) (C : Addr) : Bool := PySem.W.readsIn K C (.type "type") && eqO (PySem.W.specialIn K (.ref C) "__getattribute__") (some (some (.builtin "type.__getattribute__")))
def slStr (sl : Array (Option Value)) : Bool := match sl[2]? with
  | some (some (Value.str _ _)) => true
  | _ => false
theorem slStr_ok {sl : Array (Option Value)} (h : slStr sl = true) : ∃ z tk, sl[2]? = some (some (Value.str z tk)) := by
  unfold slStr at h
  split at h
  · rename_i z tk e
    exact ⟨z, tk, e⟩
  · cases h
def namB (K : PySem.W.Frag) (C : Addr) : Bool := (match PySem.W.findCls K (.ref C) (.type "type") "__name__" with
  | some (.get (.builtin g) (.builtin a) (.ref C') (.type t)) => decide (g = "getset_descriptor.__get__") && (decide (a = "type.__name__") && (decide (C' = C) && decide (t = "type")))
  | _ => false) && (match K.lookup C with
  | some ⟨.type c, _, _, sl⟩ => decide (c = "type") && slStr sl
  | _ => false)
theorem namB_ok {K : PySem.W.Frag} {C : Addr} (r : clsRd K C = true) (h : namB K C = true) : ∃ z, NamC K C z := by
  obtain ⟨h1, h2⟩ := ba h
  obtain ⟨r1, _⟩ := ba r
  split at h1
  · rename_i g a C' t e
    obtain ⟨e1, h1⟩ := ba h1
    obtain ⟨e2, h1⟩ := ba h1
    obtain ⟨e3, e4⟩ := ba h1
    obtain rfl := of_decide_eq_true e1
    obtain rfl := of_decide_eq_true e2
    obtain rfl := of_decide_eq_true e3
    obtain rfl := of_decide_eq_true e4
    split at h2
    · rename_i c dd dt sl lk
      obtain ⟨hc, h2⟩ := ba h2
      obtain rfl := of_decide_eq_true hc
      obtain ⟨z, tk, hz⟩ := slStr_ok h2
      exact ⟨z, r1, e, _, tk, lk, rfl, hz⟩
    · cases h2
  · cases h1
def clfnB (K : PySem.W.Frag) (C : Addr) (m : Str) : Bool := clsRd K C && (match PySem.W.findCls K (.ref C) (.type "type") m with
  | some (.val (.ref f)) => decide (f = ma K C m)
  | _ => false)
theorem clfnB_ok {K : PySem.W.Frag} {C : Addr} {m : Str} (h : clfnB K C m = true) : ClFn K C m (ma K C m) := by
  obtain ⟨h1, h2⟩ := ba h
  obtain ⟨r1, r2⟩ := ba h1
  split at h2
  · rename_i f e
    obtain rfl := of_decide_eq_true h2
    exact ⟨r1, eqO_ok r2, e⟩
  · cases h2
def veinB (K : PySem.W.Frag) : Bool := match PySem.W.findCls K (.type "ValueError") (.type "type") "__init__" with
  | some (.val (.builtin b)) => decide (b = "ValueError.__init__")
  | _ => false
theorem veinB_ok {K : PySem.W.Frag} (h : veinB K = true) : PySem.W.findCls K (.type "ValueError") (.type "type") "__init__" = some (.val (.builtin "ValueError.__init__")) := by
  unfold veinB at h
  split at h
  · rename_i b e
    obtain rfl := of_decide_eq_true h
    exact e
  · cases h
/-- an own error class, its __init__ a def -/
def errB (K : PySem.W.Frag) (C : Addr) : Bool := oexB K C && (excB K C && (clsRd K C && (namB K C && (eqO (PySem.W.findIn K (.ref C) "value") (some none) &&
  (eqO (PySem.W.findIn K (.ref C) "__init__") (some (some (.ref (ma K C "__init__")))) && decide (PySem.W.typeIn K (.ref (ma K C "__init__")) = some (.type "function")))))))
structure ErrC (K : PySem.W.Frag) (C : Addr) : Prop where
  o : OexC K C
  e : ExcC K C
  n : ∃ z, NamC K C z
  nv : PySem.W.findIn K (.ref C) "value" = some none
  ini : PySem.W.findIn K (.ref C) "__init__" = some (some (.ref (ma K C "__init__")))
  inT : PySem.W.typeIn K (.ref (ma K C "__init__")) = some (.type "function")
theorem errB_ok {K : PySem.W.Frag} {C : Addr} (h : errB K C = true) : ErrC K C := by
  obtain ⟨h1, h⟩ := ba h
  obtain ⟨h2, h⟩ := ba h
  obtain ⟨h3, h⟩ := ba h
  obtain ⟨h4, h⟩ := ba h
  obtain ⟨h5, h⟩ := ba h
  obtain ⟨h6, h7⟩ := ba h
  have o := oexB_ok h1
  exact ⟨o, excB_ok o h2, namB_ok h3 h4, eqO_ok h5, eqO_ok h6, of_decide_eq_true h7⟩
theorem ErrC.xf {K : PySem.W.Frag} {C : Addr} (T : ErrC K C) : XfC K C := ⟨T.e.hg, T.e.hk, T.o.exC, T.e.hd⟩

/-! ### the promise of such an __init__(self, value) -/
def spEInit (K : PySem.W.Frag) : Sp := fun vs H Q _ => ∃ (a C : Addr) (v : V), vs = [.ref a, v] ∧ H a = some (exo a C none) ∧ ErrC K C ∧ ∀ dx, H dx = none → dx ≠ a → Q .non (upd (upd H dx (exd dx [("value", v)])) a (exo a C (some dx)))
theorem spEInit_len {K : PySem.W.Frag} : ∀ vs H Q E, spEInit K vs H Q E → vs.length = ["self", "value"].length := fun vs H Q E h => by
  obtain ⟨a, C, v, rfl, _⟩ := h
  rfl

/-! ### C(e, ..) as what is raised, nothing being handled: its context is None -/
theorem pmkN_oex {X : Cx} {CX : CXT} {x : Str} {e : Expr} {es : List Expr} {ta : TA} {p pos : Pos} {C fI : Addr} {k : Nat} {fd : FuncData} {ps : List Str} {sp : Sp} {ds : List Value} {dvs : List V} (T : OexC X.K C) (iC : PySem.W.findIn X.K (.ref C) "__init__" = some (some (.ref fI)))
    (tI : PySem.W.typeIn X.K (.ref fI) = some (.type "function")) (F1 : FnOk X.prog X.w X.K X.mg X.base CX k fI fd ps sp) (hr : Room (k + 1) X.A) (hb : Binds X.K fd ps ds) (hd : Vals dvs ds) (hx : Passes CX X (fun _ _ _ => False)) (hg : Gl X x) (hm : X.mg x = some (.ref C)) (ha : PA X (e :: es) ta)
    (hdb : (x == ("__debug__" : Str)) = false := by decide) (he : starEach (e :: es) X.env = (false, eval e X.env) :: starEach es X.env := by rfl) (hpl : (backTo pos (starEach es X.env)).any (·.1) = false := by rfl) :
    L2N.PMk X (.Call (.Name x p) (e :: es) [] pos) (tMkO C sp dvs ta) := by
  intro pins s σ H Q I h
  obtain ⟨nm, q, N, bs, bm, sn, sub, ab, col, dd, k0, k1, k2, k3, k5, hC, hbm⟩ := T.cls
  refine wpAny_Call_Name_kw (ld_glob I hg hm ?_ hdb)
  refine PySem.W.callWith_K (h₀ := X.base) I.ok.mod.kin T.kC (thn (ha.run pos pins s σ H _ I h) fun us s1 ⟨vs, H1, I1, r1, hz, q1⟩ => ⟨I1.kIn, ?_⟩) he hpl
  obtain ⟨hp, g, dr, tk, os⟩ := s1
  -- the new exception stands behind its tuple of arguments
  generalize ea0 : hp.objs.size + 1 = a0
  have le0 : hp.objs.size ≤ a0 := by omega
  have free0 : H1 a0 = none := I1.hok.fresh le0
  have hq := q1 a0 free0
  have keep0 : ∀ b o, hp.get? b = some o → ((hp.push (PySem.W.kdv_tup us)).push (PySem.HandSPX.excO C hp.objs.size)).get? b = some o := fun b o e => Heap.get?_push_of_some _ (Heap.get?_push_of_some _ e)
  have get0 : ((hp.push (PySem.W.kdv_tup us)).push (PySem.HandSPX.excO C hp.objs.size)).get? a0 = some (PySem.HandSPX.excO C hp.objs.size) := by
    rw [← ea0]
    heap_get
  have I2 := I1.laid (t' := tk) (a := a0) (o := exo a0 C none) keep0 le0 (exo_ok get0)
  have r2 : Vals (V.ref a0 :: (vs ++ dvs)) (Value.ref a0 :: (us ++ ds)) := .cons rfl (r1.append hd)
  have hl : (Value.ref a0 :: us ++ ds).length = ps.length := (r2.length).symm.trans (F1.len _ _ _ _ hq)
  have hus : us.length ≤ sizeLine := by
    rw [← Paired.length r1, sizeLine_eq]
    omega
  subst ea0
  refine wpAny_call (PySem.HandSPX.call_own F.excBase_ValueError (fun Y => PySem.HandSPX.refsVE_contains Y bm hbm) (I1.kIn _ _ hC) (PySem.W.looks_findIn I1.kIn iC) (fun self => PySem.W.bind_fn I1.kIn self tI) hus
    (codeAny_mono (F1.run _ X.stack _ _ ⟨Value.ref (hp.objs.size + 1) :: us, []⟩ _ _ _ (fun _ _ _ => False) (hr.make C us []) (I2.env0.make C us []) (hb _ _ I2.kIn hl) r2 hq) fun r s' hq' => ?_))
  cases r with
  | error er => exact hx pins σ _ _ er s' I2 hq'
  | ok fl =>
    cases fl with
    | ret u =>
      obtain ⟨v, H2, os2, bare2, un2, hok2, rv, ev, d, fs, ea, ed, hd1, q2⟩ := hq'
      subst ev
      obtain ⟨h2, g2, d2, t2, os'⟩ := s'
      obtain ⟨t0, G, J, kG, ge, hoe, na⟩ := mk_end0 (d2 := d2) (t2 := t2) I1 le0 keep0 un2 hok2 os2 bare2 ea ed hd1
      refine ⟨rv, _, _, _, ⟨G, g2, d2, t2, os'⟩, _, .ref C, some d, rfl, J, kG, ge, hoe, ⟨rfl, rfl, fun ws hv => ?_⟩, rfl, rfl, na, rfl, bare2, raises_own T.exC T.tyC, q2⟩
      cases hv
      rfl
    | _ => exact hq'.elim
end Sw
set_option Elab.async false
set_option linter.all false
set_option maxRecDepth 100000
set_option maxHeartbeats 2000000
/-! Operators of own classes: a class without a reflected method, an instance of a subclass on the right. -/
namespace Sw
open PySem PySem.W PySem.Calls PyProof.Rows Builtin
section
variable {α : Type} {prog : Program} {w : World} {A : Around} {E : Value → Shared → Prop} {s : Shared} {K : Frag} {C D x y f g : Addr} {ox oy : Obj} {od oe : Option Obj} {nm : String}
theorem raiseStr_attr {M : Model} {msg : PySem.Str} {Q : α → Shared → Prop} (hh : A.handled = none)
    (h : ∀ h' tk e, Heap.NewExcOf s.heap h' e "AttributeError" → E (.ref e) { s with heap := h', toks := tk }) (hm : msg.length ≤ sizeLine) : wpAny M A (raiseErrorStr "AttributeError" msg : Sem α) Q E s := by
  unfold raiseErrorStr
  refine wpAny_bind (wpAny_mkStr (wpAny_bind ?_) hm)
  unfold newExc newTuple
  refine wpAny_bind (wpAny_newObj_type ?_ (by size_fits))
  refine wpAny_bind (m := firstArgMember _ _) (wpAny_of_eq (a := Value.none) (by simp only [firstArgMember, attrError_no_first]; rfl) ?_)
  rw [ownMembersOf_AttributeError]
  refine wpAny_newObj_type ?_ (by size_fits)
  unfold raiseNew
  refine wpAny_bind (wpAny_handled ?_)
  rw [hh]
  first
    | refine wpAny_throw ?_
    | refine wpAny_bind (wpAny_pure (wpAny_throw ?_))
  exact h _ _ _ ⟨fun b o hb => Heap.get?_push_of_some _ (Heap.get?_push_of_some _ hb), Heap.get?_none_of_le (by simp), _, _, Heap.get?_push_size _ rfl, rfl, rfl, rfl⟩
/-- the class's name -/
def nameB (K : Frag) (C : Addr) (z : String) : Bool := match clsIn K C with
  | some cd => decide (cd.name = PySem.Str.ofString z)
  | none => false
/-- a short name -/
def ShortOk (z : String) : Prop := (PySem.Str.ofString z).cps.foldl (fun k c => k + (PySem.Str.utf8Of c).length) 0 ≤ 100 ∧ PySem.Str.length (PySem.Str.ofString s!"type object '{(PySem.Str.ofString z).toString}' has no attribute '") ≤ 1000
theorem looks_cut {M : Model} {h : Heap} {z : String} (X : K.In h) (e : nameB K C z = true) (k : ShortOk z) : Looks M h (typeNameCut 100 (.ref C)) (PySem.Str.ofString z).toString := by
  unfold nameB at e
  split at e
  · rename_i cd hc
    have e := of_decide_eq_true e
    unfold typeNameCut
    refine (looks_clsIn X hc).andThen ?_
    dsimp only
    rw [e, if_pos k.1]
    exact .now
  · cases e
/-- what a class without an attribute of a name must tell -/
structure NoCls (K : Frag) (C : Addr) (name : PySem.Str) : Prop where
  rd : readsIn K C (.type "type") = true
  m1 : findIn K (.type "type") name = some none
  m2 : findIn K (.ref C) name = some none
  sh : ∃ z, nameB K C z = true ∧ ShortOk z
theorem type_getattr_none : typeLookup (.type "type") "__getattr__" = pure none := by rw [typeLookup_type, builtinLookup_eq_fast]; kernel_rfl
theorem tga_miss {name : PySem.Str} {tk : Tok} {Q : Fin → Shared → Prop} (X : K.In s.heap) (N : NoCls K C name) (hn : name.length ≤ 100) (hh : A.handled = none)
    (h : ∀ h' tk e, Heap.NewExcOf s.heap h' e "AttributeError" → E (.ref e) { s with heap := h', toks := tk }) : wpAny (model prog w) A (Builtin.«type.__getattribute__» ⟨[.ref C, .str name tk], []⟩) Q E s := by
  have hr := N.rd
  simp only [readsIn, Bool.and_eq_true, beq_iff_eq] at hr
  obtain ⟨⟨⟨⟨a, b⟩, c'⟩, d⟩, f⟩ := hr
  obtain ⟨z, e5, hz⟩ := N.sh
  have L5 := looks_cut (M := model prog w) X e5 hz
  have hz := hz.2
  have ho : Looks (model prog w) s.heap (opaqueClassAbove (.ref C)) none := looks_opaque X a
  have ht : Looks (model prog w) s.heap (typeOf (.ref C)) (.type "type") := looks_typeIn X b
  have L1 := looks_findIn (M := model prog w) X N.m1
  have L4 := looks_findIn (M := model prog w) X N.m2
  obtain ⟨hh', g, dd, t, os⟩ := s
  unfold Builtin.«type.__getattribute__»
  refine wpAny_bind (wpAny_pure (wpAny_bind (ho.at (wpAny_bind (ht.at (wpAny_bind (L1.at ?_)))))))
  dsimp only
  refine wpAny_bind (wpAny_pure (wpAny_bind (L4.at ?_)))
  dsimp only
  refine wpAny_bind (wpAny_rule ?_)
  refine wpAny_bind (L5.at ?_)
  refine raiseStr_attr hh h ?_
  rw [strLen_append, strLen_append]
  have e1 : (PySem.Str.ofString "'").length = 1 := by decide
  have e2 : sizeLine = 16777216 := sizeLine_eq
  omega
/-- getattr(C, name) is looked for and not there -/
theorem cls_none {name : PySem.Str} {tk : Tok} {Q : Option Value → Shared → Prop} (X : K.In s.heap) (N : NoCls K C name) (hn : name.length ≤ 100) (hh : A.handled = none)
    (h : ∀ h' tk, (∀ b o, s.heap.get? b = some o → h'.get? b = some o) → Q none { s with heap := h', toks := tk }) : wpAny (model prog w) A (getAttrBy? (.ref C) (.str name tk)) Q E s := by
  have hr := N.rd
  simp only [readsIn, Bool.and_eq_true, beq_iff_eq] at hr
  obtain ⟨⟨⟨⟨a, b⟩, c'⟩, d⟩, f⟩ := hr
  have ht : Looks (model prog w) s.heap (typeOf (.ref C)) (.type "type") := looks_typeIn X b
  have Lga := looks_findIn (M := model prog w) X c'
  have Lsub : Looks (model prog w) s.heap (isInstance (.ref C) (.type "type")) true := ht.andThen (looks_subIn X f)
  obtain ⟨hp, g, dr, t, os⟩ := s
  unfold getAttrBy? getAttrBy
  refine wpAny_bind (wpAny_attempt (wpAny_holding (wpAny_bind (ht.at (wpAny_bind (Lga.at ?_))))))
  dsimp only
  rw [show (onTheHeap (Value.type "type") && Value.builtin "type.__getattribute__" == Value.builtin "object.__getattribute__") = false from by decide +kernel, if_neg (by decide)]
  unfold getAttrByItsOwn
  refine wpAny_bind (m := hookBefore _) (wpAny_pure (wpAny_bind (wpAny_attempt (wpAny_holding ?_))))
  unfold callGetattribute
  rw [show (false && onTheHeap (Value.builtin "type.__getattribute__")) = false from rfl, if_neg (by decide)]
  unfold boundAndCalled
  rw [KF.slot_tga.bind]
  refine wpAny_bind (wpAny_pure ?_)
  show wpAny _ _ (call (.builtin "type.__getattribute__") [.ref C, .str name tk]) _ _ _
  refine wpAny_call ?_
  refine codeAny_call_builtin KF.slot_tga.plain KF.entry_tga ?_
  refine @check_slot (model prog w) _ _ ⟨hp, g, dr, t, os⟩ "type.__getattribute__" "type" "__getattribute__" (.ref C) [.str name tk] [] _ (by decide +kernel) (by decide +kernel) Lsub (KF.args_tga (.ref C) (.str name tk)) ?_
  refine tga_miss X N hn hh fun h' tk' e ne => ?_
  obtain ⟨ob, vs, he, hc, hd, h1⟩ := ne.there
  have inst : ∀ {Q : Bool → Shared → Prop} {E : Value → Shared → Prop}, Q true ⟨h', g, dr, tk', os⟩ → wpAny (model prog w) A (isInstance (.ref e) (.type "AttributeError")) Q E ⟨h', g, dr, tk', os⟩ := fun q =>
    wpAny_isInstance (T := "AttributeError") ⟨_, he, hc⟩ sub_AttributeError q
  show wpAny _ _ (getattributeRaised _ _ _ _ _ _ _) _ _ _
  unfold getattributeRaised
  refine wpAny_bind (inst ?_)
  rw [if_pos rfl]
  have hb : hookBehind (Value.type "type") none = pure none := type_getattr_none
  rw [hb]
  refine wpAny_bind (wpAny_pure ?_)
  show wpAny _ _ (attributeErrorLeaves _ _ _ false false) _ _ _
  unfold attributeErrorLeaves
  rw [if_pos (show (!false) = true from rfl)]
  refine wpAny_throw ?_
  refine wpAny_bind (inst ?_)
  rw [if_pos rfl]
  exact wpAny_pure (h h' tk' ne.keeps)
/-- what two own classes must tell for x op y, f the left one's method -/
structure BinP (K : Frag) (nm : String) (C D f : Addr) : Prop where
  fC : selfFirst K C = true
  fD : selfFirst K D = true
  sC : findIn K (.ref C) (PySem.dunder nm) = some (some (.ref f))
  sF : isFn K (.ref f) = true
  sD : ∃ g : Addr, findIn K (.ref D) (PySem.dunder nm) = some (some (.ref g))
  rC : findIn K (.ref C) (dunderR nm) = some none
  nD : NoCls K D (dunderR nm)
  sub : ∃ b, subIn K (.ref D) (.ref C) = some b
theorem refl_no {Q : Bool → Shared → Prop} (X : K.In s.heap) (P : BinP K nm C D f) (hn : (dunderR nm).length ≤ 100) (hh : A.handled = none)
    (h : ∀ h' tk, (∀ b o, s.heap.get? b = some o → h'.get? b = some o) → Q false { s with heap := h', toks := tk }) : wpAny (model prog w) A (reflectedDiffers (.ref C) (.ref D) nm) Q E s := by
  obtain ⟨g, sD⟩ := P.sD
  have L6 : Looks (model prog w) s.heap (numberSlotInPython (.ref C) nm) true := ksp_inPy X P.sC P.rC (.inl rfl)
  have L7 : Looks (model prog w) s.heap (numberSlotInPython (.ref D) nm) true := ksp_inPy X sD P.nD.m2 (.inl rfl)
  obtain ⟨hp, gg, dr, t, os⟩ := s
  unfold reflectedDiffers
  refine wpAny_bind (L6.at ?_)
  rw [if_neg (by decide)]
  refine wpAny_bind (L7.at ?_)
  rw [if_neg (by decide)]
  refine wpAny_bind (wpAny_mkStr ?_ (by rw [sizeLine_eq]; omega))
  refine wpAny_bind (cls_none (s := ⟨hp, gg, dr, _, os⟩) X P.nD hn hh fun h' tk k => ?_)
  exact wpAny_pure (h h' tk k)
theorem inst_keeps {h h' : Heap} (I : InstAt h x ox C od) (k : ∀ b o, h.get? b = some o → h'.get? b = some o) : InstAt h' x ox C od := ⟨k _ _ I.at_, I.cls, I.no, by
  have d := I.dict
  revert d
  cases ox.dict with
  | none => cases od <;> exact fun d => d
  | some dx => cases od with
    | none => exact fun d => d
    | some o => exact fun d => k _ _ d⟩
theorem own_bin {op : Operator} {Q : Value → Shared → Prop} (X : K.In s.heap) (Ia : InstAt s.heap x ox C od) (Ib : InstAt s.heap y oy D oe) (P : BinP K op.info.2 C D f) (hn : (dunderR op.info.2).length ≤ 100) (hh : A.handled = none)
    (h : ∀ (h' : Heap) tk, (∀ b o, s.heap.get? b = some o → h'.get? b = some o) → wpAny (model prog w) A (call (.ref f) [.ref x, .ref y]) (PySem.W.CmpBack Q) E { s with heap := h', toks := tk }) : wpAny (model prog w) A (binaryOp op (.ref x) (.ref y)) Q E s := by
  obtain ⟨g, sD⟩ := P.sD
  obtain ⟨b, hsub⟩ := P.sub
  obtain ⟨cd, rest, hcd, hm⟩ := ksp_first P.fC
  obtain ⟨cdD, restD, hcdD, hmD⟩ := ksp_first P.fD
  rcases hi : op.info with ⟨sym, nm'⟩
  rw [hi] at P hn sD
  dsimp only at P hn sD
  obtain ⟨hp, gg, dr, t, os⟩ := s
  have L1 : Looks (model prog w) hp (typeOf (.ref x)) (.ref C) := Ia.type
  have L2 : Looks (model prog w) hp (typeOf (.ref y)) (.ref D) := Ib.type
  have L3 : Looks (model prog w) hp (fillsNumberSlot (.ref C) nm') true := fills_K X hcd hm P.sC
  have L4 : Looks (model prog w) hp (fillsNumberSlot (.ref D) nm') true := fills_K X hcdD hmD sD
  have L5 : Looks (model prog w) hp (isSubtype (.ref D) (.ref C)) b := looks_subIn X hsub
  have one : ∀ (h' : Heap) tk, (∀ b o, hp.get? b = some o → h'.get? b = some o) → wpAny (model prog w) A (tryMethod (.ref x) (PySem.dunder nm') (.ref y)) (fun r s' => ∃ v, r = some v ∧ Q v s') E ⟨h', gg, dr, tk, os⟩ := fun h' tk k =>
    ksp_try (s := ⟨h', gg, dr, tk, os⟩) (X.keeps k) (inst_keeps Ia k) P.sC P.sF (h h' tk k)
  simp only [binaryOp, hi]
  refine wpAny_holding (wpAny_bind ?_)
  unfold binaryOp1
  refine wpAny_bind (L1.at (wpAny_bind (L2.at (wpAny_bind (L3.at ?_)))))
  by_cases hCD : C = D
  · subst hCD
    simp only [beq_self_eq_true, if_true]
    refine wpAny_bind (wpAny_pure ?_)
    simp only [Bool.and_false, Bool.false_eq_true, if_false, Bool.false_and]
    refine wpAny_bind (wpAny_pure ?_)
    simp only [Bool.false_eq_true, if_false]
    refine wpAny_bind (wpAny_mono (one hp t fun _ _ z => z) (fun r s' hr' => ?_) fun _ _ e => e)
    obtain ⟨v, rfl, hq⟩ := hr'
    exact wpAny_pure (wpAny_pure hq)
  have hne : (Value.ref C == Value.ref D) = false := Bool.eq_false_iff.mpr fun q => hCD (by cases beq_iff_eq.mp q; rfl)
  simp only [hne, Bool.false_eq_true, if_false]
  refine wpAny_bind (L4.at ?_)
  simp only [Bool.and_self, if_true]
  have L6 : ∀ h' : Heap, (∀ b o, hp.get? b = some o → h'.get? b = some o) → Looks (model prog w) h' (numberSlotInPython (.ref C) nm') true := fun h' k => ksp_inPy (X.keeps k) P.sC P.rC (.inl rfl)
  have L7 : ∀ h' : Heap, (∀ b o, hp.get? b = some o → h'.get? b = some o) → Looks (model prog w) h' (numberSlotInPython (.ref D) nm') true := fun h' k => ksp_inPy (X.keeps k) sD P.nD.m2 (.inl rfl)
  refine wpAny_bind (L5.at ?_)
  cases b with
  | false =>
    rw [if_neg (by decide)]
    rw [if_pos (by decide)]
    refine wpAny_bind ((L6 hp fun _ _ z => z).at ?_)
    rw [if_pos rfl]
    refine wpAny_bind ((L7 hp fun _ _ z => z).at ?_)
    rw [if_neg (by decide)]
    refine wpAny_bind (wpAny_mono (one hp t fun _ _ z => z) (fun r s' hr' => ?_) fun _ _ e => e)
    obtain ⟨v, rfl, hq⟩ := hr'
    exact wpAny_pure (wpAny_pure hq)
  | true =>
    rw [if_pos rfl]
    refine wpAny_bind (refl_no (s := ⟨hp, gg, dr, t, os⟩) X P hn hh fun h' tk k => ?_)
    rw [if_neg (by decide)]
    rw [if_pos (by decide)]
    refine wpAny_bind ((L6 h' k).at ?_)
    rw [if_pos rfl]
    refine wpAny_bind ((L7 h' k).at ?_)
    rw [if_neg (by decide)]
    refine wpAny_bind (wpAny_mono (one h' tk k) (fun r s' hr' => ?_) fun _ _ e => e)
    obtain ⟨v, rfl, hq⟩ := hr'
    exact wpAny_pure (wpAny_pure hq)
/-- x op n, n of a built-in type that knows the operator, too -/
structure BinT (K : Frag) (nm : String) (C f : Addr) (T : String) : Prop where
  fC : selfFirst K C = true
  sC : findIn K (.ref C) (PySem.dunder nm) = some (some (.ref f))
  sF : isFn K (.ref f) = true
  rC : findIn K (.ref C) (dunderR nm) = some none
  sT : ∃ a b, findIn K (.type T) (PySem.dunder nm) = some a ∧ findIn K (.type T) (dunderR nm) = some b
  sub : subIn K (.type T) (.ref C) = some false
end
end Sw
namespace Sw
open PySem PySem.Spec PyProof.Rows L2
section
variable {X : Cx} {CX : CXT} {k : Nat} {f : Addr} {fd : FuncData} {ps : List Str} {sp : Sp} {E : XK}
/-- what an operator's method gives: an object -/
abbrev QRef (Q : VK) : VK := fun v H2 => (∃ r, v = .ref r) ∧ Q v H2
theorem run_back {pins : List (Addr × Obj)} {σ : L2.St} {H : Hp} {s : Shared} {Q : VK} {us : List Value} {vs : List V} (F : FnOk X.prog X.w X.K X.mg X.base CX k f fd ps sp) (hr : Room k X.A) (hb : Binds X.K fd ps []) (hx : Passes CX X E)
    (I : Inv X pins σ H s) (r : Vals vs us) (h : sp vs H (QRef Q) E) : wpAny (model X.prog X.w) X.A (call (.ref f) us) (PySem.W.CmpBack (EP X pins σ Q)) X.xe s := by
  refine wpAny_mono (run_fn (Q := QRef Q) F hr hb .nil hx I r (by rw [List.append_nil]; exact h)) (fun u s' hu => ?_) fun _ _ z => z
  obtain ⟨v, H', I', rv, ⟨a, rfl⟩, q⟩ := hu
  obtain rfl : u = Value.ref a := rv
  exact ⟨V.ref a, H', I', rfl, q⟩
/-- x op y, both instances of own classes -/
def rOwn (K : PySem.W.Frag) (nm : String) (f : Addr) (sp : Sp) (E : XK) : R2 := fun x y H Q => ∃ (a b C D dx dy : Addr) (fs gs : List (Str × V)), x = .ref a ∧ y = .ref b ∧ H a = some (.ins C dx fs) ∧ H b = some (.ins D dy gs) ∧ BinP K nm C D f ∧ sp [.ref a, .ref b] H (QRef Q) E
theorem op_own {op : Operator} (F : FnOk X.prog X.w X.K X.mg X.base CX k f fd ps sp) (hr : Room k X.A) (hb : Binds X.K fd ps []) (hx : Passes CX X E) (hc : X.calm = true) (hn : (dunderR op.info.2).length ≤ 100 := by decide) :
    OpR X (binaryOp op) (rOwn X.K op.info.2 f sp E) := by
  intro pins s σ H x y v u Q I rx ry h
  obtain ⟨a, b, C, D, dx, dy, fs, gs, rfl, rfl, ea, eb, P, q⟩ := h
  obtain rfl : v = Value.ref a := rx
  obtain rfl : u = Value.ref b := ry
  obtain ⟨mA, O, _⟩ := ins_get I.hok ea
  obtain ⟨mB, O2, _⟩ := ins_get I.hok eb
  obtain ⟨oda, Ia, _⟩ := O.look
  obtain ⟨odb, Ib, _⟩ := O2.look
  exact own_bin I.kIn Ia Ib P hn (I.ok.hd hc) fun h' tk kp => run_back (vs := [.ref a, .ref b]) F hr hb hx (I.kept (t' := tk) kp) (.cons rfl (.cons rfl .nil)) q
/-- x op n, n an int -/
def rOwnI (K : PySem.W.Frag) (nm : String) (f : Addr) (sp : Sp) (E : XK) : R2 := fun x y H Q => ∃ (a C dx : Addr) (fs : List (Str × V)) (i : Int), x = .ref a ∧ y = .int i ∧ H a = some (.ins C dx fs) ∧ BinT K nm C f "int" ∧ sp [.ref a, .int i] H (QRef Q) E
theorem op_ownI {op : Operator} (F : FnOk X.prog X.w X.K X.mg X.base CX k f fd ps sp) (hr : Room k X.A) (hb : Binds X.K fd ps []) (hx : Passes CX X E) : OpR X (binaryOp op) (rOwnI X.K op.info.2 f sp E) := by
  intro pins s σ H x y v u Q I rx ry h
  obtain ⟨a, C, dx, fs, i, rfl, rfl, ea, P, q⟩ := h
  obtain rfl : v = Value.ref a := rx
  obtain ⟨t, rfl⟩ := (show ∃ t, u = Value.int i t from ry)
  obtain ⟨mA, O, _⟩ := ins_get I.hok ea
  obtain ⟨oda, Ia, _⟩ := O.look
  obtain ⟨m, hn, _⟩ := I.loc
  obtain ⟨fo, ro, h1, h2⟩ := P.sT
  exact PySem.W.ksp_binT (T := "int") (h₀ := X.base) (m := m) (L := X.env.locals) ⟨hn, I.bk, Nat.le_trans I.ok.bsz I.ok.above⟩ I.ok.mod.kin Ia rfl P.fC P.sC P.sF P.rC (.inl rfl) h1 h2 P.sub (run_back (vs := [.ref a, .int i]) F hr hb hx I (.cons rfl (.cons ⟨t, rfl⟩ .nil)) q)
/-- - x, an instance of an own class -/
structure NegP (K : PySem.W.Frag) (C f : Addr) : Prop where
  s : PySem.W.findIn K (.ref C) "__neg__" = some (some (.ref f))
  sF : PySem.W.isFn K (.ref f) = true
def rOwnN (K : PySem.W.Frag) (f : Addr) (sp : Sp) (E : XK) : V → Hp → VK → Prop := fun x H Q => ∃ (a C dx : Addr) (fs : List (Str × V)), x = .ref a ∧ H a = some (.ins C dx fs) ∧ NegP K C f ∧ sp [.ref a] H Q E
theorem un_own (F : FnOk X.prog X.w X.K X.mg X.base CX k f fd ps sp) (hr : Room k X.A) (hb : Binds X.K fd ps []) (hx : Passes CX X E) : UnR X (unaryOp .USub) (rOwnN X.K f sp E) := by
  intro pins s σ H x v Q I rx h
  obtain ⟨a, C, dx, fs, rfl, ea, P, q⟩ := h
  obtain rfl : v = Value.ref a := rx
  obtain ⟨mA, O, _⟩ := ins_get I.hok ea
  obtain ⟨oda, Ia, _⟩ := O.look
  obtain ⟨m, hn, _⟩ := I.loc
  exact PySem.W.ksp_neg (h₀ := X.base) (m := m) (L := X.env.locals) ⟨hn, I.bk, Nat.le_trans I.ok.bsz I.ok.above⟩ I.ok.mod.kin Ia P.s P.sF (run_fn (vs := [.ref a]) F hr hb .nil hx I (.cons rfl .nil) (by rw [List.append_nil]; exact q))
end
end Sw
set_option Elab.async false
set_option linter.all false
set_option maxRecDepth 100000
set_option maxHeartbeats 2000000
namespace Sw
open PySem PySem.Spec PyProof.Rows L2
/-- a statement that is not reached -/
theorem ps_dead {X : Cx} {st : Stmt} : PS X st (fun _ _ _ => False) := ⟨fun _ _ _ _ _ _ h => h.elim⟩
/-- C() as what is raised, nothing being handled -/
theorem pmkN_oex0 {X : Cx} {CX : CXT} {x : Str} {p pos : Pos} {C fI : Addr} {k : Nat} {fd : FuncData} {ps : List Str} {sp : Sp} (T : OexC X.K C) (iC : PySem.W.findIn X.K (.ref C) "__init__" = some (some (.ref fI)))
    (tI : PySem.W.typeIn X.K (.ref fI) = some (.type "function")) (F1 : FnOk X.prog X.w X.K X.mg X.base CX k fI fd ps sp) (hr : Room (k + 1) X.A) (hb : Binds X.K fd ps []) (hx : Passes CX X (fun _ _ _ => False)) (hg : Gl X x) (hm : X.mg x = some (.ref C))
    (hdb : (x == ("__debug__" : Str)) = false := by decide) : L2N.PMk X (.Call (.Name x p) [] [] pos) (tMkO C sp [] tNil) := by
  intro pins s1 σ H1 Q I1 h
  obtain ⟨hz, q1⟩ := (show (([] : List V).length ≤ 1000 ∧ _) from h)
  obtain ⟨nm, q, N, bs, bm, sn, sub, ab, col, dd, k0, k1, k2, k3, k5, hC, hbm⟩ := T.cls
  refine wpAny_Call_Name_kw (ld_glob I1 hg hm ?_ hdb)
  refine PySem.W.callWith_K0 I1.kIn T.kC ?_
  obtain ⟨hp, g, dr, tk, os⟩ := s1
  generalize ea0 : hp.objs.size + 1 = a0
  have le0 : hp.objs.size ≤ a0 := by omega
  have free0 : H1 a0 = none := I1.hok.fresh le0
  have hq := q1 a0 free0
  have keep0 : ∀ b o, hp.get? b = some o → ((hp.push (PySem.W.kdv_tup [])).push (PySem.HandSPX.excO C hp.objs.size)).get? b = some o := fun b o e => Heap.get?_push_of_some _ (Heap.get?_push_of_some _ e)
  have get0 : ((hp.push (PySem.W.kdv_tup [])).push (PySem.HandSPX.excO C hp.objs.size)).get? a0 = some (PySem.HandSPX.excO C hp.objs.size) := by
    rw [← ea0]
    heap_get
  have I2 := I1.laid (t' := tk) (a := a0) (o := exo a0 C none) keep0 le0 (exo_ok get0)
  have r2 : Vals [V.ref a0] [Value.ref a0] := .cons rfl .nil
  have hl : ([Value.ref a0] ++ []).length = ps.length := (r2.length).symm.trans (F1.len _ _ _ _ hq)
  have hus : ([] : List Value).length ≤ sizeLine := Nat.zero_le _
  subst ea0
  refine wpAny_call (PySem.HandSPX.call_own F.excBase_ValueError (fun Y => PySem.HandSPX.refsVE_contains Y bm hbm) (I1.kIn _ _ hC) (PySem.W.looks_findIn I1.kIn iC) (fun self => PySem.W.bind_fn I1.kIn self tI) hus
    (codeAny_mono (F1.run _ X.stack _ _ ⟨[Value.ref (hp.objs.size + 1)], []⟩ _ _ _ (fun _ _ _ => False) (hr.make C [] []) (I2.env0.make C [] []) (hb _ _ I2.kIn hl) r2 hq) fun r s' hq' => ?_))
  cases r with
  | error er => exact hx pins σ _ _ er s' I2 hq'
  | ok fl =>
    cases fl with
    | ret u =>
      obtain ⟨v, H2, os2, bare2, un2, hok2, rv, ev, d, fs, ea, ed, hd1, q2⟩ := hq'
      subst ev
      obtain ⟨h2, g2, d2, t2, os'⟩ := s'
      obtain ⟨t0, G, J, kG, ge, hoe, na⟩ := mk_end0 (d2 := d2) (t2 := t2) I1 le0 keep0 un2 hok2 os2 bare2 ea ed hd1
      refine ⟨rv, _, _, _, ⟨G, g2, d2, t2, os'⟩, _, .ref C, some d, rfl, J, kG, ge, hoe, ⟨rfl, rfl, fun ws hv => ?_⟩, rfl, rfl, na, rfl, bare2, raises_own T.exC T.tyC, q2⟩
      cases hv
      rfl
    | _ => exact hq'.elim
end Sw
set_option Elab.async false
set_option linter.all false
set_option maxRecDepth 100000
set_option maxHeartbeats 2000000
namespace Sw
open PySem PySem.Spec PyProof.Rows L2 He
/-! ### a def that keeps its promise, as its callers ask for it -/
/-- the def at f keeps sp, by at most k calls one in another; its callers hand over every parameter -/
def Cal (P : Program) (w : World) (K : PySem.W.Frag) (mg : Str → Option Value) (base : Heap) (CX : CXT) (k : Nat) (f : Addr) (ps : List Str) (sp : Sp) : Prop := ∃ fd, FnOk P w K mg base CX k f fd ps sp ∧ PySem.W.keepIn K (.ref f) = true ∧ L2.Binds K fd ps []
section
variable {X : Cx} {CX : CXT} {k : Nat} {f C : Addr} {ps : List Str} {sp : Sp} {E : XK} {x m : Str} {p pos apos : Pos} {e o : Expr} {es : List Expr} {ta : TE} {t : TA}
theorem pe_callC (F : Cal X.prog X.w X.K X.mg X.base CX k f ps sp) (hr : Room k X.A) (hg : Gl X x) (hm : X.mg x = some (.ref f)) (hx : Passes CX X E)
    (ha : PA X (e :: es) t) (hdb : (x == ("__debug__" : Str)) = false := by decide) (he : starEach (e :: es) X.env = (false, eval e X.env) :: starEach es X.env := by rfl) (hpl : (backTo pos (starEach es X.env)).any (·.1) = false := by rfl) :
    PE X (.Call (.Name x p) (e :: es) [] pos) (tCall sp [] E t) := by
  obtain ⟨fd, F, hk, hb⟩ := F
  exact pe_call F hr hg hm hk hb .nil hx ha hdb he hpl
theorem pe_makeC (M : Mk X.K C f) (F : Cal X.prog X.w X.K X.mg X.base CX k f ps sp) (hr : Room (k + 1) X.A) (hg : Gl X x) (hm : X.mg x = some (.ref C)) (hx : Passes CX X E)
    (ha : PA X (e :: es) t) (hdb : (x == ("__debug__" : Str)) = false := by decide) (he : starEach (e :: es) X.env = (false, eval e X.env) :: starEach es X.env := by rfl) (hpl : (backTo pos (starEach es X.env)).any (·.1) = false := by rfl) :
    PE X (.Call (.Name x p) (e :: es) [] pos) (tMake C sp [] E t) := by
  obtain ⟨fd, F, hk, hb⟩ := F
  exact pe_make M F hr hg hm hb .nil hx ha hdb he hpl
theorem pe_clfnC {pl : Sem Bool} (F : Cal X.prog X.w X.K X.mg X.base CX k f ps sp) (c : ClFn X.K C m f) (hr : Room k X.A) (hg : Gl X x) (hm : X.mg x = some (.ref C))
    (hx : Passes CX X E) (ha : PA X (e :: es) t)
    (hdb : (x == ("__debug__" : Str)) = false := by decide) (hst : starEach (e :: es) X.env = (false, eval e X.env) :: starEach es X.env := by rfl) (hpl : (backTo pos (starEach es X.env)).any (·.1) = false := by rfl)
    (ht : eval (.Call (.Attribute (.Name x p) m apos) (e :: es) [] pos) X.env = (do
      let ov ← eval (.Name x p) X.env
      standAt apos.atName
      let (f, first) ← holding [ov] (getMethod ov m pl)
      callWith pos f first (backTo pos (starEach (e :: es) X.env)) (backToKw pos (keywordEach [] X.env))) := by rfl) :
    PE X (.Call (.Attribute (.Name x p) m apos) (e :: es) [] pos) (tCall sp [] E t) := by
  obtain ⟨fd, F, hk, hb⟩ := F
  exact pe_clfn hg hm c F hr hk hb .nil hx ha hdb hst hpl ht
end
section
variable {X : Cx} {CX : CXT} {k : Nat} {f : Addr} {ps : List Str} {sp : Sp} {E : XK}
theorem op_ownC {op : Operator} (F : Cal X.prog X.w X.K X.mg X.base CX k f ps sp) (hr : Room k X.A) (hx : Passes CX X E) (hc : X.calm = true) (hn : (dunderR op.info.2).length ≤ 100 := by decide) : OpR X (binaryOp op) (rOwn X.K op.info.2 f sp E) := by
  obtain ⟨fd, F, hk, hb⟩ := F
  exact op_own F hr hb hx hc hn
theorem op_ownIC {op : Operator} (F : Cal X.prog X.w X.K X.mg X.base CX k f ps sp) (hr : Room k X.A) (hx : Passes CX X E) : OpR X (binaryOp op) (rOwnI X.K op.info.2 f sp E) := by
  obtain ⟨fd, F, hk, hb⟩ := F
  exact op_ownI F hr hb hx
theorem un_ownC (F : Cal X.prog X.w X.K X.mg X.base CX k f ps sp) (hr : Room k X.A) (hx : Passes CX X E) : UnR X (unaryOp .USub) (rOwnN X.K f sp E) := by
  obtain ⟨fd, F, hk, hb⟩ := F
  exact un_own F hr hb hx
end
end Sw
set_option Elab.async false
set_option linter.all false
set_option maxRecDepth 100000
set_option maxHeartbeats 2000000
namespace KW
open PySem PySem.Spec PyProof.Rows L2 He Sw
/-! ### the text by places -/
def top (i : Nat) : Stmt := PySem.Challenge.pw_samewords_k08_when_no_word_is_told.main.body.getD i (.Pass ⟨0, 0, 0, 0⟩)
abbrev s_SameError___init__ : Stmt := inClass (top 2) 0
abbrev s_BadWidth___init__ : Stmt := inClass (top 4) 0
abbrev s_BadFormula___init__ : Stmt := inClass (top 7) 0
abbrev s_BadValue___init__ : Stmt := inClass (top 8) 0
abbrev s_TooLong___init__ : Stmt := inClass (top 10) 0
abbrev sIsInt : Stmt := top 17
abbrev sIsRow : Stmt := top 18
abbrev sIsName : Stmt := top 19
abbrev s_is_word : Stmt := top 20
abbrev sIsShift : Stmt := top 21
abbrev sCkName : Stmt := top 22
abbrev s_check_width : Stmt := top 23
abbrev sCkShift : Stmt := top 24
abbrev s_check_values : Stmt := top 25
abbrev sForm : Stmt := inClass (top 31) 0
abbrev s_Formula_input_names : Stmt := inClass (top 31) 1
abbrev sAdd : Stmt := inClass (top 31) 4
abbrev sSub : Stmt := inClass (top 31) 5
abbrev sMul : Stmt := inClass (top 31) 6
abbrev sNeg : Stmt := inClass (top 31) 7
abbrev sShl : Stmt := inClass (top 31) 8
abbrev s_Formula___eq__ : Stmt := inClass (top 31) 9
abbrev sNum : Stmt := inClass (top 32) 0
abbrev sName : Stmt := inClass (top 33) 0
abbrev sSum : Stmt := inClass (top 34) 0
abbrev sCall : Stmt := inClass (top 35) 0
abbrev sCkForm : Stmt := top 36
abbrev s_check_callless : Stmt := top 37
abbrev sInner : Stmt := top 38
abbrev s_has_call : Stmt := top 39
abbrev s_free_names : Stmt := top 40
abbrev s_outside_names : Stmt := top 41
abbrev sIx : Stmt := top 42
abbrev s_told : Stmt := top 45
abbrev s_turns : Stmt := top 46
abbrev s_word_of : Stmt := top 47
abbrev s_turns_of : Stmt := top 48
abbrev s_one_case : Stmt := top 49
abbrev s_words_at : Stmt := top 50
abbrev s_sums_at : Stmt := top 51
abbrev s_cases_of_turns : Stmt := top 52
abbrev s_turns_at : Stmt := top 53
abbrev sLInt : Stmt := top 55
abbrev sDraw : Stmt := top 56
abbrev sLarge : Stmt := top 57
abbrev sNames : Stmt := top 58
abbrev s__law_bad : Stmt := top 59
abbrev s__law_equal : Stmt := top 60
abbrev s__law_class : Stmt := top 61
abbrev sMade : Stmt := top 62
abbrev s__law_inside : Stmt := top 63
abbrev s__law_inputs : Stmt := top 64
abbrev s__law_word : Stmt := top 65
abbrev s__law_turns : Stmt := top 66
abbrev s__law_tried : Stmt := top 67
abbrev s__law_holds : Stmt := top 68
abbrev s__law_due : Stmt := top 69
abbrev s__law_long : Stmt := top 70
abbrev s__law_short : Stmt := top 71
abbrev s__law_hurt : Stmt := top 72
abbrev sLaw : Stmt := top 73
/-! ### what the head tells -/
def dF (x : Str) (st : Stmt) : DefD := ⟨(x, none), x, x, defArgs st, defBody st, defScope st, [], []⟩
def dM (c m q : Str) (st : Stmt) (dfl : List Dv) : DefD := ⟨(c, some m), m, q, defArgs st, defBody st, defScope st, dfl, []⟩
def fn : List DefD := [dM "SameError" "__init__" "SameError.__init__" s_SameError___init__ [.non],
  dM "BadWidth" "__init__" "BadWidth.__init__" s_BadWidth___init__ [],
  dM "BadFormula" "__init__" "BadFormula.__init__" s_BadFormula___init__ [],
  dM "BadValue" "__init__" "BadValue.__init__" s_BadValue___init__ [],
  dM "TooLong" "__init__" "TooLong.__init__" s_TooLong___init__ [],
  dF "is_integer" sIsInt,
  dF "is_row" sIsRow,
  dF "is_name" sIsName,
  dF "is_word" s_is_word,
  dF "is_shift" sIsShift,
  dF "check_name" sCkName,
  dF "check_width" s_check_width,
  dF "check_shift" sCkShift,
  dF "check_values" s_check_values,
  dM "Formula" "__init__" "Formula.__init__" sForm [],
  dM "Formula" "input_names" "Formula.input_names" s_Formula_input_names [],
  dM "Formula" "__add__" "Formula.__add__" sAdd [],
  dM "Formula" "__sub__" "Formula.__sub__" sSub [],
  dM "Formula" "__mul__" "Formula.__mul__" sMul [],
  dM "Formula" "__neg__" "Formula.__neg__" sNeg [],
  dM "Formula" "__lshift__" "Formula.__lshift__" sShl [],
  dM "Formula" "__eq__" "Formula.__eq__" s_Formula___eq__ [],
  dM "Number" "__init__" "Number.__init__" sNum [],
  dM "Name" "__init__" "Name.__init__" sName [],
  dM "Sum" "__init__" "Sum.__init__" sSum [],
  dM "Call" "__init__" "Call.__init__" sCall [],
  dF "check_formula" sCkForm,
  dF "check_callless" s_check_callless,
  dF "inner_formulas" sInner,
  dF "has_call" s_has_call,
  dF "free_names" s_free_names,
  dF "outside_names" s_outside_names,
  dF "index_names" sIx,
  dF "told" s_told,
  dF "turns" s_turns,
  dF "word_of" s_word_of,
  dF "turns_of" s_turns_of,
  dF "one_case" s_one_case,
  dF "words_at" s_words_at,
  dF "sums_at" s_sums_at,
  dF "cases_of_turns" s_cases_of_turns,
  dF "turns_at" s_turns_at,
  dF "_law_is_integer" sLInt,
  dF "_law_draw" sDraw,
  dF "_law_large" sLarge,
  dF "_law_names" sNames,
  dF "_law_bad" s__law_bad,
  dF "_law_equal" s__law_equal,
  dF "_law_class" s__law_class,
  dF "_law_made" sMade,
  dF "_law_inside" s__law_inside,
  dF "_law_inputs" s__law_inputs,
  dF "_law_word" s__law_word,
  dF "_law_turns" s__law_turns,
  dF "_law_tried" s__law_tried,
  dF "_law_holds" s__law_holds,
  dF "_law_due" s__law_due,
  dF "_law_long" s__law_long,
  dF "_law_short" s__law_short,
  dF "_law_hurt" s__law_hurt,
  dF "law" sLaw]
def gloL0 : List Str := ["is_integer", "is_row", "is_name", "is_word", "is_shift", "check_name", "check_width", "check_shift", "check_values", "check_formula", "check_callless", "inner_formulas", "has_call", "free_names"]
def gloL1 : List Str := ["outside_names", "index_names", "told", "turns", "word_of", "turns_of", "one_case", "words_at", "sums_at", "cases_of_turns", "turns_at", "_law_is_integer", "_law_draw", "_law_large"]
def gloL2 : List Str := ["_law_names", "_law_bad", "_law_equal", "_law_class", "_law_made", "_law_inside", "_law_inputs", "_law_word", "_law_turns", "_law_tried", "_law_holds", "_law_due", "_law_long", "_law_short"]
def gloL3 : List Str := ["_law_hurt", "law", "Formula", "Number", "Name", "Sum", "Call", "NO_NAMES"]

def errL : List Str := ["BadWidth", "BadFormula", "BadValue", "TooLong"]
def kinds : List Str := ["BadName", "BadWidth", "BadNumber", "BadBound", "BadFormula", "BadValue", "TooMany", "TooLong"]
def thTys : List String := ["NoneType", "bool", "int", "str", "tuple", "list", "dict"]
def gloE : List Str := ["SameError", "BadName", "BadWidth", "BadNumber", "BadBound", "BadFormula", "BadValue", "TooMany", "TooLong"]
def gloL : List Str := gloE ++ gloL0 ++ gloL1 ++ gloL2 ++ gloL3
def freeL : List Str := ["ValueError", "isinstance", "int", "bool", "str", "len", "all", "any", "sum", "max", "min", "range", "abs", "list", "tuple", "sorted", "set", "dict", "zip"]
def clsL : List Str := ["Formula", "Number", "Name", "Sum", "Call"]
def clsS : List String := ["Formula", "Number", "Name", "Sum", "Call"]
def fldL : List Str := ["kind", "things", "parts", "depth"]
def binL : List String := ["add", "sub", "mul"]
def kitB2 (K : PySem.W.Frag) (a b : Str) (r : Bool) : Bool := decide (PySem.W.kitOne K (.ref (ga K a)) (.ref (ga K b)) = some r)
/-- an own class whose instances isinstance may ask -/
def insB (K : PySem.W.Frag) (C : Addr) : Bool := eqO (PySem.W.findIn K (.ref C) "__class__") (some (some (.builtin "object.__class__"))) && (eqO (PySem.W.specialIn K (.builtin "object.__class__") "__get__") (some (some (.builtin "getset_descriptor.__get__"))) &&
  (decide (PySem.W.takesIn K (.builtin "object.__class__") = some true) && decide (PySem.W.mroIn K C (.type "object") = some true)))
def noClsB (K : PySem.W.Frag) (C : Addr) (name : Str) (z : String) : Bool := PySem.W.readsIn K C (.type "type") && (eqO (PySem.W.findIn K (.type "type") name) (some none) && (eqO (PySem.W.findIn K (.ref C) name) (some none) && nameB K C z))
def mF (K : PySem.W.Frag) (m : Str) : Addr := ma K (ga K "Formula") m
def opB (K : PySem.W.Frag) (C : Addr) (nm z : String) : Bool := PySem.W.selfFirst K C && (eqO (PySem.W.findIn K (.ref C) (PySem.dunder nm)) (some (some (.ref (mF K (PySem.dunder nm))))) && (PySem.W.isFn K (.ref (mF K (PySem.dunder nm))) && noClsB K C (dunderR nm) z))
def shlB (K : PySem.W.Frag) (C : Addr) : Bool := PySem.W.selfFirst K C && (eqO (PySem.W.findIn K (.ref C) (PySem.dunder "lshift")) (some (some (.ref (mF K (PySem.dunder "lshift"))))) && (PySem.W.isFn K (.ref (mF K (PySem.dunder "lshift"))) && (eqO (PySem.W.findIn K (.ref C) (dunderR "lshift")) (some none) &&
  (((PySem.W.findIn K (.type "int") (PySem.dunder "lshift")).isSome && (PySem.W.findIn K (.type "int") (dunderR "lshift")).isSome) && decide (PySem.W.subIn K (.type "int") (.ref C) = some false)))))
def negB (K : PySem.W.Frag) (C : Addr) : Bool := eqO (PySem.W.findIn K (.ref C) "__neg__") (some (some (.ref (mF K "__neg__")))) && PySem.W.isFn K (.ref (mF K "__neg__"))
def noNames : List Str := ["width", "in", "def", "let", "if", "then", "else", "out", "sum"]
def fa : List Fb := [
  fun K => gloL.all fun x => (Fa.glo x).ok K,
  fun K => freeL.all fun x => (Fa.free x).ok K,
  fun K => clfnB K (ga K "Formula") "__init__",
  fun K => (Fa.str "LETTERS" "abcdefghijklmnopqrstuvwxyz").ok K,
  fun K => (Fa.int "MOST_LETTERS" 8).ok K,
  fun K => (Fa.int "MOST_PARTS" 300).ok K,
  fun K => (Fa.int "MOST_DEPTH" 40).ok K,
  fun K => (Fa.int "NUMBER_END" (10 ^ 30)).ok K,
  fun K => (Fa.int "MOST_SHIFT" 64).ok K,
  fun K => (Fa.int "MOST_THINGS" 4).ok K,
  fun K => tupB K "NO_NAMES" (noNames.map Dv.str),
  fun K => clsL.all fun x => (Fa.cls x).ok K && ((Fa.mkr x).ok K && insB K (ga K x)),
  fun K => clsL.all fun x => fldL.all fun f => (Fa.noat x f).ok K,
  fun K => clsL.all fun x => clsL.all fun y => kitB2 K x y (decide (x = y) || decide (y = "Formula")),
  fun K => clsS.all fun z => binL.all fun nm => opB K (ga K (Str.ofString z)) nm z,
  fun K => clsL.all fun x => clsL.all fun y => (PySem.W.subIn K (.ref (ga K y)) (.ref (ga K x))).isSome,
  fun K => clsL.all fun x => shlB K (ga K x),
  fun K => clsL.all fun x => negB K (ga K x),
  fun K => errL.all fun x => errB K (ga K x),
  fun K => errL.all fun x => kinds.all fun y => kitB2 K x y (decide (x = y)),
  fun K => errL.all fun x => (Fa.exm x "SameError" true).ok K,
  fun K => errL.all fun x => decide (PySem.W.kitOne K (.ref (ga K x)) (.type "ValueError") = some true),
  fun K => clfnB K (ga K "SameError") "__init__",
  fun K => veinB K,
  fun K => thTys.all fun n => decide (PySem.W.kitOne K (.type n) (.ref (ga K "Formula")) = some false),
  fun K => clsL.all fun x => decide (PySem.W.kitOne K (.ref (ga K x)) (.type "bool") = some false),
  fun K => clsL.all fun x => (["__eq__", "input_names"] : List Str).all fun m => eqO (PySem.W.findIn K (.ref (ga K x)) m) (some (some (.ref (mF K m)))) && (PySem.W.isFn K (.ref (mF K m)) && PySem.W.keepIn K (.ref (mF K m))),
  fun K => (Fa.int "MOST_TURNS" 20000).ok K,
  fun K => (Fa.int "MOST_WIDTH" 64).ok K]
abbrev R : PySem.W.OpenRow := PySem.W.OpenLaw.row PySem.Challenge.rw_samewords_k08_when_no_word_is_told
abbrev hk : PySem.W.Hook := hookF 6 fa fn
def ob (s : PySem.W.SharedT) : AlD := obsFG 6 fa fn (HandSHeadRun.getT s)
theorem ob_eq (s : PySem.W.SharedT) : ob s = hk.obs s.abs := obsFG_eq (HandSHeadRun.getT_eq s)
def looseL0 : List Str := ["_wall", "__name__", "SameError", "BadName", "BadWidth", "BadNumber", "BadBound", "BadFormula", "BadValue", "TooMany", "TooLong", "LETTERS", "NO_NAMES", "MOST_LETTERS"]
def looseL1 : List Str := ["MOST_WIDTH", "MOST_SHIFT", "is_integer", "is_row", "is_name", "is_word", "is_shift", "check_name", "check_width", "check_shift", "check_values", "MOST_PARTS", "MOST_DEPTH", "MOST_THINGS"]
def looseL2 : List Str := ["NUMBER_END", "Formula", "Number", "Name", "Sum", "Call", "check_formula", "check_callless", "inner_formulas", "has_call", "free_names", "outside_names", "index_names", "MOST_TURNS"]
def looseL3 : List Str := ["told", "turns", "word_of", "turns_of", "one_case", "words_at", "sums_at", "cases_of_turns", "turns_at", "_law_is_integer", "_law_draw", "_law_large", "_law_names", "_law_bad"]
def looseL4 : List Str := ["_law_equal", "_law_class", "_law_made", "_law_inside", "_law_inputs", "_law_word", "_law_turns", "_law_tried", "_law_holds", "_law_due", "_law_long", "_law_short", "_law_hurt"]
def looseL : List Str := looseL0 ++ looseL1 ++ looseL2 ++ looseL3 ++ looseL4
end KW
set_option Elab.async false
set_option linter.all false
set_option maxRecDepth 100000
set_option maxHeartbeats 0
namespace KW
open PySem PySem.Spec PyProof.Rows L2 He Sw
theorem run (w : World) : HandSHeadRun.RunEq R (PySem.W.view R.prog [73]) hk ob 8000 looseL w := by
  intro os
  kernel_rfl
end KW
set_option Elab.async false
set_option linter.all false
set_option maxRecDepth 100000
set_option maxHeartbeats 2000000
namespace KW
open PySem PySem.Spec PyProof.Rows L2 He Sw
/-! ### what the defs lean on -/
structure InsT (K : PySem.W.Frag) (C : Addr) : Prop where
  cl : Cls K C
  mkr : Mk K C (ma K C "__init__")
  ha : PySem.W.findIn K (.ref C) "__class__" = some (some (.builtin "object.__class__"))
  hn : PySem.W.specialIn K (.builtin "object.__class__") "__get__" = some (some (.builtin "getset_descriptor.__get__"))
  ht : PySem.W.takesIn K (.builtin "object.__class__") = some true
  hm : PySem.W.mroIn K C (.type "object") = some true
  no : ∀ f ∈ fldL, NoAttr K C f
structure Txt (K : PySem.W.Frag) (mg : Str → Option Value) : Prop where
  glo : ∀ x ∈ gloL, mg x = some (.ref (ga K x))
  fre : ∀ x ∈ freeL, mg x = none
  foI : ClFn K (ga K "Formula") "__init__" (ma K (ga K "Formula") "__init__")
  let_ : ∃ t, mg "LETTERS" = some (.str "abcdefghijklmnopqrstuvwxyz" t)
  mLet : ∃ t, mg "MOST_LETTERS" = some (.int 8 t)
  mPar : ∃ t, mg "MOST_PARTS" = some (.int 300 t)
  mDep : ∃ t, mg "MOST_DEPTH" = some (.int 40 t)
  nEnd : ∃ t, mg "NUMBER_END" = some (.int (10 ^ 30) t)
  mShf : ∃ t, mg "MOST_SHIFT" = some (.int 64 t)
  mThg : ∃ t, mg "MOST_THINGS" = some (.int 4 t)
  noN : ∀ H : Hp, SqT K H (ga K "NO_NAMES") (noNames.map V.str)
  ins : ∀ x ∈ clsL, InsT K (ga K x)
  kit : ∀ x ∈ clsL, ∀ y ∈ clsL, PySem.W.kitOne K (.ref (ga K x)) (.ref (ga K y)) = some (decide (x = y) || decide (y = "Formula"))
  bin : ∀ x ∈ clsL, ∀ y ∈ clsL, ∀ nm ∈ binL, BinP K nm (ga K x) (ga K y) (mF K (PySem.dunder nm))
  shl : ∀ x ∈ clsL, BinT K "lshift" (ga K x) (mF K (PySem.dunder "lshift")) "int"
  neg : ∀ x ∈ clsL, NegP K (ga K x) (mF K "__neg__")
  err : ∀ x ∈ errL, ErrC K (ga K x)
  kitE : ∀ x ∈ errL, ∀ y ∈ kinds, PySem.W.kitOne K (.ref (ga K x)) (.ref (ga K y)) = some (decide (x = y))
  exmE : ∀ x ∈ errL, PySem.W.exmOne K (.ref (ga K x)) (.ref (ga K "SameError")) = some true
  kveE : ∀ x ∈ errL, PySem.W.kitOne K (.ref (ga K x)) (.type "ValueError") = some true
  seI : ClFn K (ga K "SameError") "__init__" (ma K (ga K "SameError") "__init__")
  veI : PySem.W.findCls K (.type "ValueError") (.type "type") "__init__" = some (.val (.builtin "ValueError.__init__"))
  thF : ∀ n ∈ thTys, PySem.W.kitOne K (.type n) (.ref (ga K "Formula")) = some false
  clB : ∀ x ∈ clsL, PySem.W.kitOne K (.ref (ga K x)) (.type "bool") = some false
  mth : ∀ x ∈ clsL, ∀ m ∈ (["__eq__", "input_names"] : List Str), PySem.W.findIn K (.ref (ga K x)) m = some (some (.ref (mF K m))) ∧ PySem.W.isFn K (.ref (mF K m)) = true ∧ PySem.W.keepIn K (.ref (mF K m)) = true
  mTurn : ∃ t, mg "MOST_TURNS" = some (.int 20000 t)
  mWid : ∃ t, mg "MOST_WIDTH" = some (.int 64 t)
  dd : ∀ (i : Nat) (d : DefD), fn[i]? = some d → ∃ fd, FunD K d.name d.qual d.params d.body d.scope (d.dvs K) (d.kws K) (fAd K d.at_) fd
section
variable {P : Program} {w : World} {K : PySem.W.Frag} {mg : Str → Option Value} {base : Heap}
theorem Txt.g (T : Txt K mg) (x : Str) (h : x ∈ gloL := by decide +kernel) : mg x = some (.ref (ga K x)) := T.glo x h
theorem Txt.f (T : Txt K mg) (x : Str) (h : x ∈ freeL := by decide +kernel) : mg x = none := T.fre x h
/-- a def of the text -/
abbrev FnM (K : PySem.W.Frag) (c q : Str) (st : Stmt) (dvs : List V) (fd : FuncData) : Prop := FunD K "__init__" q (defArgs st) (defBody st) (defScope st) dvs [] (ma K (ga K c) "__init__") fd
abbrev FnG (K : PySem.W.Frag) (x : Str) (st : Stmt) (fd : FuncData) : Prop := FunD K x x (defArgs st) (defBody st) (defScope st) [] [] (ga K x) fd

theorem Txt.f_BadWidth___init__ (T : Txt K mg) : ∃ fd, FunD K "__init__" "BadWidth.__init__" (defArgs s_BadWidth___init__) (defBody s_BadWidth___init__) (defScope s_BadWidth___init__) [] [] (ma K (ga K "BadWidth") "__init__") fd := T.dd 1 _ rfl
theorem Txt.f_BadFormula___init__ (T : Txt K mg) : ∃ fd, FunD K "__init__" "BadFormula.__init__" (defArgs s_BadFormula___init__) (defBody s_BadFormula___init__) (defScope s_BadFormula___init__) [] [] (ma K (ga K "BadFormula") "__init__") fd := T.dd 2 _ rfl
theorem Txt.f_BadValue___init__ (T : Txt K mg) : ∃ fd, FunD K "__init__" "BadValue.__init__" (defArgs s_BadValue___init__) (defBody s_BadValue___init__) (defScope s_BadValue___init__) [] [] (ma K (ga K "BadValue") "__init__") fd := T.dd 3 _ rfl
theorem Txt.f_TooLong___init__ (T : Txt K mg) : ∃ fd, FunD K "__init__" "TooLong.__init__" (defArgs s_TooLong___init__) (defBody s_TooLong___init__) (defScope s_TooLong___init__) [] [] (ma K (ga K "TooLong") "__init__") fd := T.dd 4 _ rfl
theorem Txt.f_is_integer (T : Txt K mg) : ∃ fd, FnG K "is_integer" sIsInt fd := T.dd 5 _ rfl
theorem Txt.f_is_row (T : Txt K mg) : ∃ fd, FnG K "is_row" sIsRow fd := T.dd 6 _ rfl
theorem Txt.f_is_name (T : Txt K mg) : ∃ fd, FnG K "is_name" sIsName fd := T.dd 7 _ rfl
theorem Txt.f_is_word (T : Txt K mg) : ∃ fd, FnG K "is_word" s_is_word fd := T.dd 8 _ rfl
theorem Txt.f_is_shift (T : Txt K mg) : ∃ fd, FnG K "is_shift" sIsShift fd := T.dd 9 _ rfl
theorem Txt.f_check_name (T : Txt K mg) : ∃ fd, FnG K "check_name" sCkName fd := T.dd 10 _ rfl
theorem Txt.f_check_width (T : Txt K mg) : ∃ fd, FnG K "check_width" s_check_width fd := T.dd 11 _ rfl
theorem Txt.f_check_shift (T : Txt K mg) : ∃ fd, FnG K "check_shift" sCkShift fd := T.dd 12 _ rfl
theorem Txt.f_check_values (T : Txt K mg) : ∃ fd, FnG K "check_values" s_check_values fd := T.dd 13 _ rfl
theorem Txt.f_Formula___init__ (T : Txt K mg) : ∃ fd, FunD K "__init__" "Formula.__init__" (defArgs sForm) (defBody sForm) (defScope sForm) [] [] (ma K (ga K "Formula") "__init__") fd := T.dd 14 _ rfl
theorem Txt.f_Formula_input_names (T : Txt K mg) : ∃ fd, FunD K "input_names" "Formula.input_names" (defArgs s_Formula_input_names) (defBody s_Formula_input_names) (defScope s_Formula_input_names) [] [] (ma K (ga K "Formula") "input_names") fd := T.dd 15 _ rfl
theorem Txt.f_Formula___add__ (T : Txt K mg) : ∃ fd, FunD K "__add__" "Formula.__add__" (defArgs sAdd) (defBody sAdd) (defScope sAdd) [] [] (ma K (ga K "Formula") "__add__") fd := T.dd 16 _ rfl
theorem Txt.f_Formula___sub__ (T : Txt K mg) : ∃ fd, FunD K "__sub__" "Formula.__sub__" (defArgs sSub) (defBody sSub) (defScope sSub) [] [] (ma K (ga K "Formula") "__sub__") fd := T.dd 17 _ rfl
theorem Txt.f_Formula___mul__ (T : Txt K mg) : ∃ fd, FunD K "__mul__" "Formula.__mul__" (defArgs sMul) (defBody sMul) (defScope sMul) [] [] (ma K (ga K "Formula") "__mul__") fd := T.dd 18 _ rfl
theorem Txt.f_Formula___neg__ (T : Txt K mg) : ∃ fd, FunD K "__neg__" "Formula.__neg__" (defArgs sNeg) (defBody sNeg) (defScope sNeg) [] [] (ma K (ga K "Formula") "__neg__") fd := T.dd 19 _ rfl
theorem Txt.f_Formula___lshift__ (T : Txt K mg) : ∃ fd, FunD K "__lshift__" "Formula.__lshift__" (defArgs sShl) (defBody sShl) (defScope sShl) [] [] (ma K (ga K "Formula") "__lshift__") fd := T.dd 20 _ rfl
theorem Txt.f_Formula___eq__ (T : Txt K mg) : ∃ fd, FunD K "__eq__" "Formula.__eq__" (defArgs s_Formula___eq__) (defBody s_Formula___eq__) (defScope s_Formula___eq__) [] [] (ma K (ga K "Formula") "__eq__") fd := T.dd 21 _ rfl
theorem Txt.f_Number___init__ (T : Txt K mg) : ∃ fd, FunD K "__init__" "Number.__init__" (defArgs sNum) (defBody sNum) (defScope sNum) [] [] (ma K (ga K "Number") "__init__") fd := T.dd 22 _ rfl
theorem Txt.f_Name___init__ (T : Txt K mg) : ∃ fd, FunD K "__init__" "Name.__init__" (defArgs sName) (defBody sName) (defScope sName) [] [] (ma K (ga K "Name") "__init__") fd := T.dd 23 _ rfl
theorem Txt.f_Sum___init__ (T : Txt K mg) : ∃ fd, FunD K "__init__" "Sum.__init__" (defArgs sSum) (defBody sSum) (defScope sSum) [] [] (ma K (ga K "Sum") "__init__") fd := T.dd 24 _ rfl
theorem Txt.f_Call___init__ (T : Txt K mg) : ∃ fd, FunD K "__init__" "Call.__init__" (defArgs sCall) (defBody sCall) (defScope sCall) [] [] (ma K (ga K "Call") "__init__") fd := T.dd 25 _ rfl
theorem Txt.f_check_formula (T : Txt K mg) : ∃ fd, FnG K "check_formula" sCkForm fd := T.dd 26 _ rfl
theorem Txt.f_check_callless (T : Txt K mg) : ∃ fd, FnG K "check_callless" s_check_callless fd := T.dd 27 _ rfl
theorem Txt.f_inner_formulas (T : Txt K mg) : ∃ fd, FnG K "inner_formulas" sInner fd := T.dd 28 _ rfl
theorem Txt.f_has_call (T : Txt K mg) : ∃ fd, FnG K "has_call" s_has_call fd := T.dd 29 _ rfl
theorem Txt.f_free_names (T : Txt K mg) : ∃ fd, FnG K "free_names" s_free_names fd := T.dd 30 _ rfl
theorem Txt.f_outside_names (T : Txt K mg) : ∃ fd, FnG K "outside_names" s_outside_names fd := T.dd 31 _ rfl
theorem Txt.f_index_names (T : Txt K mg) : ∃ fd, FnG K "index_names" sIx fd := T.dd 32 _ rfl
theorem Txt.f_told (T : Txt K mg) : ∃ fd, FnG K "told" s_told fd := T.dd 33 _ rfl
theorem Txt.f_turns (T : Txt K mg) : ∃ fd, FnG K "turns" s_turns fd := T.dd 34 _ rfl
theorem Txt.f_word_of (T : Txt K mg) : ∃ fd, FnG K "word_of" s_word_of fd := T.dd 35 _ rfl
theorem Txt.f_turns_of (T : Txt K mg) : ∃ fd, FnG K "turns_of" s_turns_of fd := T.dd 36 _ rfl
theorem Txt.f_one_case (T : Txt K mg) : ∃ fd, FnG K "one_case" s_one_case fd := T.dd 37 _ rfl
theorem Txt.f_words_at (T : Txt K mg) : ∃ fd, FnG K "words_at" s_words_at fd := T.dd 38 _ rfl
theorem Txt.f_sums_at (T : Txt K mg) : ∃ fd, FnG K "sums_at" s_sums_at fd := T.dd 39 _ rfl
theorem Txt.f_cases_of_turns (T : Txt K mg) : ∃ fd, FnG K "cases_of_turns" s_cases_of_turns fd := T.dd 40 _ rfl
theorem Txt.f_turns_at (T : Txt K mg) : ∃ fd, FnG K "turns_at" s_turns_at fd := T.dd 41 _ rfl
theorem Txt.f__law_is_integer (T : Txt K mg) : ∃ fd, FnG K "_law_is_integer" sLInt fd := T.dd 42 _ rfl
theorem Txt.f__law_draw (T : Txt K mg) : ∃ fd, FnG K "_law_draw" sDraw fd := T.dd 43 _ rfl
theorem Txt.f__law_large (T : Txt K mg) : ∃ fd, FnG K "_law_large" sLarge fd := T.dd 44 _ rfl
theorem Txt.f__law_names (T : Txt K mg) : ∃ fd, FnG K "_law_names" sNames fd := T.dd 45 _ rfl
theorem Txt.f__law_bad (T : Txt K mg) : ∃ fd, FnG K "_law_bad" s__law_bad fd := T.dd 46 _ rfl
theorem Txt.f__law_equal (T : Txt K mg) : ∃ fd, FnG K "_law_equal" s__law_equal fd := T.dd 47 _ rfl
theorem Txt.f__law_class (T : Txt K mg) : ∃ fd, FnG K "_law_class" s__law_class fd := T.dd 48 _ rfl
theorem Txt.f__law_made (T : Txt K mg) : ∃ fd, FnG K "_law_made" sMade fd := T.dd 49 _ rfl
theorem Txt.f__law_inside (T : Txt K mg) : ∃ fd, FnG K "_law_inside" s__law_inside fd := T.dd 50 _ rfl
theorem Txt.f__law_inputs (T : Txt K mg) : ∃ fd, FnG K "_law_inputs" s__law_inputs fd := T.dd 51 _ rfl
theorem Txt.f__law_word (T : Txt K mg) : ∃ fd, FnG K "_law_word" s__law_word fd := T.dd 52 _ rfl
theorem Txt.f__law_turns (T : Txt K mg) : ∃ fd, FnG K "_law_turns" s__law_turns fd := T.dd 53 _ rfl
theorem Txt.f__law_tried (T : Txt K mg) : ∃ fd, FnG K "_law_tried" s__law_tried fd := T.dd 54 _ rfl
theorem Txt.f__law_holds (T : Txt K mg) : ∃ fd, FnG K "_law_holds" s__law_holds fd := T.dd 55 _ rfl
theorem Txt.f__law_due (T : Txt K mg) : ∃ fd, FnG K "_law_due" s__law_due fd := T.dd 56 _ rfl
theorem Txt.f__law_long (T : Txt K mg) : ∃ fd, FnG K "_law_long" s__law_long fd := T.dd 57 _ rfl
theorem Txt.f__law_short (T : Txt K mg) : ∃ fd, FnG K "_law_short" s__law_short fd := T.dd 58 _ rfl
theorem Txt.f__law_hurt (T : Txt K mg) : ∃ fd, FnG K "_law_hurt" s__law_hurt fd := T.dd 59 _ rfl
theorem Txt.f_law (T : Txt K mg) : ∃ fd, FnG K "law" sLaw fd := T.dd 60 _ rfl
/-! ### the things that are handed in -/
inductive Th (H : Hp) : V → String → Prop
  | non : Th H .non "NoneType"
  | bl (b : Bool) : Th H (.bl b) "bool"
  | int (i : Int) : Th H (.int i) "int"
  | str (z : Str) (h : z.length ≤ 100) : Th H (.str z) "str"
  | tup (a : Addr) (e : H a = some (.tup [.str "x"])) : Th H (.ref a) "tuple"
  | lst (a : Addr) (e : H a = some (.lst [.str "x"])) : Th H (.ref a) "list"
  | ls8 (a : Addr) (e : H a = some (.lst [.int 8])) : Th H (.ref a) "list"
  | dct (a : Addr) (e : H a = some (.dK [(.inr "x", .int 1)])) : Th H (.ref a) "dict"
theorem Th.ty {H : Hp} {v : V} {n : String} (t : Th H v n) : TyX K H v (.type n) := by
  cases t with
  | non => exact .base .non
  | bl b => exact .base (.bl b)
  | int i => exact .base (.int i)
  | str z h => exact .base (.str z)
  | tup a e => exact .base (.tup e)
  | lst a e => exact .base (.lst e)
  | ls8 a e => exact .base (.lst e)
  | dct a e => exact .base (.dK e)
theorem Th.same {H H' : Hp} {v : V} {n : String} (t : Th H v n) (s : Same H H') : Th H' v n := by
  cases t with
  | non => exact .non
  | bl b => exact .bl b
  | int i => exact .int i
  | str z h => exact .str z h
  | tup a e => exact .tup a (s _ _ e)
  | lst a e => exact .lst a (s _ _ e)
  | ls8 a e => exact .ls8 a (s _ _ e)
  | dct a e => exact .dct a (s _ _ e)
def isI : V → Bool
  | .int _ => true
  | _ => false
def isS : V → Bool
  | .str _ => true
  | _ => false
def isB : V → Bool
  | .bl _ => true
  | _ => false
theorem Th.kInt {H : Hp} {v : V} {n : String} (t : Th H v n) : PySem.W.kitOne K (.type n) (.type "int") = some (isI v || isB v) := by
  cases t <;> first
    | exact kit_ty (show kitB _ _ = some true by decide +kernel)
    | exact kit_ty (show kitB _ _ = some false by decide +kernel)
theorem Th.kBool {H : Hp} {v : V} {n : String} (t : Th H v n) : PySem.W.kitOne K (.type n) (.type "bool") = some (isB v) := by
  cases t <;> first
    | exact kit_ty (show kitB _ _ = some true by decide +kernel)
    | exact kit_ty (show kitB _ _ = some false by decide +kernel)
theorem Th.kStr {H : Hp} {v : V} {n : String} (t : Th H v n) : PySem.W.kitOne K (.type n) (.type "str") = some (isS v) := by
  cases t <;> first
    | exact kit_ty (show kitB _ _ = some true by decide +kernel)
    | exact kit_ty (show kitB _ _ = some false by decide +kernel)

/-! ### is_integer, the law's own too -/
def spIsInt : Sp := fun vs H Q _ => ∃ (v : V) (n : String), vs = [v] ∧ Th H v n ∧ Q (.bl (isI v)) H
theorem scIsInt : FnScope ["thing"] ["thing"] (defScope sIsInt) := ⟨rfl, rfl, rfl, by decide +kernel, rfl, by decide +kernel, by decide +kernel⟩
theorem ok_isInt {fd : FuncData} (T : Txt K mg) (F : FnG K "is_integer" sIsInt fd) : FnOk P w K mg base CX0 1 (ga K "is_integer") fd ["thing"] spIsInt := by
  refine F.ok scIsInt (fun vs H Q E h => ?_) (fun cdv A outer s H vs Q E hr h => ?_)
  · obtain ⟨v, n, rfl, _⟩ := h
    rfl
  obtain ⟨v, n, rfl, t, k⟩ := h
  refine ⟨_, pss_one (ps_ret (pe_and (pe_callB call_isi rfl (T.f "isinstance") (by decide +kernel) (pa_cons (pv 0) (pa_cons (pe_bltn (v := .ty "int") rfl (T.f "int") (by decide +kernel) rfl) pa_nil)))
    (pe_one (pe_not (pe_callB call_isi rfl (T.f "isinstance") (by decide +kernel) (pa_cons (pv 0) (pa_cons (pe_bltn (v := .ty "bool") rfl (T.f "bool") (by decide +kernel) rfl) pa_nil))))))), ?_⟩
  refine ⟨_, rfl, v, .ty "int", .type n, .type "int", _, rfl, .ty _, t.ty, t.kInt, _, rfl, ?_⟩
  refine ite2 (fun h => ?_) (fun h => ?_)
  · refine ⟨_, rfl, v, .ty "bool", .type n, .type "bool", _, rfl, .ty _, t.ty, t.kBool, _, rfl, ?_⟩
    have e : (!isB v) = isI v := by cases t <;> first | rfl | cases h
    rw [e]
    exact k
  · have e : isI v = false := by cases t <;> first | rfl | exact absurd rfl h
    rw [e] at k
    exact k
theorem scLInt : FnScope ["_law_thing"] ["_law_thing"] (defScope sLInt) := ⟨rfl, rfl, rfl, by decide +kernel, rfl, by decide +kernel, by decide +kernel⟩
theorem ok_lInt {fd : FuncData} (T : Txt K mg) (F : FnG K "_law_is_integer" sLInt fd) : FnOk P w K mg base CX0 1 (ga K "_law_is_integer") fd ["_law_thing"] spIsInt := by
  refine F.ok scLInt (fun vs H Q E h => ?_) (fun cdv A outer s H vs Q E hr h => ?_)
  · obtain ⟨v, n, rfl, _⟩ := h
    rfl
  obtain ⟨v, n, rfl, t, k⟩ := h
  refine ⟨_, pss_one (ps_ret (pe_and (pe_callB call_isi rfl (T.f "isinstance") (by decide +kernel) (pa_cons (pv 0) (pa_cons (pe_bltn (v := .ty "int") rfl (T.f "int") (by decide +kernel) rfl) pa_nil)))
    (pe_one (pe_not (pe_callB call_isi rfl (T.f "isinstance") (by decide +kernel) (pa_cons (pv 0) (pa_cons (pe_bltn (v := .ty "bool") rfl (T.f "bool") (by decide +kernel) rfl) pa_nil))))))), ?_⟩
  refine ⟨_, rfl, v, .ty "int", .type n, .type "int", _, rfl, .ty _, t.ty, t.kInt, _, rfl, ?_⟩
  refine ite2 (fun h => ?_) (fun h => ?_)
  · refine ⟨_, rfl, v, .ty "bool", .type n, .type "bool", _, rfl, .ty _, t.ty, t.kBool, _, rfl, ?_⟩
    have e : (!isB v) = isI v := by cases t <;> first | rfl | cases h
    rw [e]
    exact k
  · have e : isI v = false := by cases t <;> first | rfl | exact absurd rfl h
    rw [e] at k
    exact k
end
end KW
set_option Elab.async false
set_option linter.all false
set_option maxRecDepth 100000
set_option maxHeartbeats 2000000
namespace Sw
open PySem PySem.Spec PyProof.Rows L2
/-- [f(c) for c in z], the element changes nothing -/
theorem lc_mapS {i : Nat} {z : Str} {f : Nat → V} {te : TE} {σ : L2.St} {H1 : Hp} {D : Addr} {Qd : Hp → Prop} (hz : z.length ≤ 1000)
    (ht : ∀ (c : Nat) (H : Hp) (Q : VK), Q (f c) H → te ((wipe σ [i]).set i (some (.str ⟨#[c]⟩))) H Q) (hd : Qd (upd H1 D (.lst (z.cps.toList.map f)))) :
    ∃ W : Nat → Nat → Hp → Prop, (∃ m, W 0 m (upd H1 D (.lst []))) ∧ ∀ j m H, W j m H →
      ((Its z).stop j H ∧ Qd H) ∨ ((Its z).go j H ∧ ∃ Nx : Hp → Prop, (∀ H', Nx H' → ∃ m', m' < m ∧ W (j + 1) m' H') ∧ ∀ x H', (Its z).yld j H x H' → gName i x (wipe σ [i]) H' fun σ2 H2 => wipe σ2 [i] = wipe σ [i] ∧ tYes σ2 H2 fun b H3 =>
        if b = true then te σ2 H3 fun y H4 => ∃ acc, H4 D = some (.lst acc) ∧ acc.length < sizeLine ∧ Nx (upd H4 D (.lst (acc ++ [y]))) else Nx H3) := by
  have hsz : z.cps.size ≤ 1000 := hz
  have updd : ∀ (o o' : HO), upd (upd H1 D o) D o' = upd H1 D o' := fun o o' => by
    funext b
    by_cases hb : b = D
    · rw [hb, upd_same, upd_same]
    · rw [upd_ne hb, upd_ne hb, upd_ne hb]
  refine lc_it walk_str (fun j H => H = upd H1 D (.lst ((z.cps.toList.take j).map f))) (by simp) (fun _ _ _ _ => trivial) ?_ ?_
  · rintro j x H H' hj rfl ⟨rfl, c, hc, rfl⟩
    have hc2 : z.cps.toList[j]? = some c := by rw [Array.getElem?_toList]; exact hc
    refine ⟨by simp [wipe], ?_⟩
    refine ht c (upd H1 D (.lst ((z.cps.toList.take j).map f))) _ ⟨_, upd_same, ?_, ?_⟩
    · rw [List.length_map, List.length_take, sizeLine_eq]
      omega
    · show upd (upd H1 D _) D _ = _
      rw [updd, List.take_add_one, hc2]
      simp
  · rintro H rfl
    have e : z.cps.toList.take z.cps.size = z.cps.toList := List.take_of_length_le (by simp)
    rw [e]
    exact hd
end Sw
namespace KW
open PySem PySem.Spec PyProof.Rows L2 He Sw
section
variable {P : Program} {w : World} {K : PySem.W.Frag} {mg : Str → Option Value} {base : Heap}
abbrev LET : Str := "abcdefghijklmnopqrstuvwxyz"
/-- a text of small letters alone -/
def low (z : Str) : Bool := z.cps.toList.all fun c => decide (c ∈ LET.cps.toList)
def isNmS (z : Str) : Bool := decide ((1 : Int) ≤ (z.length : Nat)) && (decide (((z.length : Nat) : Int) ≤ 8) && (!inV (.str z) (noNames.map V.str) && low z))
def isNm : V → Bool
  | .str z => isNmS z
  | _ => false
def spIsName : Sp := fun vs H Q _ => ∃ (v : V) (n : String), vs = [v] ∧ Th H v n ∧ ∀ H', Same H H' → Q (.bl (isNm v)) H'
theorem scIsName : FnScope ["thing", "letter"] ["thing"] (defScope sIsName) := ⟨rfl, rfl, rfl, by decide +kernel, rfl, by decide +kernel, by decide +kernel⟩
theorem noN_flat : (noNames.map V.str).all flatV = true := rfl
theorem ok_isName {fd : FuncData} (T : Txt K mg) (F : FnG K "is_name" sIsName fd) : FnOk P w K mg base CX0 1 (ga K "is_name") fd ["thing"] spIsName := by
  refine F.ok scIsName (fun vs H Q E h => ?_) (fun cdv A outer s H vs Q E hr h => ?_)
  · obtain ⟨v, n, rfl, _⟩ := h
    rfl
  obtain ⟨v, n, rfl, t, k⟩ := h
  obtain ⟨tL, hL⟩ := T.let_
  obtain ⟨t8, h8⟩ := T.mLet
  have nd := scIsName.nd
  refine ⟨_, PSs.nox (pss_cons (ps_if (PW.pt (pw_or (pt_not (pt_val (pe_callB call_isi rfl (T.f "isinstance") (by decide +kernel) (pa_cons (pv 0) (pa_cons (pe_bltn (v := .ty "str") rfl (T.f "str") (by decide +kernel) rfl) pa_nil)))))
      (pw_or1 (pt_not (pt_chain op_le op_le pe_int (pe_callB call_len_str rfl (T.f "len") (by decide +kernel) (pa_cons (pv 0) pa_nil)) (pe_glob (v := .int 8) rfl h8 ⟨_, rfl⟩))))))
      (pss_one (ps_ret pe_bl)) pss_nil)
    (pss_one (ps_ret (pe_and (pe_cmpR op_notIn_seq (pv 0) (pe_glob (v := .ref (ga K "NO_NAMES")) rfl (T.g "NO_NAMES") rfl) rfl)
      (pe_one (pe_callB (cr_all rfl) rfl (T.f "all") (by decide +kernel) (pa_cons (pe_lc (own := [("letter", 1)]) (g := gName 1) (tt := tYes) rfl nd (pi_str (pv 0))
        (blkOk_by (N := ["thing", "letter"]) (sc := defScope sIsName) (by decide +kernel)) (fun _ _ _ _ _ => pg_name (i := 1) nd rfl (Or.inl rfl)) (fun _ _ _ _ _ => pts_nil)
        (fun _ _ _ _ _ => pe_cmpR op_in_sign (pv 1) (pe_glob (v := .str LET) rfl hL ⟨_, rfl⟩) rfl)) pa_nil))))))), ?_⟩
  refine ⟨_, rfl, v, .ty "str", .type n, .type "str", _, rfl, .ty _, t.ty, t.kStr, _, rfl, ?_⟩
  refine ite2 (fun h => ?_) (fun h => ?_)
  · -- no text
    refine ite2 (fun _ => ?_) (fun h2 => absurd rfl h2)
    have e : isNm v = false := by cases t <;> first | rfl | cases h
    have q := k H (Same.refl H)
    rw [e] at q
    exact q
  · obtain ⟨z, rfl, hz⟩ : ∃ z, v = V.str z ∧ z.length ≤ 100 := by
      cases t <;> first | exact absurd rfl h | skip
      rename_i z hz
      exact ⟨z, rfl, hz⟩
    refine ⟨_, rfl, z, rfl, (by rw [sizeLine_eq]; omega), _, _, rfl, rfl, _, rfl, ?_⟩
    have fin : ∀ (b : Bool), b = isNmS z → ∀ H', Same H H' → Q (.bl b) H' := fun b e H' s => by
      rw [e]
      exact k H' s
    have back : ∀ h1 : ¬ ((decide ((1 : Int) ≤ (z.length : Nat)) && decide (((z.length : Nat) : Int) ≤ 8)) = true), isNmS z = false := fun h1 => by
      unfold isNmS
      rw [← Bool.and_assoc, Bool.eq_false_iff.mpr h1, Bool.false_and]
    -- 1 <= len(thing) <= MOST_LETTERS
    have rest : (decide ((1 : Int) ≤ (z.length : Nat)) && decide (((z.length : Nat) : Int) ≤ 8)) = true → tAndV (tOp (rIn K true) (tVar 0) (tC (V.ref (ga K "NO_NAMES")))) (tCB (rAll K) (tCons (tLc (iStr (tVar 0)) (gName 1) tYes
        (tOp (fun x y H Q => ∃ c z, x = V.str { cps := #[c] } ∧ y = V.str z ∧ Q (V.bl (decide (c ∈ z.cps.toList))) H) (tVar 1) (tC (V.str LET))) [1]) tNil)) (L2.start ["thing", "letter"] [V.str z]) H Q := fun h1 => by
      have e1 : isNmS z = (!inV (.str z) (noNames.map V.str) && low z) := by
        unfold isNmS
        rw [← Bool.and_assoc, h1, Bool.true_and]
      refine ⟨_, rfl, _, _, rfl, .inr (T.noN H), rfl, noN_flat, _, rfl, ?_⟩
      refine ite2 (fun h2 => ?_) (fun h2 => ?_)
      · refine ⟨_, rfl, z, rfl, fun D hD => ?_⟩
        refine lc_mapS (f := fun c => V.bl (decide (c ∈ LET.cps.toList))) (by omega) (fun c H Q q => ⟨_, rfl, c, _, rfl, rfl, q⟩) ?_
        refine ⟨D, z.cps.toList.map fun c => decide (c ∈ LET.cps.toList), rfl, .inl (.inl ?_), ?_⟩
        · rw [upd_same, List.map_map]
          rfl
        · refine fin _ ?_ _ fun b o e => by rw [upd_ne (ne_of_none e hD)]; exact e
          rw [e1, show (!inV (.str z) (noNames.map V.str)) = true from h2, Bool.true_and, List.all_map]
          rfl
      · refine fin false ?_ H (Same.refl H)
        rw [e1, show (!inV (.str z) (noNames.map V.str)) = false from Bool.eq_false_iff.mpr h2, Bool.false_and]
    refine ite2 (fun h1 => ?_) (fun h1 => ?_)
    · refine ⟨_, _, rfl, rfl, _, rfl, ?_⟩
      refine ite2 (fun h2 => ?_) (fun h2 => ?_)
      · refine fin false (back fun y => ?_).symm H (Same.refl H)
        have y2 := (Bool.and_eq_true_iff.mp y).2
        rw [y2] at h2
        cases h2
      · refine rest ?_
        have h2' : decide (((z.length : Nat) : Int) ≤ 8) = true := by
          cases e : decide (((z.length : Nat) : Int) ≤ 8) with
          | true => rfl
          | false => exact absurd (by show (!decide (((z.length : Nat) : Int) ≤ 8)) = true; rw [e]; rfl) h2
        rw [h1, h2']
        rfl
    · refine ⟨_, rfl, ?_⟩
      refine ite2 (fun h2 => ?_) (fun h2 => absurd rfl h2)
      refine fin false (back fun y => h1 (Bool.and_eq_true_iff.mp y).1).symm H (Same.refl H)
end
end KW
set_option Elab.async false
set_option linter.all false
set_option maxRecDepth 100000
set_option maxHeartbeats 4000000
namespace KW
open PySem PySem.Spec PyProof.Rows L2 He Sw
section
variable {P : Program} {w : World} {K : PySem.W.Frag} {mg : Str → Option Value} {base : Heap}
def GoodN (z : Str) : Prop := isNmS z = true ∧ z.length ≤ 100
/-! ### check_name -/
def spCkName : Sp := fun vs H Q _ => ∃ (z : Str), vs = [.str z] ∧ GoodN z ∧ ∀ H', Same H H' → Q .non H'
theorem scCkName : FnScope ["thing"] ["thing"] (defScope sCkName) := ⟨rfl, rfl, rfl, by decide +kernel, rfl, by decide +kernel, by decide +kernel⟩
theorem ok_ckName {fd fdN : FuncData} (T : Txt K mg) (F : FnG K "check_name" sCkName fd) (FN : FnG K "is_name" sIsName fdN) : FnOk P w K mg base CX0 2 (ga K "check_name") fd ["thing"] spCkName := by
  have GN : FnOk P w K mg base CX0 1 (ga K "is_name") fdN ["thing"] spIsName := ok_isName T FN
  have bN : Binds K fdN ["thing"] [] := FN.bindsN fun _ _ _ _ _ _ us hl => match us, hl with | [_], _ => rfl
  refine F.ok scCkName (fun vs H Q E h => ?_) (fun cdv A outer s H vs Q E hr h => ?_)
  · obtain ⟨z, rfl, _⟩ := h
    rfl
  obtain ⟨z, rfl, g, k⟩ := h
  refine ⟨_, PSs.nox (pss_one (ps_if (pt_not (pt_val (pe_call GN hr rfl (T.g "is_name") FN.kp bN .nil pass0 (pa_cons (pv 0) pa_nil)))) (pss_one ps_never) pss_nil)), ?_⟩
  refine ⟨_, rfl, .str z, _, rfl, .str z g.2, fun H' s' => ⟨_, rfl, ?_⟩⟩
  refine ite2 (fun h => ?_) (fun _ => k H' s')
  have h : (!isNmS z) = true := h
  rw [g.1] at h
  cases h
/-! ### Formula.__init__ -/
def flds (kd th : V) (p d : Nat) : List (Str × V) := putF "depth" (.int d) (putF "parts" (.int p) (putF "things" th (putF "kind" kd [])))
/-- all but the object at a is as it was -/
def SameBut (a : Addr) (H H' : Hp) : Prop := ∀ b o, b ≠ a → H b = some o → H' b = some o
/-- a formula: where it stands, its depth, parts, indexes, class, kind and things -/
structure Kd where
  a : Addr
  d : Nat
  p : Nat
  ix : List Str
  C : Str
  kd : Str
  th : List V
def sumP (ks : List Kd) : Nat := (ks.map (·.p)).sum
def maxD : List Kd → Nat
  | [] => 0
  | k :: ks => max k.d (maxD ks)
def KidAt (K : PySem.W.Frag) (H : Hp) (k : Kd) : Prop := ∃ (dx t : Addr), k.C ∈ clsL ∧ H k.a = some (.ins (ga K k.C) dx (flds (.str k.kd) (.ref t) k.p k.d)) ∧ H t = some (.tup k.th)
theorem KidAt.same {H H' : Hp} {k : Kd} (h : KidAt K H k) (s : Same H H') : KidAt K H' k := by
  obtain ⟨dx, t, I, e, e2⟩ := h
  exact ⟨dx, t, I, s _ _ e, s _ _ e2⟩
def refs (ks : List Kd) : List V := ks.map fun k => V.ref k.a
def Fits (ks : List Kd) : Prop := 1 + sumP ks ≤ 300 ∧ 1 + maxD ks ≤ 40
def spForm (K : PySem.W.Frag) : Sp := fun vs H Q _ => ∃ (a C dx e : Addr) (kd th : V) (ks : List Kd), vs = [.ref a, kd, th, .ref e] ∧ H a = some (.ins C dx []) ∧ InsT K C ∧ H e = some (.tup (refs ks)) ∧ (∀ k ∈ ks, KidAt K H k) ∧ ks.length ≤ 10 ∧ Fits ks ∧
  ∀ H', SameBut a H H' → H' a = some (.ins C dx (flds kd th (1 + sumP ks) (1 + maxD ks))) → Q .non H'
theorem scForm : FnScope ["self", "kind", "things", "inner", "parts", "depth", "one"] ["self", "kind", "things", "inner"] (defScope sForm) := ⟨rfl, rfl, rfl, by decide +kernel, rfl, by decide +kernel, by decide +kernel⟩
/-- [one.f for one in inner] -/
theorem lc_kids {ks : List Kd} {f : Str} {g : Kd → Nat} {i : Nat} {e : Addr} {H D : _} {σ : L2.St} {Qd : Hp → Prop} (T : Txt K mg) (he : H e = some (.tup (refs ks))) (hk : ∀ k ∈ ks, KidAt K H k) (hl : ks.length ≤ 10) (hD : H D = none) (hf : f ∈ fldL)
    (hg : ∀ kd th (k : Kd), (flds kd th k.p k.d).lookup f = some (.int (g k))) (hi : ∀ v : V, ((wipe σ [i]).set i (some v))[i]? = some (some v)) (hw : ∀ v : V, wipe ((wipe σ [i]).set i (some v)) [i] = wipe σ [i]) (hd : ∀ H', H' D = some (.lst ((ks.map fun k => ((g k : Nat) : Int)).map V.int)) → Same H H' → Qd H') :
    ∃ W : Nat → Nat → Hp → Prop, (∃ m, W 0 m (upd H D (.lst []))) ∧ ∀ j m H, W j m H →
      ((Itt K e).stop j H ∧ Qd H) ∨ ((Itt K e).go j H ∧ ∃ Nx : Hp → Prop, (∀ H', Nx H' → ∃ m', m' < m ∧ W (j + 1) m' H') ∧ ∀ x H', (Itt K e).yld j H x H' → gName i x (wipe σ [i]) H' fun σ2 H2 => wipe σ2 [i] = wipe σ [i] ∧ tYes σ2 H2 fun b H3 =>
        if b = true then tFld K (tVar i) f σ2 H3 fun y H4 => ∃ acc, H4 D = some (.lst acc) ∧ acc.length < sizeLine ∧ Nx (upd H4 D (.lst (acc ++ [y]))) else Nx H3) := by
  have updd : ∀ (o o' : HO), upd (upd H D o) D o' = upd H D o' := fun o o' => by
    funext b
    by_cases hb : b = D
    · rw [hb, upd_same, upd_same]
    · rw [upd_ne hb, upd_ne hb, upd_ne hb]
  have up : ∀ {o}, Same H (upd H D o) := fun {o} b u e => by rw [upd_ne (ne_of_none e hD)]; exact e
  refine lc_tup (K := K) (a := e) (xs := refs ks) (fun j H' => H' = upd H D (.lst ((ks.take j).map fun k => .int (g k)))) (by simp) (fun j H' _ eH => by rw [eH]; exact SqT.of (up _ _ he)) (fun j x H' hx eH => ?_) (fun H' eH => ?_)
  · subst eH
    obtain ⟨k, hkj, rfl⟩ : ∃ k, ks[j]? = some k ∧ V.ref k.a = x := by
      unfold refs at hx
      rw [List.getElem?_map] at hx
      cases h : ks[j]? with
      | none => rw [h] at hx; cases hx
      | some k => rw [h] at hx; exact ⟨k, rfl, by injection hx⟩
    obtain ⟨dx, t, hC, ek, _⟩ := hk k (List.mem_of_getElem? hkj)
    have I := T.ins _ hC
    refine ⟨hw _, ?_⟩
    refine ⟨_, hi _, k.a, _, dx, _, _, rfl, up _ _ ek, I.cl, I.no f hf, hg _ _ k, _, upd_same, ?_, ?_⟩
    · rw [List.length_map, List.length_take, sizeLine_eq]
      omega
    · show upd (upd H D _) D _ = _
      rw [updd, List.take_add_one, hkj]
      simp
  · subst eH
    have e2 : ks.take (refs ks).length = ks := List.take_of_length_le (by simp [refs])
    rw [e2]
    exact hd _ (by rw [upd_same, List.map_map]; rfl) up
theorem maxD_ge : ∀ {ks : List Kd} {k : Kd}, k ∈ ks → k.d ≤ maxD ks
  | q :: qs, k, h => by
    rcases List.mem_cons.mp h with rfl | h
    · exact Nat.le_max_left _ _
    · exact Nat.le_trans (maxD_ge h) (Nat.le_max_right _ _)
theorem maxD_mem : ∀ {ks : List Kd}, ks ≠ [] → ∃ k ∈ ks, k.d = maxD ks
  | [q], _ => ⟨q, List.mem_cons_self, by show q.d = max q.d 0; omega⟩
  | q :: r :: qs, _ => by
    obtain ⟨k, hk, e⟩ := maxD_mem (ks := r :: qs) (by simp)
    by_cases h : maxD (r :: qs) ≤ q.d
    · exact ⟨q, List.mem_cons_self, by show q.d = max q.d (maxD (r :: qs)); omega⟩
    · exact ⟨k, List.mem_cons_of_mem _ hk, by show k.d = max q.d (maxD (r :: qs)); omega⟩
theorem sum_int : ∀ ks : List Kd, (ks.map fun k => (k.p : Int)).sum = (sumP ks : Nat)
  | [] => rfl
  | k :: ks => by
    have e := sum_int ks
    show (k.p : Int) + (ks.map fun k => (k.p : Int)).sum = ((k.p + sumP ks : Nat) : Int)
    omega
theorem max_kids {ks : List Kd} {G : Int → Prop} (q : G (maxD ks : Nat)) : (∀ m, m ∈ (ks.map fun k => (k.d : Int)) → (∀ y, y ∈ (ks.map fun k => (k.d : Int)) → y ≤ m) → G m) ∧ ((ks.map fun k => (k.d : Int)) = [] → G 0) := by
  refine ⟨fun m hm hy => ?_, fun h => ?_⟩
  · obtain ⟨k, hk, rfl⟩ := List.mem_map.mp hm
    have h1 := maxD_ge hk
    obtain ⟨k', hk', e'⟩ := maxD_mem (ks := ks) (fun z => by rw [z] at hk; cases hk)
    have h2 := hy _ (List.mem_map.mpr ⟨k', hk', rfl⟩)
    have e3 : k.d = maxD ks := by omega
    rw [e3]
    exact q
  · have e0 : ks = [] := List.map_eq_nil_iff.mp h
    subst e0
    exact q
theorem ok_form {fd : FuncData} (T : Txt K mg) (F : FnM K "Formula" "Formula.__init__" sForm [] fd) :
    FnOk P w K mg base CX0 1 (ma K (ga K "Formula") "__init__") fd ["self", "kind", "things", "inner"] (spForm K) := by
  refine F.ok scForm (fun vs H Q E h => ?_) (fun cdv A outer s H vs Q E hr h => ?_)
  · obtain ⟨a, C, dx, e, kd, th, ks, rfl, _⟩ := h
    rfl
  obtain ⟨a, C, dx, e, kd, th, ks, rfl, ha, TC, he, hk, hl, fit, k1⟩ := h
  obtain ⟨tP, hP⟩ := T.mPar
  obtain ⟨tD, hD⟩ := T.mDep
  have nd := scForm.nd
  refine ⟨_, PSs.nox (pss_cons (ps_set (i := 4) nd rfl (Or.inl rfl) (pe_op op_add pe_int (pe_callB (cr_sum rfl) rfl (T.f "sum") (by decide +kernel) (pa_cons (pe_lc (own := [("one", 6)]) (te := tFld K (tVar 6) "parts") (g := gName 6) (tt := tYes) rfl nd (pi_tup (pv 3))
        (blkOk_by (N := ["self", "kind", "things", "inner", "parts", "depth", "one"]) (sc := defScope sForm) (by decide +kernel)) (fun _ _ _ _ _ => pg_name (i := 6) nd rfl (Or.inl rfl)) (fun _ _ _ _ _ => pts_nil)
        (fun _ _ _ _ _ => pe_fld (pv 6) rfl)) pa_nil))))
    (pss_cons (ps_set (i := 5) nd rfl (Or.inl rfl) (pe_op op_add pe_int (pe_callBK (crk_max rfl) rfl (T.f "max") (by decide +kernel) (pa_cons (pe_lc (own := [("one", 6)]) (te := tFld K (tVar 6) "depth") (g := gName 6) (tt := tYes) rfl nd (pi_tup (pv 3))
        (blkOk_by (N := ["self", "kind", "things", "inner", "parts", "depth", "one"]) (sc := defScope sForm) (by decide +kernel)) (fun _ _ _ _ _ => pg_name (i := 6) nd rfl (Or.inl rfl)) (fun _ _ _ _ _ => pts_nil)
        (fun _ _ _ _ _ => pe_fld (pv 6) rfl)) pa_nil) (pk_cons pe_int pk_nil))))
    (pss_cons (ps_if (PW.pt (pw_or (pt_cmpR op_gt (pv 4) (pe_glob (v := .int 300) rfl hP ⟨_, rfl⟩) (nomark _)) (pw_or1 (pt_cmpR op_gt (pv 5) (pe_glob (v := .int 40) rfl hD ⟨_, rfl⟩) (nomark _)))))
      (pss_one ps_never) pss_nil)
    (pss_cons (ps_fld (pv 0) (pv 1) rfl) (pss_cons (ps_fld (pv 0) (pv 2) rfl) (pss_cons (ps_fld (pv 0) (pv 4) rfl) (pss_one (ps_fld (pv 0) (pv 5) rfl)))))))), ?_⟩
  have no : ∀ f ∈ fldL, NoAttr K C f := TC.no
  -- parts = 1 + sum([..])
  refine ⟨_, rfl, e, rfl, ⟨_, .inl (.inl he)⟩, fun D hDn => ?_⟩
  refine lc_kids T (g := fun k => k.p) he hk hl hDn (by decide +kernel) (fun _ _ _ => rfl) (fun _ => rfl) (fun _ => rfl) (fun H1 e1 s1 => ?_)
  refine ⟨D, ks.map fun k => (k.p : Int), rfl, SqL.of e1, _, _, rfl, rfl, ?_⟩
  rw [sum_int]
  -- depth = 1 + max([..], default=0)
  refine ⟨_, rfl, e, rfl, ⟨_, .inl (.inl (s1 _ _ he))⟩, fun D2 hD2 => ?_⟩
  refine lc_kids T (g := fun k => k.d) (s1 _ _ he) (fun k hk' => (hk k hk').same s1) hl hD2 (by decide +kernel) (fun _ _ _ => rfl) (fun _ => rfl) (fun _ => rfl) (fun H2 e2 s2 => ?_)
  have s02 := s1.trans s2
  refine ⟨D2, ks.map fun k => (k.d : Int), .int 0, rfl, rfl, SqL.of e2, And.symm (max_kids ?_)⟩
  refine ⟨_, _, rfl, rfl, ?_⟩
  have done : (1 + sumP ks ≤ 300 ∧ 1 + maxD ks ≤ 40) → ∀ H', SameBut a H H' → H' a = some (.ins C dx (putF "depth" (.int (1 + (maxD ks : Nat))) (putF "parts" (.int (1 + (sumP ks : Nat))) (putF "things" th (putF "kind" kd []))))) → Q .non H' := by
    intro g H' sb e'
    refine k1 H' sb ?_
    rw [e']
    unfold flds
    rw [Int.natCast_add, Int.natCast_add]
    rfl
  -- neither is too great
  refine ⟨_, rfl, _, _, rfl, rfl, _, rfl, ?_⟩
  refine ite2 (fun h => ?_) (fun h => ?_)
  · refine ite2 (fun _ => ?_) (fun h2 => absurd rfl h2)
    have h : (300 : Int) < 1 + (sumP ks : Nat) := of_decide_eq_true h
    exact absurd fit.1 (by omega)
  have h : ¬ ((300 : Int) < 1 + (sumP ks : Nat)) := fun z => h (decide_eq_true z)
  refine ⟨_, rfl, _, _, rfl, rfl, _, rfl, ?_⟩
  refine ite2 (fun h4 => ?_) (fun h4 => ?_)
  · have h4 : (40 : Int) < 1 + (maxD ks : Nat) := of_decide_eq_true h4
    exact absurd fit.2 (by omega)
  have h4 : ¬ ((40 : Int) < 1 + (maxD ks : Nat)) := fun z => h4 (decide_eq_true z)
  have ha2 := s02 _ _ ha
  -- the fields
  refine ⟨_, rfl, _, rfl, a, C, dx, _, rfl, ha2, TC.cl, no _ (by decide +kernel), (by show 0 < 1000; decide), ?_⟩
  refine ⟨_, rfl, _, rfl, a, C, dx, _, rfl, upd_same, TC.cl, no _ (by decide +kernel), (by show 1 < 1000; decide), ?_⟩
  refine ⟨_, rfl, _, rfl, a, C, dx, _, rfl, upd_same, TC.cl, no _ (by decide +kernel), (by show 2 < 1000; decide), ?_⟩
  refine ⟨_, rfl, _, rfl, a, C, dx, _, rfl, upd_same, TC.cl, no _ (by decide +kernel), (by show 3 < 1000; decide), ?_⟩
  refine done fit _ (fun b o hb q => ?_) upd_same
  rw [upd_ne hb, upd_ne hb, upd_ne hb, upd_ne hb]
  exact s02 _ _ q
end
end KW
set_option Elab.async false
set_option linter.all false
set_option maxRecDepth 100000
set_option maxHeartbeats 8000000
namespace KW
open PySem PySem.Spec PyProof.Rows L2 He Sw L2H
section
variable {P : Program} {w : World} {K : PySem.W.Frag} {mg : Str → Option Value} {base : Heap}
/-! ### the heap -/
theorem tsz {n : Nat} (h : n ≤ 1000000) : n ≤ sizeLine := by rw [sizeLine_eq]; omega
theorem tlt {n : Nat} (h : n < 1000000) : n < sizeLine := by rw [sizeLine_eq]; omega
theorem none_back {H H' : Hp} {d : Addr} (s : Same H H') (h : H' d = none) : H d = none := by
  cases e : H d with
  | none => rfl
  | some o => rw [s _ _ e] at h; cases h
theorem SameBut.of {a : Addr} {H H' : Hp} (x : Same H H') : SameBut a H H' := fun b o _ e => x b o e
theorem SameBut.trans {a : Addr} {H H1 H2 : Hp} (x : SameBut a H H1) (y : SameBut a H1 H2) : SameBut a H H2 := fun b o hb e => y b o hb (x b o hb e)
theorem SameBut.refl {a : Addr} {H : Hp} : SameBut a H H := fun _ _ _ e => e
theorem sameBut_upd {a : Addr} {H : Hp} {o : HO} : SameBut a H (upd H a o) := fun b u hb e => by rw [upd_ne hb]; exact e
theorem tup_but {H H' : Hp} {a C dx t : Addr} {fs : List (Str × V)} {xs : List V} (ha : H a = some (.ins C dx fs)) (s : SameBut a H H') (et : H t = some (.tup xs)) : H' t = some (.tup xs) := s _ _ (fun z => by
  rw [z, ha] at et
  cases et) et
theorem upd_new {H : Hp} {p : Addr} {o : HO} (hp : H p = none) : Same H (upd H p o) := fun b o q => by rw [upd_ne (ne_of_none q hp)]; exact q
theorem upd2 (G : Hp) (D : Addr) (o o' : HO) : upd (upd G D o) D o' = upd G D o' := by
  funext b
  by_cases hb : b = D
  · rw [hb, upd_same, upd_same]
  · rw [upd_ne hb, upd_ne hb, upd_ne hb]
/-! ### what lists do not touch -/
def SameT (H H' : Hp) : Prop := ∀ b o, H b = some o → (∀ xs, o ≠ .lst xs) → H' b = some o
theorem SameT.of {H H' : Hp} (s : Same H H') : SameT H H' := fun b o e _ => s b o e
theorem SameT.refl (H : Hp) : SameT H H := fun _ _ e _ => e
theorem SameT.trans {H H1 H2 : Hp} (x : SameT H H1) (y : SameT H1 H2) : SameT H H2 := fun b o e n => y b o (x b o e n) n
theorem SameT.but {H H' : Hp} {a : Addr} {xs : List V} (s : SameBut a H H') (ha : H a = some (.lst xs)) : SameT H H' := fun b o e n => s b o (fun z => by
  rw [z, ha] at e
  injection e with e
  exact n xs e.symm) e
theorem filt_pos {α : Type} {p : α → Bool} {l : List α} {z : α} (h : p z = true) : (l ++ [z]).filter p = l.filter p ++ [z] := by rw [List.filter_append, List.filter_cons_of_pos h]; rfl
theorem filt_neg {α : Type} {p : α → Bool} {l : List α} {z : α} (h : ¬ p z = true) : (l ++ [z]).filter p = l.filter p := by rw [List.filter_append, List.filter_cons_of_neg h]; simp
theorem take_at {α : Type} {l : List α} {i : Nat} {k : α} (h : l[i]? = some k) : l.take (i + 1) = l.take i ++ [k] := by rw [List.take_add_one, h]; rfl
theorem map_at {α : Type} {f : α → V} {l : List α} {i : Nat} {x : V} (h : (l.map f)[i]? = some x) : ∃ k, l[i]? = some k ∧ f k = x := by
  rw [List.getElem?_map] at h
  cases e : l[i]? with
  | none => rw [e] at h; cases h
  | some k => rw [e] at h; exact ⟨k, rfl, by injection h⟩
theorem pick_str {zs : List Str} {j : Nat} (h : j < zs.length) : ∃ z ∈ zs, (zs.map V.str)[j]? = some (V.str z) := ⟨zs[j], List.getElem_mem h, by rw [List.getElem?_map, List.getElem?_eq_getElem h]; rfl⟩
/-- [x for x in xs], texts, kept if p -/
theorem no_false {Pr : Prop} (h : false = true) : Pr := Bool.noConfusion h
theorem notr {b : Bool} (h : ¬ b = true) : b = false := Bool.eq_false_iff.mpr h
theorem flat_strs (zs : List Str) : (zs.map V.str).all flatV = true := by
  rw [List.all_eq_true]
  intro v hv
  obtain ⟨z, _, rfl⟩ := List.mem_map.mp hv
  rfl
theorem inV_strs (z : Str) : ∀ zs : List Str, inV (.str z) (zs.map V.str) = decide (z ∈ zs)
  | [] => rfl
  | y :: zs => by
    have h := inV_strs z zs
    have e : inV (.str z) ((y :: zs).map V.str) = (eqV (.str y) (.str z) || inV (.str z) (zs.map V.str)) := rfl
    have e2 : eqV (.str y) (.str z) = decide (z = y) := by
      show decide _ = _
      by_cases c : z = y
      · subst c
        simp
      · simp [c, Ne.symm c]
    rw [e, e2, h]
    by_cases c : z = y
    · simp [c]
    · simp [c]

end
end KW
set_option Elab.async false
set_option linter.all false
set_option maxRecDepth 100000
set_option maxHeartbeats 8000000
namespace KW
open PySem PySem.Spec PyProof.Rows L2 He Sw L2H
section
variable {P : Program} {w : World} {K : PySem.W.Frag} {mg : Str → Option Value} {base : Heap}
/-! ### draws -/
/-- at st: the script's copy and the three numbers of the draws -/
def StAt (H : Hp) (st : Addr) (ns : Addr × List Int) : Prop := ∃ (a b c : Int), H st = some (.lst [.ref ns.1, .int a, .int b, .int c]) ∧ H ns.1 = some (.lst (ns.2.map V.int)) ∧ 0 ≤ a ∧ 0 ≤ b ∧ b < 2147483647 ∧ 0 ≤ c
theorem StAt.put {H : Hp} {st l : Addr} {ns : List Int} {a b c a' b' c' : Int} (h1 : H st = some (.lst [.ref l, .int a, .int b, .int c])) (h2 : H l = some (.lst (ns.map V.int))) (ha : 0 ≤ a') (hb : 0 ≤ b') (hb2 : b' < 2147483647) (hc : 0 ≤ c') (hn : l ≠ st) :
    StAt (upd H st (.lst [.ref l, .int a', .int b', .int c'])) st (l, ns) := ⟨a', b', c', upd_same, by rw [upd_ne hn]; exact h2, ha, hb, hb2, hc⟩
theorem StAt.same {H H' : Hp} {st : Addr} {ns : Addr × List Int} (h : StAt H st ns) (s : Same H H') : StAt H' st ns := by
  obtain ⟨a, b, c, h1, h2, h3⟩ := h
  exact ⟨a, b, c, s _ _ h1, s _ _ h2, h3⟩
theorem st_ne {H : Hp} {st l : Addr} {ns : List Int} {a b c : Int} (h1 : H st = some (.lst [.ref l, .int a, .int b, .int c])) (h2 : H l = some (.lst (ns.map V.int))) : l ≠ st := fun z => by
  rw [z, h1] at h2
  cases ns with
  | nil => cases h2
  | cons n r => cases h2
def spDraw : Sp := fun vs H Q _ => ∃ (st : Addr) (many : Int) (ns : Addr × List Int), vs = [.ref st, .int many] ∧ 0 < many ∧ many ≤ 10 ^ 30 ∧ StAt H st ns ∧ ∀ r H', 0 ≤ r → r < many → StAt H' st ns → SameBut st H H' → Q (.int r) H'
theorem spDraw_len : ∀ vs H Q E, spDraw vs H Q E → vs.length = ["_law_state", "_law_many"].length := fun vs H Q E h => by
  obtain ⟨st, many, ns, rfl, _⟩ := h
  rfl
theorem scDraw : FnScope ["_law_state", "_law_many", "_law_drawn", "_law_cell", "_law_k", "_law_mixed"] ["_law_state", "_law_many"] (defScope sDraw) := ⟨rfl, rfl, rfl, by decide +kernel, rfl, by decide +kernel, by decide +kernel⟩
theorem wideMany {i many : Int} (h0 : 0 < many) (h1 : many ≤ 10 ^ 30) : CDivW i many := wide_div (b := 100) h0 (wide_le (by omega) h1 (by decide)) (by decide) (by decide)
theorem small64 {i : Int} (h0 : 0 ≤ i) (h1 : i < 2147483647) : -(2 ^ 64) < i ∧ i < 2 ^ 64 := ⟨by omega, by omega⟩
theorem ok_draw {fd : FuncData} (T : Txt K mg) (F : FnG K "_law_draw" sDraw fd) : FnOk P w K mg base CX0 1 (ga K "_law_draw") fd ["_law_state", "_law_many"] spDraw := by
  refine F.ok scDraw spDraw_len (fun cdv A outer s H vs Q E hr h => ?_)
  obtain ⟨st, many, ⟨l, ns⟩, rfl, m0, m1, ⟨a, b, c, h1, h2, a0, b0, b1, c0⟩, k⟩ := h
  dsimp only at h1 h2
  obtain ⟨cn, rfl⟩ := Int.eq_ofNat_of_zero_le c0
  have nd := scDraw.nd
  have nls := st_ne h1 h2
  refine ⟨_, PSs.nox (pss_cons (ps_if (pt_cmpR op_gt (pe_ix ix_list (pv 0) pe_int (fun _ _ => rfl)) pe_int (nomark _))
      (pss_cons (ps_set (i := 2) nd rfl (Or.inl rfl) (pe_op op_mod (pe_callTy call_int1 rfl (T.f "int") (by decide +kernel) (pa_cons (pe_ix ix_list (pv 0) pe_int (fun _ _ => rfl)) pa_nil)) (pv 1)))
      (pss_cons (ps_asg (pe_op op_fdivW (pe_ix ix_list (pv 0) pe_int (fun _ _ => rfl)) (pv 1)) (pg_sub (pv 0) pe_int set_list))
      (pss_one (ps_ret (pv 2))))) pss_nil)
    (pss_cons (ps_set (i := 3) nd rfl (Or.inl rfl) pe_int)
    (pss_cons (ps_set (i := 4) nd rfl (Or.inl rfl) (pe_ix ix_list (pv 0) pe_int (fun _ _ => rfl)))
    (pss_cons (ps_asg (pe_op op_add (pv 4) pe_int) (pg_sub (pv 0) pe_int set_list))
    (pss_cons (ps_if (pt_cmpR op_lt (pv 4) (pe_callB call_len_seq rfl (T.f "len") (by decide +kernel) (pa_cons (pe_ix ix_list (pv 0) pe_int (fun _ _ => rfl)) pa_nil)) (nomark _))
      (pss_cons (ps_set (i := 3) nd rfl (Or.inl rfl) (pe_callB call_abs rfl (T.f "abs") (by decide +kernel) (pa_cons (pe_ix ix_list (pe_ix ix_list (pv 0) pe_int (fun _ _ => rfl)) (pv 4) (fun _ _ => rfl)) pa_nil)))
      (pss_one (ps_if (pt_cmpR op_ge (pv 3) (pe_op op_pow pe_int pe_int) (nomark _))
        (pss_cons (ps_asg (pe_op op_fdivW (pv 3) (pv 1)) (pg_sub (pv 0) pe_int set_list))
        (pss_one (ps_ret (pe_op op_mod (pe_callTy call_int1 rfl (T.f "int") (by decide +kernel) (pa_cons (pv 3) pa_nil)) (pv 1))))) pss_nil))) pss_nil)
    (pss_cons (ps_asg (pe_op op_mod (pe_callTy call_int1 rfl (T.f "int") (by decide +kernel) (pa_cons (pe_op op_add (pe_op op_add (pe_op op_add (pe_op op_mul (pe_ix ix_list (pv 0) pe_int (fun _ _ => rfl)) pe_int) (pe_op op_mul (pv 3) pe_int))
        (pe_op op_mul pe_int (pv 4))) pe_int) pa_nil)) pe_int) (pg_sub (pv 0) pe_int set_list))
    (pss_cons (ps_set (i := 5) nd rfl (Or.inl rfl) (pe_op op_mod (pe_callTy call_int1 rfl (T.f "int") (by decide +kernel) (pa_cons (pe_op op_mul (pe_ix ix_list (pv 0) pe_int (fun _ _ => rfl))
        (pe_op op_add (pe_op op_fdiv (pe_ix ix_list (pv 0) pe_int (fun _ _ => rfl)) pe_int) pe_int)) pa_nil)) pe_int))
    (pss_cons (ps_set (i := 5) nd rfl (Or.inl rfl) (pe_op op_mod (pe_callTy call_int1 rfl (T.f "int") (by decide +kernel) (pa_cons (pe_op op_mul (pv 5) (pe_op op_add (pe_op op_fdiv (pv 5) pe_int) pe_int)) pa_nil)) pe_int))
    (pss_one (ps_ret (pe_op op_mod (pe_op op_fdiv (pv 5) pe_int) (pv 1)))))))))))), ?_⟩
  refine ⟨_, rfl, st, _, _, _, rfl, rfl, SqL.of h1, atI_nat (j := 1) rfl, _, _, rfl, rfl, _, rfl, ?_⟩
  refine ite2 (fun h => ?_) (fun h => ?_)
  · -- something is left of a great cell
    refine ⟨_, rfl, st, _, _, _, rfl, rfl, SqL.of h1, atI_nat (j := 1) rfl, .inl ⟨_, rfl, _, rfl, _, _, rfl, rfl, m0, ?_⟩⟩
    refine ⟨_, rfl, st, _, _, _, rfl, rfl, SqL.of h1, atI_nat (j := 1) rfl, _, rfl, _, _, rfl, rfl, wideMany m0 m1, _, rfl, st, _, _, 1, rfl, rfl, h1, rfl, ?_⟩
    refine ⟨_, rfl, ?_⟩
    exact k _ _ (Int.emod_nonneg _ (by omega)) (Int.emod_lt_of_pos _ m0) (StAt.put h1 h2 (Int.ediv_nonneg a0 (by omega)) b0 b1 c0 nls) sameBut_upd
  -- the next cell
  refine ⟨_, rfl, st, _, _, _, rfl, rfl, SqL.of h1, atI_nat (j := 3) rfl, ?_⟩
  refine ⟨_, rfl, _, _, rfl, rfl, _, rfl, st, _, _, 3, rfl, rfl, h1, rfl, ?_⟩
  generalize hH1 : upd H st _ = H1
  have S1 : H1 st = some (.lst [.ref l, .int a, .int b, .int ((cn : Int) + 1)]) := by rw [← hH1]; exact upd_same
  have L1 : H1 l = some (.lst (ns.map V.int)) := by rw [← hH1, upd_ne nls]; exact h2
  have B1 : SameBut st H H1 := by rw [← hH1]; exact sameBut_upd
  clear hH1
  refine ⟨_, rfl, _, rfl, st, _, _, _, rfl, rfl, SqL.of S1, atI_nat (j := 0) rfl, l, _, rfl, .inl (SqL.of L1), _, _, rfl, rfl, _, rfl, ?_⟩
  refine ite2 (fun hlt => ?_) (fun hlt => ?_)
  · have lt : cn < ns.length := by
      have q : (cn : Int) < ((ns.map V.int).length : Nat) := of_decide_eq_true hlt
      rw [List.length_map] at q
      omega
    have hx : (ns.map V.int)[cn]? = some (V.int ns[cn]) := by rw [List.getElem?_map, List.getElem?_eq_getElem lt]; rfl
    refine ⟨_, rfl, st, _, _, _, rfl, rfl, SqL.of S1, atI_nat (j := 0) rfl, _, rfl, l, _, _, _, rfl, rfl, SqL.of L1, atI_nat hx, _, rfl, ?_⟩
    refine ⟨_, rfl, _, _, rfl, rfl, ⟨by decide, by decide, by decide⟩, _, _, rfl, rfl, _, rfl, ?_⟩
    refine ite2 (fun hge => ?big) (fun _ => ?_)
    case big =>
      refine ⟨_, rfl, _, rfl, _, _, rfl, rfl, wideMany m0 m1, _, rfl, st, _, _, 1, rfl, rfl, S1, rfl, ?_⟩
      refine ⟨_, rfl, .inl ⟨_, rfl, _, rfl, _, _, rfl, rfl, m0, ?_⟩⟩
      refine k _ _ (Int.emod_nonneg _ (by omega)) (Int.emod_lt_of_pos _ m0) (StAt.put S1 L1 (Int.ediv_nonneg ?_ (by omega)) b0 b1 (by omega) nls) (B1.trans sameBut_upd)
      split <;> omega
    refine ⟨_, rfl, st, _, _, _, rfl, rfl, SqL.of S1, atI_nat (j := 2) rfl, _, _, rfl, rfl, .inl (small64 b0 b1), _, rfl, _, _, rfl, rfl, .inr ⟨by decide, by decide⟩, _, _, rfl, rfl, _, rfl, _, _, rfl, rfl, .inl ⟨by decide, by decide⟩, _, _, rfl, rfl, _, _, rfl, rfl,
      .inl ⟨_, rfl, _, _, rfl, rfl, (by decide : (0 : Int) < 2147483647), _, rfl, st, _, _, 2, rfl, rfl, S1, rfl, ?_⟩⟩
    generalize hH2 : upd H1 st _ = H2
    have S2 : ∃ b', H2 st = some (.lst [.ref l, .int a, .int b', .int ((cn : Int) + 1)]) ∧ 0 ≤ b' ∧ b' < 2147483647 :=
      ⟨_, by rw [← hH2]; exact upd_same, Int.emod_nonneg _ (by decide), Int.emod_lt_of_pos _ (by decide)⟩
    obtain ⟨b', S2, b0', b1'⟩ := S2
    have L2 : H2 l = some (.lst (ns.map V.int)) := by rw [← hH2, upd_ne nls]; exact L1
    have B2 : SameBut st H H2 := by rw [← hH2]; exact B1.trans sameBut_upd
    clear hH2
    refine ⟨_, rfl, st, _, _, _, rfl, rfl, SqL.of S2, atI_nat (j := 2) rfl, _, rfl, st, _, _, _, rfl, rfl, SqL.of S2, atI_nat (j := 2) rfl, _, _, rfl, rfl, ⟨by decide, by decide⟩, _, _, rfl, rfl, _, _, rfl, rfl, .inl (small64 b0' b1'),
      .inl ⟨_, rfl, _, _, rfl, rfl, (by decide : (0 : Int) < 2147483647), ?_⟩⟩
    refine ⟨_, rfl, _, rfl, _, _, rfl, rfl, ⟨by decide, by decide⟩, _, _, rfl, rfl, _, _, rfl, rfl, .inl (small64 (Int.emod_nonneg _ (by decide)) (Int.emod_lt_of_pos _ (by decide))), .inl ⟨_, rfl, _, _, rfl, rfl, (by decide : (0 : Int) < 2147483399), ?_⟩⟩
    refine ⟨_, rfl, _, _, rfl, rfl, ⟨by decide, by decide⟩, _, rfl, _, _, rfl, rfl, m0, ?_⟩
    exact k _ _ (Int.emod_nonneg _ (by omega)) (Int.emod_lt_of_pos _ m0) ⟨a, b', _, S2, L2, a0, b0', b1', by omega⟩ B2
  · refine ⟨_, rfl, st, _, _, _, rfl, rfl, SqL.of S1, atI_nat (j := 2) rfl, _, _, rfl, rfl, .inl (small64 b0 b1), _, rfl, _, _, rfl, rfl, .inr ⟨by decide, by decide⟩, _, _, rfl, rfl, _, rfl, _, _, rfl, rfl, .inl ⟨by decide, by decide⟩, _, _, rfl, rfl, _, _, rfl, rfl,
      .inl ⟨_, rfl, _, _, rfl, rfl, (by decide : (0 : Int) < 2147483647), _, rfl, st, _, _, 2, rfl, rfl, S1, rfl, ?_⟩⟩
    generalize hH2 : upd H1 st _ = H2
    have S2 : ∃ b', H2 st = some (.lst [.ref l, .int a, .int b', .int ((cn : Int) + 1)]) ∧ 0 ≤ b' ∧ b' < 2147483647 :=
      ⟨_, by rw [← hH2]; exact upd_same, Int.emod_nonneg _ (by decide), Int.emod_lt_of_pos _ (by decide)⟩
    obtain ⟨b', S2, b0', b1'⟩ := S2
    have L2 : H2 l = some (.lst (ns.map V.int)) := by rw [← hH2, upd_ne nls]; exact L1
    have B2 : SameBut st H H2 := by rw [← hH2]; exact B1.trans sameBut_upd
    clear hH2
    refine ⟨_, rfl, st, _, _, _, rfl, rfl, SqL.of S2, atI_nat (j := 2) rfl, _, rfl, st, _, _, _, rfl, rfl, SqL.of S2, atI_nat (j := 2) rfl, _, _, rfl, rfl, ⟨by decide, by decide⟩, _, _, rfl, rfl, _, _, rfl, rfl, .inl (small64 b0' b1'),
      .inl ⟨_, rfl, _, _, rfl, rfl, (by decide : (0 : Int) < 2147483647), ?_⟩⟩
    refine ⟨_, rfl, _, rfl, _, _, rfl, rfl, ⟨by decide, by decide⟩, _, _, rfl, rfl, _, _, rfl, rfl, .inl (small64 (Int.emod_nonneg _ (by decide)) (Int.emod_lt_of_pos _ (by decide))), .inl ⟨_, rfl, _, _, rfl, rfl, (by decide : (0 : Int) < 2147483399), ?_⟩⟩
    refine ⟨_, rfl, _, _, rfl, rfl, ⟨by decide, by decide⟩, _, rfl, _, _, rfl, rfl, m0, ?_⟩
    exact k _ _ (Int.emod_nonneg _ (by omega)) (Int.emod_lt_of_pos _ m0) ⟨a, b', _, S2, L2, a0, b0', b1', by omega⟩ B2
theorem c_draw (T : Txt K mg) : Cal P w K mg base CX0 1 (ga K "_law_draw") ["_law_state", "_law_many"] spDraw := by
  obtain ⟨fd, F⟩ := T.f__law_draw
  exact ⟨fd, ok_draw T F, F.kp, F.bindsN fun _ _ _ _ _ _ us hl => match us, hl with | [_, _], _ => rfl⟩
theorem StAt.hd {H : Hp} {st : Addr} {ns : Addr × List Int} (S : StAt H st ns) : ∃ xs, H st = some (.lst (.ref ns.1 :: xs)) := by
  obtain ⟨_, _, _, h1, _⟩ := S
  exact ⟨_, h1⟩
theorem StAt.ne_new {H : Hp} {st p : Addr} {ns : Addr × List Int} (S : StAt H st ns) (hp : H p = none) : p ≠ st := fun z => by
  obtain ⟨_, _, _, g1, _⟩ := S
  rw [z, g1] at hp
  cases hp
theorem StAt.ne_tup {H : Hp} {st p : Addr} {ns : Addr × List Int} {xs : List V} (S : StAt H st ns) (hp : H p = some (.tup xs)) : p ≠ st := fun z => by
  obtain ⟨_, _, _, g1, _⟩ := S
  rw [z, g1] at hp
  cases hp
theorem strs_st {H : Hp} {st a : Addr} {ns : Addr × List Int} {zs : List Str} (S : StAt H st ns) (h : H a = some (.lst (zs.map V.str))) : a ≠ st := fun z => by
  obtain ⟨_, _, _, g1, _⟩ := S
  rw [z, g1] at h
  cases zs with
  | nil => cases h
  | cons y ys => cases h
theorem StAt.go {H H' : Hp} {st : Addr} {ns : Addr × List Int} (S : StAt H st ns) (B : SameBut st H H') : SameT H H' := by
  obtain ⟨_, e⟩ := S.hd
  exact SameT.but B e

end
end KW
set_option Elab.async false
set_option linter.all false
set_option maxRecDepth 100000
set_option maxHeartbeats 8000000
namespace KW
open PySem PySem.Spec PyProof.Rows L2 He Sw L2H
section
variable {P : Program} {w : World} {K : PySem.W.Frag} {mg : Str → Option Value} {base : Heap}
abbrev DrawOk (P : Program) (w : World) (K : PySem.W.Frag) (mg : Str → Option Value) (base : Heap) (fdD : FuncData) : Prop := FnOk P w K mg base CX0 1 (ga K "_law_draw") fdD ["_law_state", "_law_many"] spDraw
theorem StAt.new {H H' : Hp} {st O : Addr} {ns : Addr × List Int} {xs : List V} (h : StAt H' st ns) (h0 : StAt H st ns) (hO : H O = none) : StAt (upd H' O (.lst xs)) st ns := by
  obtain ⟨a, b, c, h1, h2, h3⟩ := h
  obtain ⟨_, _, _, g1, g2, _⟩ := h0
  exact ⟨a, b, c, by rw [upd_ne (ne_of_none g1 hO)]; exact h1, by rw [upd_ne (ne_of_none g2 hO)]; exact h2, h3⟩
theorem SameBut.new {H H' : Hp} {st O : Addr} {o : HO} (h : SameBut st H H') (hO : H O = none) : SameBut st H (upd H' O o) := fun b u hb e => by rw [upd_ne (ne_of_none e hO)]; exact h b u hb e
theorem SameBut.none {H H' : Hp} {st O : Addr} {ns : Addr × List Int} (h : SameBut st H H') (S : StAt H st ns) (S' : StAt H' st ns) (hO : H' O = none) : H O = none := by
  cases e : H O with
  | none => rfl
  | some o =>
    by_cases z : O = st
    · obtain ⟨_, _, _, g1, _⟩ := S'
      rw [z, g1] at hO
      cases hO
    · rw [h O o z e] at hO
      cases hO
/-! ### _law_large -/
theorem scLarge : FnScope ["_law_state", "_law_many", "_law_number", "_law_k"] ["_law_state", "_law_many"] (defScope sLarge) := ⟨rfl, rfl, rfl, by decide +kernel, rfl, by decide +kernel, by decide +kernel⟩
theorem ok_large {fd fdD : FuncData} (T : Txt K mg) (F : FnG K "_law_large" sLarge fd) (FD : FnG K "_law_draw" sDraw fdD) : FnOk P w K mg base CX0 2 (ga K "_law_large") fd ["_law_state", "_law_many"] spDraw := by
  have GD : DrawOk P w K mg base fdD := ok_draw T FD
  have bD : Binds K fdD ["_law_state", "_law_many"] [] := FD.bindsN fun _ _ _ _ _ _ us hl => match us, hl with | [_, _], _ => rfl
  refine F.ok scLarge spDraw_len (fun cdv A outer s H vs Q E hr h => ?_)
  obtain ⟨st, many, ns, rfl, m0, m1, S, k⟩ := h
  have nd := scLarge.nd
  refine ⟨_, PSs.nox (pss_cons (ps_if (pt_cmpR op_ge (pe_ix ix_list (pv 0) pe_int (fun _ _ => rfl)) (pv 1) (nomark _))
      (pss_one (ps_ret (pe_call GD hr rfl (T.g "_law_draw") FD.kp bD .nil pass0 (pa_cons (pv 0) (pa_cons (pv 1) pa_nil))))) pss_nil)
    (pss_cons (ps_set (i := 2) nd rfl (Or.inl rfl) pe_int)
    (pss_cons (ps_for PassesOwn.never rfl (pi_range1 rfl (T.f "range") (pa_cons pe_int pa_nil)) (pg_name (i := 3) nd rfl (Or.inl rfl))
      (pss_one (ps_set (i := 2) nd rfl (Or.inl rfl) (pe_op op_add (pe_op op_mul (pv 2) pe_int) (pe_call GD hr rfl (T.g "_law_draw") FD.kp bD .nil pass0 (pa_cons (pv 0) (pa_cons pe_int pa_nil)))))))
    (pss_one (ps_ret (pe_op op_mod (pe_callTy call_int1 rfl (T.f "int") (by decide +kernel) (pa_cons (pv 2) pa_nil)) (pv 1))))))), ?_⟩
  obtain ⟨a, b, c, h1, h2, a0, b0, b1, c0⟩ := id S
  refine ⟨_, rfl, st, _, _, _, rfl, rfl, SqL.of h1, atI_nat (j := 1) rfl, _, rfl, _, _, rfl, rfl, _, rfl, ?_⟩
  refine ite2 (fun h => ?_) (fun h => ?_)
  · exact ⟨_, rfl, _, rfl, st, many, ns, rfl, m0, m1, S, k⟩
  refine ⟨7, rfl, by decide, by decide, for_range (lo := 0) (n := 7) (fun _ σ H' => ∃ (x : Int) (kv : Option V), σ = [some (.ref st), some (.int many), some (.int x), kv] ∧ StAt H' st ns ∧ SameBut st H H') ⟨0, none, rfl, S, SameBut.refl⟩ ?_ ?_⟩
  · rintro i σ H' hi ⟨x, kv, rfl, S', B'⟩
    refine ⟨_, rfl, _, _, rfl, rfl, .inr ⟨by decide, by decide⟩, _, rfl, st, 99991, ns, rfl, by decide, by decide, S', fun r H2 r0 r1 S2 B2 => ?_⟩
    exact ⟨_, _, rfl, rfl, _, _, rfl, S2, B'.trans B2⟩
  · rintro σ H' ⟨x, kv, rfl, S', B'⟩
    exact ⟨_, rfl, .inl ⟨_, rfl, _, rfl, _, _, rfl, rfl, m0, k _ _ (Int.emod_nonneg _ (by omega)) (Int.emod_lt_of_pos _ m0) S' B'⟩⟩

end
/-! ### words as lists of signs -/
def mk (l : List Nat) : Str := ⟨l.toArray⟩
theorem mk_add (a b : List Nat) : mk a ++ mk b = mk (a ++ b) := by
  show (⟨a.toArray ++ b.toArray⟩ : Str) = ⟨(a ++ b).toArray⟩
  simp
theorem mk_len (l : List Nat) : (mk l).length = l.length := by
  show l.toArray.size = _
  simp
theorem mk_inj {a b : List Nat} (h : mk a = mk b) : a = b := by
  have e : a.toArray = b.toArray := congrArg Str.cps h
  simpa using e
def Lo (l : List Nat) : Prop := ∀ x ∈ l, 97 ≤ x ∧ x < 123
theorem LET_ix : ∀ j : _root_.Fin 26, LET.cps[j.val]? = some (97 + j.val) := by decide +kernel
theorem LET_find : ∀ j : _root_.Fin 26, Txt.find LET ⟨#[97 + j.val]⟩ = (j.val : Int) := by decide +kernel
theorem LET_mem : ∀ j : _root_.Fin 26, 97 + j.val ∈ LET.cps.toList := by decide +kernel
theorem LET_len : LET.length = 26 := by decide +kernel
theorem low_mk {l : List Nat} (h : Lo l) : low (mk l) = true := by
  unfold low
  show (l.toArray.toList.all fun c => decide (c ∈ LET.cps.toList)) = true
  rw [List.all_eq_true]
  intro c hc
  have hc : c ∈ l := by simpa using hc
  obtain ⟨h1, h2⟩ := h c hc
  have e := LET_mem ⟨c - 97, by omega⟩
  have e2 : 97 + (c - 97) = c := by omega
  exact decide_eq_true (by rw [← e2]; exact e)
theorem good_mk {l : List Nat} (h : Lo l) (h1 : 1 ≤ l.length) (h8 : l.length ≤ 8) (hn : mk l ∉ noNames) : isNmS (mk l) = true := by
  unfold isNmS
  rw [mk_len, inV_strs, decide_eq_false hn, low_mk h, decide_eq_true (by omega : (1 : Int) ≤ (l.length : Nat)), decide_eq_true (by omega : ((l.length : Nat) : Int) ≤ 8)]
  rfl
/-- no more of them than places -/
theorem pig : ∀ (L B : List Str), L.Nodup → (∀ x ∈ L, x ∈ B) → L.length ≤ B.length
  | [], B, _, _ => Nat.zero_le _
  | x :: xs, B, hn, h => by
    have hx := h x List.mem_cons_self
    have hn' := List.nodup_cons.mp hn
    have r := pig xs (B.erase x) hn'.2 fun y hy => (List.mem_erase_of_ne (fun z => hn'.1 (by rw [← z]; exact hy))).mpr (h y (List.mem_cons_of_mem _ hy))
    have e := List.length_erase_of_mem hx
    have p := List.length_pos_of_mem hx
    show xs.length + 1 ≤ B.length
    omega
def turned (w : List Nat) (c j : Nat) : Str := mk (w ++ [97 + (c + j) % 26])
theorem turned_nodup (w : List Nat) (c : Nat) : ((List.range 26).map (turned w c)).Nodup := by
  unfold List.Nodup
  rw [List.pairwise_map]
  refine (List.pairwise_lt_range (n := 26)).imp_of_mem fun {a b} ha hb hlt e => ?_
  have ha := List.mem_range.mp ha
  have hb := List.mem_range.mp hb
  have e2 := mk_inj e
  have e3 : 97 + (c + a) % 26 = 97 + (c + b) % 26 := by simpa using e2
  omega
/-- not all the 26 can be barred -/
theorem some_free {w : List Nat} {c : Nat} {B : List Str} (hB : B.length ≤ 20) (h : ∀ j, j < 26 → turned w c j ∈ B) : False := by
  have r := pig _ B (turned_nodup w c) fun x hx => by
    obtain ⟨j, hj, rfl⟩ := List.mem_map.mp hx
    exact h j (List.mem_range.mp hj)
  rw [List.length_map, List.length_range] at r
  omega
theorem cut_last (w : List Nat) (x : Nat) : cutS (mk (w ++ [x])) none (some (-1)) = mk w := by
  unfold cutS
  have e1 : HT.sIx (mk (w ++ [x])).length 0 none = 0 := rfl
  have e2 : HT.sIx (mk (w ++ [x])).length (mk (w ++ [x])).length (some (-1)) = w.length := by
    rw [mk_len]
    show (if (-1 : Int) < 0 then ((-1 : Int) + ((w ++ [x]).length : Int)).toNat else min (-1 : Int).toNat (w ++ [x]).length) = _
    rw [if_pos (by decide), List.length_append]
    show ((-1 : Int) + ((w.length + 1 : Nat) : Int)).toNat = _
    omega
  rw [e1, e2]
  show (⟨(((w ++ [x]).toArray.toList.drop 0).take (w.length - 0)).toArray⟩ : Str) = ⟨w.toArray⟩
  simp
theorem at_last (w : List Nat) (x : Nat) : atI (mk (w ++ [x])).cps.toList (-1) = some x := by
  unfold atI ixN
  have e : (mk (w ++ [x])).cps.toList = w ++ [x] := by show (w ++ [x]).toArray.toList = _; simp
  rw [e, if_neg (by decide), List.length_append]
  show ((if -((w.length + 1 : Nat) : Int) ≤ -1 then some ((-1 : Int) + ((w.length + 1 : Nat) : Int)).toNat else none).bind fun j => (w ++ [x])[j]?) = some x
  rw [if_pos (by omega), show ((-1 : Int) + ((w.length + 1 : Nat) : Int)).toNat = w.length by omega]
  show (w ++ [x])[w.length]? = some x
  simp
section
variable {P : Program} {w : World} {K : PySem.W.Frag} {mg : Str → Option Value} {base : Heap}
/-! ### _law_names -/
def spNames : Sp := fun vs H Q _ => ∃ (st : Addr) (ns : Addr × List Int), vs = [.ref st, .int 9] ∧ StAt H st ns ∧ ∀ l H' (zs : List Str), zs.length = 9 → ((∀ z ∈ zs, GoodN z) ∧ zs.Nodup) → StAt H' st ns → SameBut st H H' → H l = none → H' l = some (.lst (zs.map V.str)) → Q (.ref l) H'
theorem scNames : FnScope ["_law_state", "_law_many", "_law_letters", "_law_kept", "_law_found", "_law_k", "_law_count", "_law_word_here", "_law_j"] ["_law_state", "_law_many"] (defScope sNames) := ⟨rfl, rfl, rfl, by decide +kernel, rfl, by decide +kernel, by decide +kernel⟩
abbrev ng (st KL O : Addr) (k c z j : Option V) : L2.St := [some (.ref st), some (.int 9), some (.str LET), some (.ref KL), some (.ref O), k, c, z, j]
theorem ok_names {fd fdD : FuncData} (T : Txt K mg) (F : FnG K "_law_names" sNames fd) (FD : FnG K "_law_draw" sDraw fdD) : FnOk P w K mg base CX0 2 (ga K "_law_names") fd ["_law_state", "_law_many"] spNames := by
  have GD : DrawOk P w K mg base fdD := ok_draw T FD
  have bD : Binds K fdD ["_law_state", "_law_many"] [] := FD.bindsN fun _ _ _ _ _ _ us hl => match us, hl with | [_, _], _ => rfl
  refine F.ok scNames (fun vs H Q E h => ?_) (fun cdv A outer s H vs Q E hr h => ?_)
  · obtain ⟨st, ns, rfl, _⟩ := h
    rfl
  obtain ⟨st, ns, rfl, S, k⟩ := h
  have nd := scNames.nd
  refine ⟨_, PSs.nox (pss_cons (ps_set (i := 2) nd rfl (Or.inl rfl) pe_str)
    (pss_cons (ps_set (i := 3) nd rfl (Or.inl rfl) (pe_lst (pa_cons pe_str (pa_cons pe_str (pa_cons pe_str (pa_cons pe_str (pa_cons pe_str (pa_cons pe_str (pa_cons pe_str (pa_cons pe_str (pa_cons pe_str pa_nil)))))))))))
    (pss_cons (ps_set (i := 4) nd rfl (Or.inl rfl) (pe_lst pa_nil))
    (pss_cons (ps_for PassesOwn.never rfl (pi_range1 rfl (T.f "range") (pa_cons (pv 1) pa_nil)) (pg_name (i := 5) nd rfl (Or.inl rfl))
      (pss_cons (ps_set (i := 6) nd rfl (Or.inl rfl) pe_int)
      (C8.pss_cut (ps_if (pt_cmpR op_eq (pe_call GD hr rfl (T.g "_law_draw") FD.kp bD .nil pass0 (pa_cons (pv 0) (pa_cons pe_int pa_nil))) pe_int (nomark _))
        (pss_one (ps_set (i := 6) nd rfl (Or.inl rfl) (pe_op op_add pe_int (pe_call GD hr rfl (T.g "_law_draw") FD.kp bD .nil pass0 (pa_cons (pv 0) (pa_cons pe_int pa_nil)))))) pss_nil)
      (pss_cons (ps_set (i := 7) nd rfl (Or.inl rfl) pe_str)
      (pss_cons (ps_for PassesOwn.never rfl (pi_range1 rfl (T.f "range") (pa_cons (pv 6) pa_nil)) (pg_name (i := 8) nd rfl (Or.inl rfl))
        (pss_one (ps_set (i := 7) nd rfl (Or.inl rfl) (pe_op op_add_str (pv 7) (pe_item_str (pv 2) (pe_call GD hr rfl (T.g "_law_draw") FD.kp bD .nil pass0 (pa_cons (pv 0) (pa_cons pe_int pa_nil))) (fun _ _ => rfl))))))
      (pss_cons (ps_for PassesOwn.never rfl (pi_range1 rfl (T.f "range") (pa_cons pe_int pa_nil)) (pg_name (i := 8) nd rfl (Or.inl rfl))
        (pss_one (ps_if (PW.pt (pw_or (pt_cmpR op_in_seq (pv 7) (pv 4) rfl) (pw_or1 (pt_cmpR op_in_seq (pv 7) (pv 3) rfl))))
          (pss_one (ps_set (i := 7) nd rfl (Or.inl rfl) (pe_op op_add_str (pe_slice sl_str (pv 7) po_none (po_some (pe_un un_neg pe_int)))
            (pe_item_str (pv 2) (pe_op op_mod (pe_op op_add (pe_m1 PySem.F.slot_str_find PySem.F.type_str_find mt_find (pv 2) (pe_ix ix_str (pv 7) (pe_un un_neg pe_int) (fun _ _ => rfl))) pe_int) pe_int) (fun _ _ => rfl))))) pss_nil)))
      (pss_one (ps_expr (pe_bm PySem.F.plainAttrs_list PySem.F.slot_list_append PySem.F.type_list_append mt_append (pv 4) (pa_cons (pv 7) pa_nil))))))))))
    (pss_one (ps_ret (pv 4))))))), ?_⟩
  refine ⟨tsz (by show 9 ≤ 1000000; decide), fun KL hKL => ?_⟩
  have s1 : Same H (upd H KL (.lst (noNames.map V.str))) := fun b o q => by rw [upd_ne (ne_of_none q hKL)]; exact q
  have eK : (upd H KL (.lst (noNames.map V.str))) KL = some (.lst (noNames.map V.str)) := upd_same
  have nK : KL ≠ st := fun z => by
    obtain ⟨_, _, _, h1, _⟩ := S
    rw [z, h1] at hKL
    cases hKL
  change tSeq _ _ _ _ (upd H KL (.lst (noNames.map V.str)))
  generalize upd H KL (.lst (noNames.map V.str)) = H1 at s1 eK ⊢
  have S1 := S.same s1
  refine ⟨tsz (by show 0 ≤ 1000000; decide), fun O hO => ?_⟩
  have nO : O ≠ st := fun z => by
    obtain ⟨_, _, _, h1, _⟩ := S1
    rw [z, h1] at hO
    cases hO
  have S2 : StAt (upd H1 O (.lst [])) st ns := StAt.new S1 S1 hO
  have B2 : SameBut st H1 (upd H1 O (.lst [])) := SameBut.new (fun _ _ _ e => e) hO
  have e2 : (upd H1 O (.lst [])) O = some (.lst (([] : List Str).map V.str)) := upd_same
  generalize upd H1 O (.lst []) = H2 at S2 B2 e2 ⊢
  refine ⟨_, rfl, _, rfl, by decide, by decide, for_range (lo := 0) (n := 9) (fun i σ H' => ∃ (kv cv zv jv : Option V) (zs : List Str), σ = ng st KL O kv cv zv jv ∧ StAt H' st ns ∧ SameBut st H1 H' ∧ H' O = some (.lst (zs.map V.str)) ∧ zs.length = i ∧ (∀ z ∈ zs, GoodN z) ∧ zs.Nodup) ⟨none, none, none, none, [], rfl, S2, B2, e2, rfl, (fun z hz => by cases hz), .nil⟩ ?_ ?_⟩
  · rintro i σ H3 hi ⟨kv, cv, zv, jv, zs, rfl, S3, B3, e3, lz, gz, ndz⟩
    refine ⟨fun σ H' => ∃ (kv zv jv : Option V) (ct : Int), σ = ng st KL O kv (some (.int ct)) zv jv ∧ 1 ≤ ct ∧ ct ≤ 8 ∧ StAt H' st ns ∧ SameBut st H1 H' ∧ H' O = some (.lst (zs.map V.str)), ?_, ?_⟩
    · refine ⟨_, rfl, st, 3, ns, rfl, by decide, by decide, S3, fun r' H4 _ _ S4 B4 => ⟨rfl, _, rfl, ?_⟩⟩
      refine ite2 (fun _ => ?_) (fun _ => ?_)
      · refine ⟨_, rfl, st, 8, ns, rfl, by decide, by decide, S4, fun r H5 r0 r1 S5 B5 => ⟨_, _, rfl, rfl, _, _, _, 1 + r, rfl, by omega, by omega, S5, (B3.trans B4).trans B5, B5 _ _ nO (B4 _ _ nO e3)⟩⟩
      · exact ⟨_, _, _, 1, rfl, by omega, by omega, S4, B3.trans B4, B4 _ _ nO e3⟩
    rintro σ H4 ⟨kv4, zv4, jv4, ct, rfl, c1, c8, S4, B4, e4⟩
    obtain ⟨n, rfl⟩ := Int.eq_ofNat_of_zero_le (show 0 ≤ ct by omega)
    -- the letters
    refine ⟨_, rfl, _, rfl, by omega, by omega, for_range (lo := 0) (n := ((n : Nat) : Int).toNat) (fun i σ H' => ∃ (jv : Option V) (w : List Nat), σ = ng st KL O kv4 (some (.int (n : Nat))) (some (.str (mk w))) jv ∧ w.length = i ∧ Lo w ∧ StAt H' st ns ∧ SameBut st H1 H' ∧ H' O = some (.lst (zs.map V.str))) ⟨jv4, [], rfl, rfl, (fun x hx => by cases hx), S4, B4, e4⟩ ?_ ?_⟩
    · rintro i σ H5 hi ⟨jv, w, rfl, lw, ow, S5, B5, e5⟩
      refine ⟨_, rfl, _, rfl, _, rfl, st, 26, ns, rfl, by decide, by decide, S5, fun r H6 x0 x1 S6 B6 => ?_⟩
      obtain ⟨j, rfl⟩ := Int.eq_ofNat_of_zero_le x0
      have hc := LET_ix ⟨j, by omega⟩
      refine ⟨LET, _, 97 + j, rfl, rfl, x0, by omega, (by rw [LET_len]; omega), hc, _, _, rfl, rfl, ?_, ?_⟩
      · rw [mk_len, sizeLine_eq]
        show w.length + 1 ≤ _
        omega
      · refine ⟨some (.int (0 + (i : Nat))), w ++ [97 + j], ?_, ?_, ?_, S6, B5.trans B6, B6 _ _ nO e5⟩
        · rw [← mk_add]
          rfl
        · rw [List.length_append, lw]
          rfl
        · intro x hx
          rcases List.mem_append.mp hx with hx | hx
          · exact ow x hx
          · rw [List.mem_singleton.mp hx]
            omega
    rintro σ H5 ⟨jv5, w5, rfl, lw5, ow5, S5, B5, e5⟩
    have lw1 : 1 ≤ w5.length := by omega
    have lw8 : w5.length ≤ 8 := by omega
    obtain ⟨w, x, rfl⟩ : ∃ w x, w5 = w ++ [x] := ⟨w5.dropLast, w5.getLast (by intro z; rw [z] at lw1; cases lw1), (List.dropLast_concat_getLast _).symm⟩
    have ow : Lo w := fun y hy => ow5 y (List.mem_append_left _ hy)
    obtain ⟨x0, x1⟩ := ow5 x (List.mem_append_right _ List.mem_cons_self)
    have lw : w.length ≤ 7 := by
      rw [List.length_append] at lw8
      have : [x].length = 1 := rfl
      omega
    generalize hc0 : x - 97 = c0
    have ex : x = 97 + c0 := by omega
    subst ex
    have c26 : c0 < 26 := by omega
    -- until it is free
    refine ⟨_, rfl, by decide, by decide, for_range (lo := 0) (n := 26) (fun i σ H' => H' = H5 ∧ ∃ (jv : Option V) (c : Nat), σ = ng st KL O kv4 (some (.int (n : Nat))) (some (.str (mk (w ++ [97 + c])))) jv ∧ c < 26 ∧
      ((mk (w ++ [97 + c]) ∉ zs ∧ mk (w ++ [97 + c]) ∉ noNames) ∨ (c = (c0 + i) % 26 ∧ ∀ j, j < i → turned w c0 j ∈ zs ++ noNames))) ⟨rfl, jv5, c0, rfl, c26, .inr ⟨by omega, fun j hj => absurd hj (by omega)⟩⟩ ?_ ?_⟩
    · rintro i σ H6 hi ⟨rfl, jv, c, rfl, cc, al⟩
      refine ⟨_, rfl, _, rfl, O, _, rfl, .inl (SqL.of e5), rfl, flat_strs _, _, rfl, ?_⟩
      have chg : (mk (w ++ [97 + c]) ∈ zs ∨ mk (w ++ [97 + c]) ∈ noNames) → c = (c0 + i) % 26 ∧ (∀ j, j < i → turned w c0 j ∈ zs ++ noNames) ∧ turned w c0 i ∈ zs ++ noNames := fun hin => by
        rcases al with ⟨n1, n2⟩ | ⟨a1, a2⟩
        · rcases hin with hin | hin
          · exact absurd hin n1
          · exact absurd hin n2
        · refine ⟨a1, a2, ?_⟩
          unfold turned
          rw [← a1]
          exact List.mem_append.mpr hin
      refine ite2 (fun h1 => ?_) (fun h1 => ?_)
      · have hin : mk (w ++ [97 + c]) ∈ zs := by
          have h1 : inV (.str (mk (w ++ [97 + c]))) (zs.map V.str) = true := h1
          rw [inV_strs] at h1
          exact of_decide_eq_true h1
        obtain ⟨a1, a2, a3⟩ := chg (.inl hin)
        refine ite2 (fun _ => ?_) (fun h => absurd rfl h)
        refine ⟨_, rfl, _, rfl, _, rfl, mk (w ++ [97 + c]), rfl, ?_, ?_⟩
        · rw [mk_len, List.length_append, sizeLine_eq]
          show w.length + 1 ≤ _
          omega
        have hf := LET_find ⟨c, cc⟩
        have hx := LET_ix ⟨(c + 1) % 26, Nat.mod_lt _ (by decide)⟩
        have em : ((c : Nat) + 1 : Int) % 26 = (((c + 1) % 26 : Nat) : Int) := by omega
        refine ⟨_, rfl, _, rfl, ⟨_, rfl⟩, _, rfl, _, rfl, mk (w ++ [97 + c]), -1, 97 + c, rfl, rfl, ?_, at_last w (97 + c), LET, ⟨#[97 + c]⟩, rfl, rfl, ?_⟩
        · rw [mk_len, List.length_append, sizeLine_eq]
          show w.length + 1 ≤ _
          omega
        rw [hf]
        refine ⟨_, _, rfl, rfl, _, _, rfl, rfl, (show (0 : Int) < 26 by decide), LET, ((c : Nat) + 1 : Int) % 26, 97 + (c + 1) % 26, rfl, rfl, by omega, by omega, by rw [LET_len]; omega, by rw [em]; exact hx, _, _, rfl, rfl, ?_, ?_⟩
        · rw [cut_last, mk_len, sizeLine_eq]
          show w.length + 1 ≤ _
          omega
        refine ⟨rfl, some (.int (0 + (i : Nat))), (c + 1) % 26, ?_, Nat.mod_lt _ (by decide), .inr ⟨by omega, fun j hj => ?_⟩⟩
        · rw [cut_last]
          have ea : mk w ++ (⟨#[97 + (c + 1) % 26]⟩ : Str) = mk (w ++ [97 + (c + 1) % 26]) := mk_add w [97 + (c + 1) % 26]
          rw [ea]
          rfl
        · rcases Nat.lt_succ_iff_lt_or_eq.mp hj with hj | rfl
          · exact a2 j hj
          · exact a3
      have n1 : mk (w ++ [97 + c]) ∉ zs := by
        have h1 : ¬ (inV (.str (mk (w ++ [97 + c]))) (zs.map V.str) = true) := h1
        rw [inV_strs] at h1
        exact fun z => h1 (decide_eq_true z)
      refine ⟨_, rfl, _, rfl, KL, _, rfl, .inl (SqL.of (B5 _ _ nK eK)), rfl, flat_strs _, _, rfl, ?_⟩
      refine ite2 (fun h2 => ?_) (fun h2 => ?_)
      · have hin : mk (w ++ [97 + c]) ∈ noNames := by
          have h2 : inV (.str (mk (w ++ [97 + c]))) (noNames.map V.str) = true := h2
          rw [inV_strs] at h2
          exact of_decide_eq_true h2
        obtain ⟨a1, a2, a3⟩ := chg (.inr hin)
        refine ⟨_, rfl, _, rfl, _, rfl, mk (w ++ [97 + c]), rfl, ?_, ?_⟩
        · rw [mk_len, List.length_append, sizeLine_eq]
          show w.length + 1 ≤ _
          omega
        have hf := LET_find ⟨c, cc⟩
        have hx := LET_ix ⟨(c + 1) % 26, Nat.mod_lt _ (by decide)⟩
        have em : ((c : Nat) + 1 : Int) % 26 = (((c + 1) % 26 : Nat) : Int) := by omega
        refine ⟨_, rfl, _, rfl, ⟨_, rfl⟩, _, rfl, _, rfl, mk (w ++ [97 + c]), -1, 97 + c, rfl, rfl, ?_, at_last w (97 + c), LET, ⟨#[97 + c]⟩, rfl, rfl, ?_⟩
        · rw [mk_len, List.length_append, sizeLine_eq]
          show w.length + 1 ≤ _
          omega
        rw [hf]
        refine ⟨_, _, rfl, rfl, _, _, rfl, rfl, (show (0 : Int) < 26 by decide), LET, ((c : Nat) + 1 : Int) % 26, 97 + (c + 1) % 26, rfl, rfl, by omega, by omega, by rw [LET_len]; omega, by rw [em]; exact hx, _, _, rfl, rfl, ?_, ?_⟩
        · rw [cut_last, mk_len, sizeLine_eq]
          show w.length + 1 ≤ _
          omega
        refine ⟨rfl, some (.int (0 + (i : Nat))), (c + 1) % 26, ?_, Nat.mod_lt _ (by decide), .inr ⟨by omega, fun j hj => ?_⟩⟩
        · rw [cut_last]
          have ea : mk w ++ (⟨#[97 + (c + 1) % 26]⟩ : Str) = mk (w ++ [97 + (c + 1) % 26]) := mk_add w [97 + (c + 1) % 26]
          rw [ea]
          rfl
        · rcases Nat.lt_succ_iff_lt_or_eq.mp hj with hj | rfl
          · exact a2 j hj
          · exact a3
      · have n2 : mk (w ++ [97 + c]) ∉ noNames := by
          have h2 : ¬ (inV (.str (mk (w ++ [97 + c]))) (noNames.map V.str) = true) := h2
          rw [inV_strs] at h2
          exact fun z => h2 (decide_eq_true z)
        exact ⟨rfl, some (.int (0 + (i : Nat))), c, rfl, cc, .inl ⟨n1, n2⟩⟩
    · rintro σ H6 ⟨rfl, jv, c, rfl, cc, al⟩
      obtain ⟨newz, free⟩ : mk (w ++ [97 + c]) ∉ zs ∧ mk (w ++ [97 + c]) ∉ noNames := by
        rcases al with ⟨n1, n2⟩ | ⟨_, a2⟩
        · exact ⟨n1, n2⟩
        · refine (some_free (w := w) (c := c0) (B := zs ++ noNames) ?_ a2).elim
          rw [List.length_append, lz]
          show i + 9 ≤ 20
          omega
      have lo2 : Lo (w ++ [97 + c]) := fun y hy => by
        rcases List.mem_append.mp hy with hy | hy
        · exact ow y hy
        · rw [List.mem_singleton.mp hy]
          omega
      have len2 : (w ++ [97 + c]).length = w.length + 1 := by rw [List.length_append]; rfl
      have gz2 : GoodN (mk (w ++ [97 + c])) := ⟨good_mk lo2 (by omega) (by omega) free, by rw [mk_len]; omega⟩
      refine ⟨_, rfl, .inl ⟨rfl, _, SqL.of e5⟩, _, rfl, O, _, _, rfl, rfl, e5, ?_, ?_⟩
      · rw [List.length_map, sizeLine_eq]
        omega
      · refine ⟨kv4, _, _, jv, zs ++ [mk (w ++ [97 + c])], rfl, StAt.new S5 S1 hO, B5.new hO, by rw [upd_same]; simp, ?_, fun z hz => ?_, ?_⟩
        · rw [List.length_append, lz]
          rfl
        · rcases List.mem_append.mp hz with hz | hz
          · exact gz z hz
          · rw [List.mem_singleton.mp hz]
            exact gz2
        · rw [List.nodup_append]
          exact ⟨ndz, by simp, fun a ha b hb e => by rw [List.mem_singleton.mp hb] at e; rw [e] at ha; exact newz ha⟩
  · rintro σ H3 ⟨kv, cv, zv, jv, zs, rfl, S3, B3, e3, lz, gz⟩
    exact ⟨_, rfl, k O H3 zs lz gz S3 ((SameBut.of s1).trans B3) (none_back s1 hO) e3⟩
theorem c_large (T : Txt K mg) : Cal P w K mg base CX0 2 (ga K "_law_large") ["_law_state", "_law_many"] spDraw := by
  obtain ⟨fd, F⟩ := T.f__law_large
  obtain ⟨fdD, FD⟩ := T.f__law_draw
  exact ⟨fd, ok_large T F FD, F.kp, F.bindsN fun _ _ _ _ _ _ us hl => match us, hl with | [_, _], _ => rfl⟩
theorem c_names (T : Txt K mg) : Cal P w K mg base CX0 2 (ga K "_law_names") ["_law_state", "_law_many"] spNames := by
  obtain ⟨fd, F⟩ := T.f__law_names
  obtain ⟨fdD, FD⟩ := T.f__law_draw
  exact ⟨fd, ok_names T F FD, F.kp, F.bindsN fun _ _ _ _ _ _ us hl => match us, hl with | [_, _], _ => rfl⟩

end
end KW
set_option Elab.async false
set_option linter.all false
set_option maxRecDepth 100000
set_option maxHeartbeats 8000000
namespace KW
open PySem PySem.Spec PyProof.Rows L2 He Sw L2H
section
variable {P : Program} {w : World} {K : PySem.W.Frag} {mg : Str → Option Value} {base : Heap}
end
/-! ### formulas -/
inductive B3
  | plus
  | minus
  | times
deriving DecidableEq
def B3.str : B3 → Str
  | .plus => "plus"
  | .minus => "minus"
  | .times => "times"
inductive Fo
  | num (n : Int)
  | nam (z : Str)
  | neg (a : Fo)
  | shl (a : Fo) (n : Int)
  | bin (o : B3) (a b : Fo)
  | sum (i : Str) (b : Fo) (a : Fo)
  | call (z : Str) (as : List Fo)
def Fo.kind : Fo → Str
  | .num _ => "number"
  | .nam _ => "name"
  | .neg _ => "negative"
  | .shl _ _ => "shift"
  | .bin o _ _ => o.str
  | .sum _ _ _ => "sum"
  | .call _ _ => "call"
def Fo.cls : Fo → Str
  | .num _ => "Number"
  | .nam _ => "Name"
  | .sum _ _ _ => "Sum"
  | .call _ _ => "Call"
  | _ => "Formula"
def Fo.kids : Fo → List Fo
  | .num _ => []
  | .nam _ => []
  | .neg a => [a]
  | .shl a _ => [a]
  | .bin _ a b => [a, b]
  | .sum _ _ a => [a]
  | .call _ as => as
mutual
def Fo.parts : Fo → Nat
  | .num _ => 1
  | .nam _ => 1
  | .neg a => 1 + a.parts
  | .shl a _ => 1 + a.parts
  | .bin _ a b => 1 + (a.parts + b.parts)
  | .sum _ _ a => 1 + a.parts
  | .call _ as => 1 + Fo.partsL as
def Fo.partsL : List Fo → Nat
  | [] => 0
  | f :: fs => f.parts + Fo.partsL fs
end
mutual
def Fo.depth : Fo → Nat
  | .num _ => 1
  | .nam _ => 1
  | .neg a => 1 + a.depth
  | .shl a _ => 1 + a.depth
  | .bin _ a b => 1 + max a.depth b.depth
  | .sum _ _ a => 1 + a.depth
  | .call _ as => 1 + Fo.depthL as
def Fo.depthL : List Fo → Nat
  | [] => 0
  | f :: fs => max f.depth (Fo.depthL fs)
end
mutual
/-- the indexes of the sums in it, as index_names tells them -/
def Fo.ixs : Fo → List Str
  | .num _ => []
  | .nam _ => []
  | .neg a => a.ixs
  | .shl a _ => a.ixs
  | .bin _ a b => a.ixs ++ b.ixs
  | .sum i _ a => i :: a.ixs
  | .call _ as => Fo.ixsL as
def Fo.ixsL : List Fo → List Str
  | [] => []
  | f :: fs => f.ixs ++ Fo.ixsL fs
end
theorem Fo.depth_kids (f : Fo) : f.depth = 1 + Fo.depthL f.kids := by
  cases f <;> simp [Fo.depth, Fo.kids, Fo.depthL]
theorem Fo.parts_kids (f : Fo) : f.parts = 1 + Fo.partsL f.kids := by
  cases f <;> simp [Fo.parts, Fo.kids, Fo.partsL]
theorem Fo.depth_pos (f : Fo) : 1 ≤ f.depth := by rw [f.depth_kids]; omega
theorem Fo.parts_pos (f : Fo) : 1 ≤ f.parts := by rw [f.parts_kids]; omega
theorem Fo.depthL_ge {f : Fo} : ∀ {fs : List Fo}, f ∈ fs → f.depth ≤ Fo.depthL fs
  | g :: fs, h => by
    rw [Fo.depthL]
    rcases List.mem_cons.mp h with rfl | h
    · omega
    · have := Fo.depthL_ge h; omega
theorem Fo.partsL_ge {f : Fo} : ∀ {fs : List Fo}, f ∈ fs → f.parts ≤ Fo.partsL fs
  | g :: fs, h => by
    rw [Fo.partsL]
    rcases List.mem_cons.mp h with rfl | h
    · omega
    · have := Fo.partsL_ge h; omega
theorem Fo.kid_depth {f g : Fo} (h : g ∈ f.kids) : g.depth < f.depth := by
  rw [f.depth_kids]
  have := Fo.depthL_ge h
  omega
theorem Fo.kid_parts {f g : Fo} (h : g ∈ f.kids) : g.parts < f.parts := by
  rw [f.parts_kids]
  have := Fo.partsL_ge h
  omega
theorem Fo.depthL_len {fs : List Fo} {n : Nat} (h : ∀ f ∈ fs, f.depth ≤ n) : Fo.depthL fs ≤ n := by
  induction fs with
  | nil => simp [Fo.depthL]
  | cons f fs ih =>
    rw [Fo.depthL]
    have h1 := h f List.mem_cons_self
    have h2 := ih fun g hg => h g (List.mem_cons_of_mem _ hg)
    omega
theorem Fo.mem_ixsL {i : Str} : ∀ {fs : List Fo}, i ∈ Fo.ixsL fs ↔ ∃ f ∈ fs, i ∈ f.ixs
  | [] => by simp [Fo.ixsL]
  | f :: fs => by simp [Fo.ixsL, Fo.mem_ixsL (fs := fs)]
/-- a number or a name -/
def Fo.leaf : Fo → Prop
  | .num _ => True
  | .nam _ => True
  | _ => False
mutual
/-- what the document lets -/
def Fo.Ok : Fo → Prop
  | .num n => 0 ≤ n ∧ n < 10 ^ 30
  | .nam z => GoodN z
  | .neg a => a.Ok
  | .shl a n => 0 ≤ n ∧ n ≤ 64 ∧ a.Ok
  | .bin _ a b => a.Ok ∧ b.Ok
  | .sum i b a => GoodN i ∧ b.leaf ∧ b.Ok ∧ b ≠ .nam i ∧ i ∉ a.ixs ∧ a.Ok
  | .call z as => GoodN z ∧ 1 ≤ as.length ∧ as.length ≤ 4 ∧ Fo.OkL as
def Fo.OkL : List Fo → Prop
  | [] => True
  | f :: fs => f.Ok ∧ Fo.OkL fs
end
theorem Fo.okL_mem : ∀ {fs : List Fo}, Fo.OkL fs ↔ ∀ f ∈ fs, f.Ok
  | [] => by simp [Fo.OkL]
  | f :: fs => by simp [Fo.OkL, Fo.okL_mem (fs := fs)]
theorem Fo.ok_kids {f : Fo} (h : f.Ok) : ∀ g ∈ f.kids, g.Ok := by
  cases f with
  | num n => intro g hg; cases hg
  | nam z => intro g hg; cases hg
  | neg a => intro g hg; rw [List.mem_singleton.mp hg]; simpa [Fo.Ok] using h
  | shl a n =>
    simp only [Fo.Ok] at h
    intro g hg; rw [List.mem_singleton.mp hg]; exact h.2.2
  | bin o a b =>
    simp only [Fo.Ok] at h
    intro g hg
    rcases List.mem_cons.mp hg with rfl | hg
    · exact h.1
    · rw [List.mem_singleton.mp hg]; exact h.2
  | sum i b a =>
    simp only [Fo.Ok] at h
    intro g hg; rw [List.mem_singleton.mp hg]; exact h.2.2.2.2.2
  | call z as =>
    simp only [Fo.Ok] at h
    exact Fo.okL_mem.mp h.2.2.2
def Fo.Fits (f : Fo) : Prop := f.parts ≤ 300 ∧ f.depth ≤ 40
theorem Fo.Fits.kid {f g : Fo} (h : f.Fits) (k : g ∈ f.kids) : g.Fits := ⟨by have := Fo.kid_parts k; have := h.1; omega, by have := Fo.kid_depth k; have := h.2; omega⟩
theorem Fo.leaf_sizes {f : Fo} (h : f.leaf) : f.parts = 1 ∧ f.depth = 1 := by cases f <;> first | exact (show False from h).elim | exact ⟨by simp [Fo.parts], by simp [Fo.depth]⟩
section
variable {P : Program} {w : World} {K : PySem.W.Frag} {mg : Str → Option Value} {base : Heap}
/-! ### formulas in the heap -/
def Nd (K : PySem.W.Frag) (H : Hp) (f : Fo) (a : Addr) (th : List V) : Prop := ∃ dx t, H a = some (.ins (ga K f.cls) dx (flds (.str f.kind) (.ref t) f.parts f.depth)) ∧ H t = some (.tup th)
mutual
def FoAt (K : PySem.W.Frag) (H : Hp) : Fo → Addr → Prop
  | .num n, a => Nd K H (.num n) a [.int n]
  | .nam z, a => Nd K H (.nam z) a [.str z]
  | .neg f, a => ∃ x, Nd K H (.neg f) a [.ref x] ∧ FoAt K H f x
  | .shl f n, a => ∃ x, Nd K H (.shl f n) a [.ref x, .int n] ∧ FoAt K H f x
  | .bin o f g, a => ∃ x y, Nd K H (.bin o f g) a [.ref x, .ref y] ∧ FoAt K H f x ∧ FoAt K H g y
  | .sum i b f, a => ∃ y x, Nd K H (.sum i b f) a [.str i, .ref y, .ref x] ∧ FoAt K H b y ∧ FoAt K H f x
  | .call z fs, a => ∃ u xs, Nd K H (.call z fs) a [.str z, .ref u] ∧ H u = some (.tup (xs.map V.ref)) ∧ FoAts K H fs xs
def FoAts (K : PySem.W.Frag) (H : Hp) : List Fo → List Addr → Prop
  | [], xs => xs = []
  | f :: fs, xs => ∃ x ys, xs = x :: ys ∧ FoAt K H f x ∧ FoAts K H fs ys
end
theorem notL {xs : List V} : ∀ ys, HO.tup xs ≠ .lst ys := fun _ z => by cases z
theorem notLi {C dx : Addr} {fs : List (Str × V)} : ∀ ys, HO.ins C dx fs ≠ .lst ys := fun _ z => by cases z
theorem Nd.sameT {H H' : Hp} {f : Fo} {a : Addr} {th : List V} (h : Nd K H f a th) (s : SameT H H') : Nd K H' f a th := by
  obtain ⟨dx, t, e1, e2⟩ := h
  exact ⟨dx, t, s _ _ e1 notLi, s _ _ e2 notL⟩
mutual
theorem FoAt.sameT {H H' : Hp} (s : SameT H H') : ∀ {f : Fo} {a : Addr}, FoAt K H f a → FoAt K H' f a
  | .num n, a, h => by simp only [FoAt] at h ⊢; exact h.sameT s
  | .nam z, a, h => by simp only [FoAt] at h ⊢; exact h.sameT s
  | .neg f, a, h => by simp only [FoAt] at h ⊢; obtain ⟨x, n, q⟩ := h; exact ⟨x, n.sameT s, FoAt.sameT s q⟩
  | .shl f n, a, h => by simp only [FoAt] at h ⊢; obtain ⟨x, n, q⟩ := h; exact ⟨x, n.sameT s, FoAt.sameT s q⟩
  | .bin o f g, a, h => by simp only [FoAt] at h ⊢; obtain ⟨x, y, n, q, r⟩ := h; exact ⟨x, y, n.sameT s, FoAt.sameT s q, FoAt.sameT s r⟩
  | .sum i b f, a, h => by simp only [FoAt] at h ⊢; obtain ⟨x, y, n, q, r⟩ := h; exact ⟨x, y, n.sameT s, FoAt.sameT s q, FoAt.sameT s r⟩
  | .call z fs, a, h => by simp only [FoAt] at h ⊢; obtain ⟨u, xs, n, e, q⟩ := h; exact ⟨u, xs, n.sameT s, s _ _ e notL, FoAts.sameT s q⟩
theorem FoAts.sameT {H H' : Hp} (s : SameT H H') : ∀ {fs : List Fo} {xs : List Addr}, FoAts K H fs xs → FoAts K H' fs xs
  | [], xs, h => by simp only [FoAts] at h ⊢; exact h
  | f :: fs, xs, h => by simp only [FoAts] at h ⊢; obtain ⟨x, ys, e, q, r⟩ := h; exact ⟨x, ys, e, FoAt.sameT s q, FoAts.sameT s r⟩
end
theorem FoAt.same {H H' : Hp} {f : Fo} {a : Addr} (h : FoAt K H f a) (s : Same H H') : FoAt K H' f a := h.sameT (SameT.of s)
theorem FoAts.same {H H' : Hp} {fs : List Fo} {xs : List Addr} (h : FoAts K H fs xs) (s : Same H H') : FoAts K H' fs xs := h.sameT (SameT.of s)
theorem FoAts.len {H : Hp} : ∀ {fs : List Fo} {xs : List Addr}, FoAts K H fs xs → xs.length = fs.length
  | [], xs, h => by simp only [FoAts] at h; rw [h]; rfl
  | f :: fs, xs, h => by simp only [FoAts] at h; obtain ⟨x, ys, rfl, q, r⟩ := h; simp [FoAts.len r]
theorem FoAts.get {H : Hp} : ∀ {fs : List Fo} {xs : List Addr}, FoAts K H fs xs → ∀ {i : Nat} {x : Addr}, xs[i]? = some x → ∃ f, fs[i]? = some f ∧ FoAt K H f x
  | [], xs, h, i, x, e => by simp only [FoAts] at h; rw [h] at e; cases i <;> cases e
  | f :: fs, xs, h, i, x, e => by
    simp only [FoAts] at h
    obtain ⟨y, ys, rfl, q, r⟩ := h
    cases i with
    | zero => injection e with e; subst e; exact ⟨f, rfl, q⟩
    | succ i => exact FoAts.get r e
theorem FoAts.snoc {H : Hp} {f : Fo} {x : Addr} (q : FoAt K H f x) : ∀ {fs : List Fo} {xs : List Addr}, FoAts K H fs xs → FoAts K H (fs ++ [f]) (xs ++ [x])
  | [], xs, h => by simp only [FoAts] at h; rw [h]; simp only [List.nil_append, FoAts]; exact ⟨x, [], rfl, q, rfl⟩
  | g :: fs, xs, h => by
    simp only [FoAts] at h
    obtain ⟨y, ys, rfl, q', r⟩ := h
    simp only [List.cons_append, FoAts]
    exact ⟨y, ys ++ [x], rfl, q', FoAts.snoc q r⟩
theorem FoAt.nd {H : Hp} {f : Fo} {a : Addr} (h : FoAt K H f a) : ∃ th, Nd K H f a th := by
  cases f <;> simp only [FoAt] at h
  · exact ⟨_, h⟩
  · exact ⟨_, h⟩
  · obtain ⟨x, n, _⟩ := h; exact ⟨_, n⟩
  · obtain ⟨x, n, _⟩ := h; exact ⟨_, n⟩
  · obtain ⟨x, y, n, _⟩ := h; exact ⟨_, n⟩
  · obtain ⟨x, y, n, _⟩ := h; exact ⟨_, n⟩
  · obtain ⟨x, y, n, _⟩ := h; exact ⟨_, n⟩
theorem Fo.cls_mem (f : Fo) : f.cls ∈ clsL := by
  have h : ∀ x ∈ (["Number", "Name", "Sum", "Call", "Formula"] : List Str), x ∈ clsL := by decide +kernel
  cases f <;> exact h _ (by simp [Fo.cls])
/-- a record of it, as Formula.__init__ asks for -/
def Fo.kd (f : Fo) (a : Addr) (th : List V) : Kd := ⟨a, f.depth, f.parts, [], f.cls, f.kind, th⟩
theorem FoAt.kid {H : Hp} {f : Fo} {a : Addr} (h : FoAt K H f a) : ∃ th, KidAt K H (f.kd a th) := by
  obtain ⟨th, dx, t, e1, e2⟩ := h.nd
  exact ⟨th, dx, t, f.cls_mem, e1, e2⟩
theorem FoAt.ins {H : Hp} {f : Fo} {a : Addr} (h : FoAt K H f a) : ∃ dx fs, H a = some (.ins (ga K f.cls) dx fs) := by
  obtain ⟨th, dx, t, e1, e2⟩ := h.nd
  exact ⟨dx, _, e1⟩
theorem FoAts.kids {H : Hp} : ∀ {fs : List Fo} {xs : List Addr}, FoAts K H fs xs → ∃ ks : List Kd, refs ks = xs.map V.ref ∧ (∀ k ∈ ks, KidAt K H k) ∧ ks.length = fs.length ∧ sumP ks = Fo.partsL fs ∧ maxD ks = Fo.depthL fs
  | [], xs, h => by simp only [FoAts] at h; rw [h]; exact ⟨[], rfl, (fun k hk => by cases hk), rfl, (by rw [Fo.partsL]; rfl), (by rw [Fo.depthL]; rfl)⟩
  | f :: fs, xs, h => by
    simp only [FoAts] at h
    obtain ⟨y, ys, rfl, q, r⟩ := h
    obtain ⟨th, hk⟩ := q.kid
    obtain ⟨ks, e1, e2, e3, e4, e5⟩ := FoAts.kids r
    refine ⟨f.kd y th :: ks, ?_, fun k h => ?_, by simp [e3], ?_, ?_⟩
    · show V.ref y :: refs ks = _
      rw [e1]; rfl
    · rcases List.mem_cons.mp h with rfl | h
      · exact hk
      · exact e2 k h
    · show f.parts + sumP ks = _
      rw [e4, Fo.partsL]
    · show max f.depth (maxD ks) = _
      rw [e5, Fo.depthL]
/-- what a making leaves: a node at x -/
theorem made {H H1 H' : Hp} {f : Fo} {x dx t : Addr} {th : List V} {p d : Nat} (s : Same H H1) (hx : H1 x = none) (hdx : H1 dx = none) (sb : SameBut x (upd (upd H1 dx (.own x)) x (.ins (ga K f.cls) dx [])) H')
    (e : H' x = some (.ins (ga K f.cls) dx (flds (.str f.kind) (.ref t) p d))) (et : H' t = some (.tup th)) (ep : p = f.parts) (ed : d = f.depth) : Same H H' ∧ Nd K H' f x th := by
  have s1 : Same H1 (upd (upd H1 dx (.own x)) x (.ins (ga K f.cls) dx [])) := fun b o e => by rw [upd_ne (ne_of_none e hx), upd_ne (ne_of_none e hdx)]; exact e
  have s2 : Same H1 H' := fun b o q => sb b o (ne_of_none q hx) (s1 _ _ q)
  subst ep ed
  exact ⟨s.trans s2, dx, t, e, et⟩
/-- its things, by the addresses of the formulas within -/
inductive Sh (K : PySem.W.Frag) (H : Hp) : Fo → List V → List Addr → Prop
  | num (n : Int) : Sh K H (.num n) [.int n] []
  | nam (z : Str) : Sh K H (.nam z) [.str z] []
  | neg (f : Fo) (x : Addr) : Sh K H (.neg f) [.ref x] [x]
  | shl (f : Fo) (n : Int) (x : Addr) : Sh K H (.shl f n) [.ref x, .int n] [x]
  | bin (o : B3) (f g : Fo) (x y : Addr) : Sh K H (.bin o f g) [.ref x, .ref y] [x, y]
  | sum (i : Str) (b f : Fo) (y x : Addr) (hb : FoAt K H b y) : Sh K H (.sum i b f) [.str i, .ref y, .ref x] [x]
  | call (z : Str) (fs : List Fo) (u : Addr) (xs : List Addr) (e : H u = some (.tup (xs.map V.ref))) : Sh K H (.call z fs) [.str z, .ref u] xs
theorem FoAt.opened {H : Hp} {f : Fo} {a : Addr} (h : FoAt K H f a) : ∃ dx t th xs, H a = some (.ins (ga K f.cls) dx (flds (.str f.kind) (.ref t) f.parts f.depth)) ∧ H t = some (.tup th) ∧ Sh K H f th xs ∧ FoAts K H f.kids xs := by
  cases f <;> simp only [FoAt] at h
  · obtain ⟨dx, t, e1, e2⟩ := h
    exact ⟨dx, t, _, _, e1, e2, .num _, by simp only [Fo.kids, FoAts]⟩
  · obtain ⟨dx, t, e1, e2⟩ := h
    exact ⟨dx, t, _, _, e1, e2, .nam _, by simp only [Fo.kids, FoAts]⟩
  · obtain ⟨x, ⟨dx, t, e1, e2⟩, q⟩ := h
    exact ⟨dx, t, _, _, e1, e2, .neg _ x, by simp only [Fo.kids, FoAts]; exact ⟨x, [], rfl, q, rfl⟩⟩
  · obtain ⟨x, ⟨dx, t, e1, e2⟩, q⟩ := h
    exact ⟨dx, t, _, _, e1, e2, .shl _ _ x, by simp only [Fo.kids, FoAts]; exact ⟨x, [], rfl, q, rfl⟩⟩
  · obtain ⟨x, y, ⟨dx, t, e1, e2⟩, q, r⟩ := h
    exact ⟨dx, t, _, _, e1, e2, .bin _ _ _ x y, by simp only [Fo.kids, FoAts]; exact ⟨x, [y], rfl, q, y, [], rfl, r, rfl⟩⟩
  · obtain ⟨y, x, ⟨dx, t, e1, e2⟩, q, r⟩ := h
    exact ⟨dx, t, _, _, e1, e2, .sum _ _ _ y x q, by simp only [Fo.kids, FoAts]; exact ⟨x, [], rfl, r, rfl⟩⟩
  · obtain ⟨u, xs, ⟨dx, t, e1, e2⟩, e, q⟩ := h
    exact ⟨dx, t, _, _, e1, e2, .call _ _ u xs e, by simp only [Fo.kids]; exact q⟩
abbrev FnF (K : PySem.W.Frag) (m q : Str) (st : Stmt) (fd : FuncData) : Prop := FunD K m q (defArgs st) (defBody st) (defScope st) [] [] (ma K (ga K "Formula") m) fd
/-- Formula(kind, things, inner), as the methods write it -/
theorem form_read {H H2 : Hp} {f : Fo} {th : List V} {ks : List Kd} {t e : Addr} {Q : VK} (T : Txt K mg) (hc : f.cls = "Formula") (s02 : Same H H2) (r : ∀ k ∈ ks, KidAt K H k) (hl : ks.length ≤ 10) (ep : f.parts = 1 + sumP ks) (ed : f.depth = 1 + maxD ks) (fit : f.Fits)
    (et : H2 t = some (.tup th)) (ee : H2 e = some (.tup (refs ks))) (q : ∀ H' x, Same H H' → Nd K H' f x th → Q (.ref x) H') :
    ∀ x dx, H2 x = none → H2 dx = none → dx ≠ x → ∀ E, spForm K [.ref x, .str f.kind, .ref t, .ref e] (upd (upd H2 dx (.own x)) x (.ins (ga K "Formula") dx [])) (fun v H3 => v = .non ∧ Q (.ref x) H3) E := by
  intro x dx hx hdx hne E
  have s3 : Same H2 (upd (upd H2 dx (.own x)) x (.ins (ga K "Formula") dx [])) := fun b o q => by rw [upd_ne (ne_of_none q hx), upd_ne (ne_of_none q hdx)]; exact q
  refine ⟨x, _, dx, e, _, _, ks, rfl, upd_same, T.ins _ (by decide +kernel), s3 _ _ ee, (fun k hk => ((r k hk).same (s02.trans s3))), hl, ⟨by have := fit.1; omega, by have := fit.2; omega⟩, fun H' sb e' => ⟨rfl, ?_⟩⟩
  have et' := tup_but upd_same sb (s3 _ _ et)
  rw [← hc] at sb e'
  obtain ⟨a1, a2⟩ := made (K := K) (f := f) s02 hx hdx sb e' et' ep.symm ed.symm
  exact q H' x a1 a2

end
end KW
set_option Elab.async false
set_option linter.all false
set_option maxRecDepth 100000
set_option maxHeartbeats 4000000
/-! Sets whose members are of one kind of keys, by the list of their rows; sorted(set(xs)) of texts. -/
namespace SetE
open PySem PySem.Spec PyProof.Rows L2
/-- at a stands a set with the rows L, in some order, and a table that can be walked -/
def Has (w : World) (h : Heap) (a : Addr) (L : List (Int × Value)) : Prop :=
  ∃ (ob : Obj) (rows : Array (Int × Value)) (ver : Nat) (tb : SetTable), h.get? a = some ob ∧ ob.ExactSet ∧ ob.data = .set rows ver tb ∧ rows.toList.Perm L ∧ L.length < scanBound ∧
    tb.fits rows.size = true ∧ Ris tb.place.toList ∧ (w.params.followText "set-order" = true ∨ tb.led = true)
theorem Has.move {w : World} {h h' : Heap} {a : Addr} {L : List (Int × Value)} (x : Has w h a L) (k : ∀ o, h.get? a = some o → h'.get? a = some o) : Has w h' a L := by
  obtain ⟨ob, rows, ver, tb, e, r⟩ := x
  exact ⟨ob, rows, ver, tb, k _ e, r⟩
section
variable {P : Program} {w : World} {A : Around} {E : Value → Shared → Prop} {s : Shared} {a : Addr} {L : List (Int × Value)}
/-- storing other rows and another table -/
theorem store_has {h : Heap} {ob : Obj} {rows rows' : Array (Int × Value)} {ver : Nat} {tb tb' : SetTable} {L' : List (Int × Value)} (e : h.get? a = some ob) (ex : ob.ExactSet) (d : ob.data = .set rows ver tb)
    (pm : rows'.toList.Perm L') (few : L'.length < scanBound) (ft : tb'.fits rows'.size = true) (ri : Ris tb'.place.toList) (ld : w.params.followText "set-order" = true ∨ tb'.led = true) :
    (h.update a (Obj.putSet rows' tb')).get? a = some { ob with data := .set rows' (ver + 1) tb' } ∧ Has w (h.update a (Obj.putSet rows' tb')) a L' := by
  have g : (h.update a (Obj.putSet rows' tb')).get? a = some { ob with data := .set rows' (ver + 1) tb' } := by
    rw [← putSet_of rows' tb' d]
    exact Heap.get?_update_self _ e (by rw [putSet_of rows' tb' d]; rfl)
  exact ⟨g, _, rows', ver + 1, tb', g, ex, rfl, pm, few, ft, ri, ld⟩
theorem rows_few {rows : Array (Int × Value)} {L' : List (Int × Value)} (pm : rows.toList.Perm L') (few : L'.length < scanBound) : rows.size ≤ sizeLine := by
  have e := pm.length_eq
  rw [Array.length_toList] at e
  exact fits_of_scanBound (by omega)
/-- a key is added -/
theorem add_key {K : Type} [DecidableEq K] {knd : PySem.KeyKind P w K} {k : K} {x : Value} (is : knd.is k x = true) (sc : x.scannable = true) (R : Has w s.heap a L) (good : ElemsOf knd L) (room : L.length + 1 < scanBound) {Q : Bool → Shared → Prop}
    (old : (∃ e ∈ L, knd.is k e.2 = true) → Q false s)
    (new : (∀ e ∈ L, knd.is k e.2 = false) → ∀ h', Heap.SameBut a s.heap h' → Has w h' a ((knd.hash k, x) :: L) → Q true { s with heap := h' }) :
    wpAny (model P w) A (setAddHashed a x (knd.hash k)) Q E s := by
  obtain ⟨ob, rows, ver, tb, e, ex, d, pm, few, ft, ri, ld⟩ := R
  have goodR : ElemsOf knd rows.toList := fun y hy => good y (pm.mem_iff.mp hy)
  have fewR : rows.size < scanBound := by
    have q := pm.length_eq
    rw [Array.length_toList] at q
    omega
  unfold setAddHashed setAddHashedIn
  refine wpAny_holding (wpAny_bind (wpAny_setState_of e d ft ?_))
  dsimp only
  rw [if_pos (byScan_of sc fewR goodR)]
  unfold setAddByScan
  refine wpAny_bind (wpAny_bind (wpAny_rule (wpAny_bind (wpAny_setScan_of is e d ft goodR ?_))))
  cases found : rows.toList.findIdx? (fun y => knd.is k y.2) with
  | some j =>
    obtain ⟨hj, yes, _⟩ := List.findIdx?_eq_some_iff_getElem.mp found
    exact wpAny_pure (wpAny_pure (old ⟨_, pm.mem_iff.mp (List.getElem_mem hj), yes⟩))
  | none =>
    have no : ∀ y ∈ L, knd.is k y.2 = false := fun y hy => by
      have q := List.findIdx?_eq_none_iff.mp found y (pm.mem_iff.mpr hy)
      simpa using q
    have fin := new no
    dsimp only
    have q1 := layNew_perm tb rows (knd.hash k) x
    have q2 := layNew_fits tb rows (knd.hash k) x
    have q3 := layNew_ris tb rows (knd.hash k) x ri
    have q4 := layNew_led tb rows (knd.hash k) x
    generalize layNew tb rows (knd.hash k) x = Z at q1 q2 q3 q4 ⊢
    obtain ⟨rows1, tb1, dummy, g1⟩ := Z
    dsimp only at q1 q2 q3 q4 ⊢
    rw [Array.toList_push] at q1
    have pm1 : rows1.toList.Perm ((knd.hash k, x) :: L) := (q1.trans (List.perm_append_singleton _ _)).trans (pm.cons _)
    have few1 : ((knd.hash k, x) :: L).length < scanBound := by rw [List.length_cons]; exact room
    have ld1 : w.params.followText "set-order" = true ∨ tb1.led = true := by rw [q4]; exact ld
    -- whatever the table's flag, it is stored, perhaps laid anew
    have tail : ∀ g : Bool → Sem Unit, (∀ (b : Bool) (s1 : Shared) (Q1 : Unit → Shared → Prop), Q1 () s1 → wpAny (model P w) A (g b) Q1 E s1) → ∀ tb2 : SetTable, tb2.fits rows1.size = true → Ris tb2.place.toList → (w.params.followText "set-order" = true ∨ tb2.led = true) →
        wpAny (model P w) A (do
          storeSet a rows1 tb2
          if (!dummy && tb2.tooFull) = true then
            g (relayAll tb2 rows1 (SetTable.grown rows1.size)).2.2
            storeSet a (relayAll tb2 rows1 (SetTable.grown rows1.size)).1 (relayAll tb2 rows1 (SetTable.grown rows1.size)).2.1
            pure (some true)
          else pure (some true)) (fun r s' => r = some true ∧ ∃ h', s' = { s with heap := h' } ∧ Heap.SameBut a s.heap h' ∧ Has w h' a ((knd.hash k, x) :: L)) E s := by
      intro g hg tb2 f2 r2 l2
      obtain ⟨e1, h1⟩ := store_has (w := w) e ex d pm1 few1 f2 r2 l2
      refine wpAny_bind (wpAny_storeSet_of e d ?_ (rows_few pm1 few1))
      have sb1 := Heap.SameBut.update s.heap a (Obj.putSet rows1 tb2)
      split
      · have p1 := relayAll_perm tb2 rows1 (SetTable.grown rows1.size)
        have p2 := relayAll_fits tb2 rows1 (SetTable.grown rows1.size)
        have p3 := relayAll_ris tb2 rows1 (SetTable.grown rows1.size)
        have p4 := relayAll_led tb2 rows1 (SetTable.grown rows1.size)
        generalize relayAll tb2 rows1 (SetTable.grown rows1.size) = Z at p1 p2 p3 p4 ⊢
        obtain ⟨rows3, tb3, g3⟩ := Z
        dsimp only at p1 p2 p3 p4 ⊢
        refine wpAny_bind (hg _ _ _ (wpAny_bind (wpAny_storeSet_of e1 rfl ?_ (rows_few (p1.trans pm1) few1))))
        obtain ⟨_, h2⟩ := store_has (w := w) e1 ex rfl (p1.trans pm1) few1 p2 p3 (by rw [p4]; exact l2)
        exact wpAny_pure ⟨rfl, _, rfl, sb1.trans (Heap.SameBut.update _ a _), h2⟩
      · exact wpAny_pure ⟨rfl, _, rfl, sb1, h1⟩
    have gw : ∀ (b : Bool) (s1 : Shared) (Q1 : Unit → Shared → Prop), Q1 () s1 → wpAny (model P w) A (match b with | true => rule "set.scan.the-table-gave-way" | false => pure ()) Q1 E s1 := fun b s1 Q1 q => by
      cases b
      · exact wpAny_pure q
      · exact wpAny_rule q
    have out : ∀ (r : Option Bool) (s' : Shared), (r = some true ∧ ∃ h', s' = { s with heap := h' } ∧ Heap.SameBut a s.heap h' ∧ Has w h' a ((knd.hash k, x) :: L)) → r = some true ∧ Q true s' := fun r s' ⟨e1, h', e2, sb, h⟩ => ⟨e1, by rw [e2]; exact fin h' sb h⟩
    refine wpAny_bind (gw _ _ _ ?_)
    have done : ∀ tb2 : SetTable, tb2.fits rows1.size = true → Ris tb2.place.toList → (w.params.followText "set-order" = true ∨ tb2.led = true) → _ := fun tb2 f2 r2 l2 => thn (tail (fun b => match b with | true => rule "set.scan.the-table-gave-way" | false => pure ()) gw tb2 f2 r2 l2) out
    by_cases pl : tb1.plain = true
    · rw [if_pos pl]
      refine wpAny_bind ?_
      rw [hashByValue_scannable 8 sc]
      refine wpAny_pure ?_
      cases plainKind x
      · refine thn (done _ ?_ q3 ld1) fun r s' ⟨e1, q⟩ => ?_
        · exact SetTable.fits_plain_off q2
        · rw [e1]; exact wpAny_pure q
      · refine thn (done tb1 q2 q3 ld1) fun r s' ⟨e1, q⟩ => ?_
        rw [e1]; exact wpAny_pure q
    · rw [if_neg pl]
      refine wpAny_bind (wpAny_pure ?_)
      refine thn (done tb1 q2 q3 ld1) fun r s' ⟨e1, q⟩ => ?_
      rw [e1]; exact wpAny_pure q
end
/-! ### texts -/
/-- the rows L hold the texts ks -/
inductive Texts (w : World) : List (Int × Value) → List Str → Prop
  | nil : Texts w [] []
  | cons {L : List (Int × Value)} {ks : List Str} (z : Str) (t : Tok) : Texts w L ks → Texts w ((hashStr w z, .str z t) :: L) (z :: ks)
theorem Texts.len {w : World} {L : List (Int × Value)} {ks : List Str} (x : Texts w L ks) : L.length = ks.length := by
  induction x with
  | nil => rfl
  | cons z t _ ih => rw [List.length_cons, List.length_cons, ih]
theorem Texts.row {w : World} {L : List (Int × Value)} {ks : List Str} (x : Texts w L ks) : ∀ e ∈ L, ∃ z t, z ∈ ks ∧ e = (hashStr w z, .str z t) := by
  induction x with
  | nil => intro e he; cases he
  | cons z t _ ih =>
    intro e he
    rcases List.mem_cons.mp he with rfl | he
    · exact ⟨z, t, List.mem_cons_self, rfl⟩
    · obtain ⟨y, u, h1, h2⟩ := ih e he
      exact ⟨y, u, List.mem_cons_of_mem _ h1, h2⟩
theorem Texts.vals {w : World} {L : List (Int × Value)} {ks : List Str} (x : Texts w L ks) : StrsAre (L.map (·.2)) ks := by
  induction x with
  | nil => exact .nil
  | cons z t _ ih => exact .cons z t ih
theorem Texts.all {P : Program} {w : World} {L : List (Int × Value)} {ks : List Str} (x : Texts w L ks) : ElemsOf (PySem.strKind P w) L := fun e he => by
  obtain ⟨z, t, _, rfl⟩ := x.row e he
  exact ⟨⟨z, strKind_is P w z t, rfl⟩, rfl⟩
theorem Texts.has {P : Program} {w : World} {L : List (Int × Value)} {ks : List Str} (x : Texts w L ks) {z : Str} : (∃ e ∈ L, (PySem.strKind P w).is z e.2 = true) ↔ z ∈ ks := by
  induction x with
  | nil => simp
  | @cons L ks y t _ ih =>
    constructor
    · rintro ⟨e, he, q⟩
      rcases List.mem_cons.mp he with rfl | he
      · have q : (y == z) = true := q
        rw [beq_iff_eq.mp q]
        exact List.mem_cons_self
      · exact List.mem_cons_of_mem _ (ih.mp ⟨e, he, q⟩)
    · intro h
      rcases List.mem_cons.mp h with rfl | h
      · exact ⟨_, List.mem_cons_self, strKind_is P w z t⟩
      · obtain ⟨e, he, q⟩ := ih.mpr h
        exact ⟨e, List.mem_cons_of_mem _ he, q⟩
/-- a set of the texts ks, none twice -/
def Of (w : World) (h : Heap) (a : Addr) (ks : List Str) : Prop := ks.Nodup ∧ ∃ L, Has w h a L ∧ Texts w L ks
theorem Of.move {w : World} {h h' : Heap} {a : Addr} {ks : List Str} (x : Of w h a ks) (k : ∀ o, h.get? a = some o → h'.get? a = some o) : Of w h' a ks := by
  obtain ⟨nd, L, hh, t⟩ := x
  exact ⟨nd, L, hh.move k, t⟩
/-- what the first i of the texts have brought -/
structure Seen (xs : List Str) (i : Nat) (ks : List Str) : Prop where
  few : ks.length ≤ i
  mem : ∀ z, z ∈ ks ↔ z ∈ xs.take i
section
variable {P : Program} {w : World} {A : Around} {E : Value → Shared → Prop} {s : Shared} {S : Addr}
theorem add_text {z : Str} {t : Tok} {ks : List Str} (R : Of w s.heap S ks) (room : ks.length + 1 < scanBound) {Q : Bool → Shared → Prop}
    (old : z ∈ ks → Q false s) (new : z ∉ ks → ∀ h', Heap.SameBut S s.heap h' → Of w h' S (z :: ks) → Q true { s with heap := h' }) :
    wpAny (model P w) A (setAddHashed S (.str z t) ((PySem.strKind P w).hash z)) Q E s := by
  obtain ⟨nd, L, hh, tx⟩ := R
  refine add_key (strKind_is P w z t) rfl hh tx.all (by rw [tx.len]; exact room) (fun h => old (tx.has.mp h)) fun h h' sb hh' => ?_
  have nz : z ∉ ks := fun q => by
    obtain ⟨e, he, y⟩ := (tx.has (P := P)).mpr q
    rw [h e he] at y
    cases y
  exact new nz h' sb ⟨List.nodup_cons.mpr ⟨nz, nd⟩, _, hh', .cons z t tx⟩
end
section
variable {P : Program} {w : World} {A : Around} {R : Result → Shared → Prop} {I : Addr} {fp wr : List Addr} {G : Array GenState → Array GenState → Prop} {n : Nat} {Pv : Nat → Value → Prop} {St : Nat → Shared → Prop}
/-- set(..)'s loop over texts -/
theorem text_loop (W : WalksS P w A.in1 I fp wr G n Pv St) (S : Addr) (out : S ∉ fp) (xs : List Str) (len : xs.length = n) (room : n + 1 < scanBound) (val : ∀ i v, Pv i v → ∃ t, v = .str (xs.getD i Str.empty) t) (m : Nat) :
    ∀ (i : Nat) (s : Shared) (ks : List Str), n - i = m → i ≤ n → St i s → Of w s.heap S ks → Seen xs i ks → (∀ s' ks', Moved (S :: wr) G s s' → Of w s'.heap S ks' → Seen xs n ks' → R (.ok (.ret .none)) s') →
      codeAny (model P w) A (.builtin "set.update.loop" ⟨[.ref S, .ref I], []⟩) R s := by
  have out2 : S ∉ wr := fun z => out (W.sub _ z)
  have sub : ∀ b ∈ wr, b ∈ S :: wr := fun b z => List.mem_cons_of_mem _ z
  induction m with
  | zero =>
    intro i s ks e le st o sn fin
    obtain rfl : i = n := by omega
    refine codeAny_builtin F.entry_set_update_loop ?_
    rw [Around.under_plainId F.plain_set_update_loop _]
    refine wpAny_bind (W.done s _ _ st fun s1 mv => wpAny_pure (fin s1 ks (mv.mono sub) (o.move fun q hq => mv.heap S q out2 hq) sn))
  | succ m ih =>
    intro i s ks e le st o sn fin
    have lt : i < n := by omega
    refine codeAny_builtin F.entry_set_update_loop ?_
    rw [Around.under_plainId F.plain_set_update_loop _]
    refine wpAny_bind (W.item i s _ _ lt st fun v s1 pv st1 mv => ?_)
    obtain ⟨t, rfl⟩ := val i v pv
    have o1 := o.move (h' := s1.heap) fun q hq => mv.heap S q out2 hq
    have tk : xs.take (i + 1) = xs.take i ++ [xs.getD i Str.empty] := by
      have il : i < xs.length := by omega
      rw [List.take_add_one, List.getD_eq_getElem?_getD, List.getElem?_eq_getElem il]
      rfl
    generalize xs.getD i Str.empty = z at tk
    refine wpAny_bind (wpAny_holding ?_)
    unfold setAdd
    refine wpAny_holding (wpAny_bind ((PySem.strKind P w).pyHash (strKind_is P w z t) ?_))
    refine add_text (s := { s1 with toks := s1.toks + 1 }) o1 (by have := sn.few; omega) (fun hz => ?_) fun hz h' sb o2 => ?_
    · refine wpAny_pure ⟨plainId_quiet F.plain_set_update_loop _, ih (i + 1) _ ks (by omega) lt (W.frame _ s1 _ _ st1 (Nat.le_succ _) fun b hb q hq => hq) o1 ⟨Nat.le_succ_of_le sn.few, fun y => ?_⟩ fun s2 ks2 mv2 o2 sn2 => ?_⟩
      · rw [tk, List.mem_append, List.mem_singleton, ← sn.mem y]
        exact ⟨.inl, fun q => q.elim id fun q => q ▸ hz⟩
      · exact fin s2 ks2 (Moved.trans W.gtrans ((mv.mono sub).then_heap (Nat.le_succ _) fun b q hb hq => hq) mv2) o2 sn2
    · refine wpAny_pure ⟨plainId_quiet F.plain_set_update_loop _, ih (i + 1) _ (z :: ks) (by omega) lt (W.frame _ s1 _ _ st1 (Nat.le_succ _) fun b hb q hq => ?_) o2 ⟨by rw [List.length_cons]; exact Nat.succ_le_succ sn.few, fun y => ?_⟩ fun s2 ks2 mv2 o3 sn2 => ?_⟩
      · exact (sb.2 b fun q2 => out (q2 ▸ hb)).trans hq
      · rw [tk, List.mem_append, List.mem_singleton, ← sn.mem y, List.mem_cons]
        exact Or.comm
      · exact fin s2 ks2 (Moved.trans W.gtrans ((mv.mono sub).then_heap (Nat.le_succ _) fun b q hb hq => (sb.2 b fun q2 => hb (q2 ▸ List.mem_cons_self)).trans hq) mv2) o3 sn2
end
/-- a new set, as set(..) makes it -/
abbrev bare (w : World) : Obj := { cls := .type "set", dict := none, data := .set #[] 0 (.fresh 0 0 (!w.params.followText "set-order")) }
theorem bare_of {w : World} {h : Heap} {a : Addr} (e : h.get? a = some (bare w)) : Of w h a [] := by
  refine ⟨List.nodup_nil, [], ⟨_, #[], 0, _, e, ⟨rfl, rfl, rfl⟩, rfl, .refl _, by decide, by rfl, List.Pairwise.nil, ?_⟩, .nil⟩
  show _ ∨ (!w.params.followText "set-order") = true
  cases w.params.followText "set-order" <;> simp
section
variable {P : Program} {w : World} {A : Around} {E : Value → Shared → Prop} {s : Shared}
theorem new_code (a : Value) {Q : Value → Shared → Prop} (h : Q (.ref s.heap.objs.size) { s with heap := s.heap.push (bare w) }) :
    codeAny (model P w) A (.call (.builtin "set.__new__") ⟨[.type "set", a], []⟩) (wants Q E) s := by
  have sup := sub_set_self
  refine codeAny_of_tree ?_
  show wpAny _ A.in1 (checkBuiltinCall "set.__new__" ⟨[.type "set", a], []⟩ >>= fun _ => again (.builtin "set.__new__" ⟨[.type "set", a], []⟩)) _ _ s
  refine wpAny_bind (wpAny_of_eq (F.newCall_set_1 a) (wpAny_pure ⟨plainId_quiet F.plain_set_new _, codeAny_builtin F.entry_set_new ?_⟩))
  rw [Around.under_plainId F.plain_set_new _]
  rcases s with ⟨hp, g, d, tk, os⟩
  unfold Builtin.«set.__new__» Builtin.Frozenset.newClass
  dsimp only
  wp_walk
  refine wpAny_askSetting (wpAny_pure ?_)
  dsimp only
  simp only [newObj]
  exact wpAny_bind (wpAny_alloc (wpAny_pure (wpAny_pure h)))
/-- set(xs), xs a list of texts -/
theorem call_texts {l : Addr} {items : Array Value} {xs : List Str} {Q : Value → Shared → Prop} (hh : A.handled = none) (hl : s.heap.IsList l items) (hi : StrsAre items.toList xs) (few : xs.length + 1 < scanBound)
    (h : ∀ h' tk ks, (∀ b o, b < s.heap.objs.size → s.heap.get? b = some o → h'.get? b = some o) → Of w h' s.heap.objs.size ks → Seen xs xs.length ks → Q (.ref s.heap.objs.size) { s with heap := h', toks := tk }) :
    wpAny (model P w) A (call (.type "set") [.ref l]) Q E s := by
  have size : items.size = xs.length := by rw [← StrsAre.len_eq hi, Array.length_toList]
  have old : l < s.heap.objs.size := by obtain ⟨o, e, _⟩ := hl; exact Heap.lt_size e
  have at0 : (s.heap.push (bare w)).get? s.heap.objs.size = some (bare w) := Heap.get?_push_size _ rfl
  have kind : Shared.TypeIs { s with heap := s.heap.push (bare w) } (.ref s.heap.objs.size) "set" := ⟨_, at0, rfl⟩
  -- the class is called
  obtain ⟨cls, anc, mro⟩ := F.called_set.mro
  have f1 := F.called_set.made
  have f2 := F.called_set.sub
  have f3 := F.called_set.notType
  have f4 := F.called_set.canCreate
  have f5 := F.typeCall_set_1 (.ref l)
  refine wpAny_call (codeAny_of_tree ?_)
  show wpAny _ _ (callAny (.type "set") _) _ _ _
  refine wpAny_pure ⟨Code.quiet_builtin _ (by decide +kernel), codeAny_builtin F.entry_type_call ?_⟩
  rw [Around.under_plain (weight_type_call_type "set" [.ref l] []) rfl]
  repeat (any_goals (first | assumption | wp_step))
  refine codeAny_mono (new_code (.ref l) (E := E) (Q := fun v s1 => v = .ref s.heap.objs.size ∧ s1 = { s with heap := s.heap.push (bare w) }) ⟨rfl, rfl⟩) fun r s1 hr => ?_
  match r, hr with
  | .error e, hr => exact hr
  | .ok (.ret v), ⟨e1, e2⟩ =>
    subst e1 e2
    have f6 := F.called_set.init.lookup
    have f7 := F.called_set.init.bind (.ref s.heap.objs.size)
    repeat (any_goals (first | assumption | wp_step))
    refine codeAny_mono (codeAny_call_builtin (R := wants (fun v s2 => v = .none ∧ ∃ h' tk ks, s2 = { s with heap := h', toks := tk } ∧ (∀ b o, b < s.heap.objs.size → s.heap.get? b = some o → h'.get? b = some o) ∧ Of w h' s.heap.objs.size ks ∧ Seen xs xs.length ks) E)
      F.called_set.init.plain F.entry_set_init (check_set_init_1 kind ?_)) fun r2 s2 hr2 => ?_
    · -- __init__ walks the list
      rcases hl with ⟨⟨oc, od, ot, os⟩, e, ec, en, ed⟩
      simp only at ec ed
      subst ec ed
      have e' := Heap.get?_push_of_some (bare w) e
      have g1 := F.sub_list_set
      have g2 := F.sub_list_frozenset
      have g3 : (Value.type "list" == Value.type "dict") = false := by decide
      unfold Builtin.«set.__init__» noKeywords Builtin.Frozenset.updateFrom
      generalize hPI : pyIter = PI
      wp_walk
      subst hPI
      have isl : (s.heap.push (bare w)).IsList l items := ⟨_, e', rfl, en, rfl⟩
      refine wpAny_pyIter_list isl (wpAny_bind (wpAny_runValue ?_))
      have big : (s.heap.push (bare w)).objs.size = s.heap.objs.size + 1 := Heap.size_push ..
      have ne1 : l ≠ (s.heap.push (bare w)).objs.size := Nat.ne_of_lt (by rw [big]; exact Nat.lt_succ_of_lt old)
      have ne2 : s.heap.objs.size ∉ [(s.heap.push (bare w)).objs.size, l] := by
        simp only [List.mem_cons, List.not_mem_nil, or_false, not_or]
        exact ⟨Nat.ne_of_lt (by rw [big]; exact Nat.lt_succ_self _), (Nat.ne_of_lt old).symm⟩
      have hn3 : A.in1.in1.in1.handled = none := by simp [hh]
      refine text_loop ((Walks.list hn3 _ l ne1 items).toS) s.heap.objs.size ne2 xs size.symm (by rw [size]; exact few) (fun i v hv => SS.strs_at hi i v (by rw [Array.getElem?_toList]; exact hv)) (items.size - 0) 0 _ [] rfl (Nat.zero_le _)
        ⟨⟨_, Heap.get?_push_size _ rfl, rfl, rfl⟩, isl.push _⟩ (bare_of (Heap.get?_push_of_some _ at0)) ⟨Nat.le_refl _, fun z => by simp⟩ fun s3 ks mv o sn => ?_
      rcases s3 with ⟨h3, g3', d3, t3, o3⟩
      obtain rfl : g3' = s.gens := mv.gens
      obtain rfl : d3 = s.drawn := mv.drawn
      obtain rfl : o3 = s.os := mv.os
      refine wpAny_pure (wpAny_pure ⟨rfl, h3, t3, ks, rfl, fun b q hb hq => ?_, o, by rw [← size]; exact sn⟩)
      refine mv.heap b q ?_ (Heap.get?_push_of_some _ (Heap.get?_push_of_some _ hq))
      simp only [List.mem_cons, List.not_mem_nil, or_false, not_or]
      exact ⟨Nat.ne_of_lt hb, Nat.ne_of_lt (by rw [big]; exact Nat.lt_succ_of_lt hb)⟩
    · match r2, hr2 with
      | .error e, hr2 => exact hr2
      | .ok (.ret v), ⟨e1, h', tk, ks, e2, keep, o, sn⟩ =>
        subst e1 e2
        repeat (any_goals (first | assumption | wp_step))
        exact h h' tk ks keep o sn
      | .ok (.next), hr2 => exact hr2.elim
      | .ok (.brk), hr2 => exact hr2.elim
      | .ok (.cont), hr2 => exact hr2.elim
  | .ok (.next), hr => exact hr.elim
  | .ok (.brk), hr => exact hr.elim
  | .ok (.cont), hr => exact hr.elim
end
end SetE
set_option Elab.async false
set_option linter.all false
set_option maxRecDepth 100000
set_option maxHeartbeats 4000000
namespace SetE
open PySem PySem.Spec PyProof.Rows L2
theorem strs_perm {vs us : List Value} (p : vs.Perm us) : ∀ ks, StrsAre us ks → ∃ xs, StrsAre vs xs ∧ xs.Perm ks := by
  induction p with
  | nil => intro ks h; cases h; exact ⟨[], .nil, .refl _⟩
  | cons v _ ih =>
    intro ks h
    cases h with
    | cons z t h =>
      obtain ⟨xs, a1, a2⟩ := ih _ h
      exact ⟨z :: xs, .cons z t a1, a2.cons z⟩
  | swap u v l =>
    intro ks h
    cases h with
    | cons z t h =>
      cases h with
      | cons y r h => exact ⟨_, .cons y r (.cons z t h), .swap z y _⟩
  | trans _ _ ih1 ih2 =>
    intro ks h
    obtain ⟨xs, a1, a2⟩ := ih2 ks h
    obtain ⟨ys, b1, b2⟩ := ih1 xs a1
    exact ⟨ys, b1, b2.trans a2⟩
section
variable {P : Program} {w : World} {A : Around} {E : Value → Shared → Prop} {s : Shared} {a : Addr} {ks : List Str}
/-- sorted(a set of texts) -/
theorem call_sorted {Q : Value → Shared → Prop} (R : Of w s.heap a ks) (hh : A.handled = none) (few : ks.length < 64)
    (h : ∀ s' p (out : Array Value) (c : Nat) (zs : List Str), (∀ b o, s.heap.get? b = some o → s'.heap.get? b = some o) → s'.gens = s.gens → s'.os = s.os → s.heap.objs.size ≤ p → s'.heap.get? p = some (seqObj "list" out c) →
      StrsAre out.toList zs → zs.Perm ks → sortedS zs = true → Q (.ref p) s') : wpAny (model P w) A (call (.builtin "sorted") [.ref a]) Q E s := by
  obtain ⟨nd, L, ⟨ob, rows, ver, tb, e, ex, d, pm, lf, ft, ri, ld⟩, tx⟩ := R
  have rf : rows.size < scanBound := by
    have q := pm.length_eq
    rw [Array.length_toList] at q
    omega
  refine Calls.call_function_entry kind_sorted plain_sorted entry_sorted (args_sorted1 _) ?_
  unfold Builtin.«sorted»
  refine wpAny_bind (m := checkCount "sorted" 1 1 _) (wpAny_pure (wpAny_bind (collect_set (A := A.in1) hh ⟨ob, e, ex.1, d⟩ ft rf ri ld fun s1 vs keep big gs os pv => ?_)))
  -- what was collected are the texts, in some order
  obtain ⟨xs, xv, xp⟩ := strs_perm (pv.trans (pm.map (·.2))) ks tx.vals
  have lv : vs.length < 64 := by
    have q := pv.length_eq
    have q2 := pm.length_eq
    have q3 := tx.len
    rw [List.length_map] at q
    omega
  refine wpAny_bind (wpAny_newList ?_ (by rw [sizeLine_eq]; omega))
  have atL : (s1.heap.push (seqObj "list" vs.toArray 0)).get? s1.heap.objs.size = some (seqObj "list" vs.toArray 0) := Heap.get?_push_size _ rfl
  refine wpAny_bind (wpAny_holding (wpAny_call_entry slot_list_sort ⟨_, atL, rfl⟩ entry_list_sort (list_sort_treeK strKind_oneLt atL xv.keysOf (fun v1 v2 r q => keyKind_strs (by rw [← q]; exact xv)) lv fun o hp hs => ⟨_, rfl, ?_⟩) (args_list_sort _)))
  obtain ⟨zs, z1, z2, z3⟩ := sorted_out_str xv hp hs
  obtain ⟨c, hc⟩ := sortedHeap_at (vs := vs) (out := (arrOf o).map (·.2)) atL
  refine wpAny_pure ⟨_, rfl, h _ s1.heap.objs.size _ c zs (fun b q hq => ?_) gs os big hc z1 (z2.trans xp) z3⟩
  have hq1 := keep b q hq
  have lt := Heap.lt_size hq1
  show (sortedHeap _ s1.heap.objs.size vs _).get? b = some q
  rw [sortedHeap_old (Nat.ne_of_lt lt) (by rw [size_push']; exact Nat.lt_succ_of_lt lt)]
  exact Heap.get?_push_of_some _ hq1
end
/-! ### the rules -/
/-- a set of the texts ks stands at a -/
def TextSet (w : World) (a : Addr) (ks : List Str) : HO := .ext fun h => Of w h a ks
section
variable {X : Cx}
/-- set(xs), xs a list of texts -/
def rSetS (K : PySem.W.Frag) (w : World) : List V → Hp → VK → Prop := fun vs H Q => ∃ (l : Addr) (zs : List Str), vs = [V.ref l] ∧ SqL K H l (zs.map V.str) ∧ zs.length ≤ 4000 ∧
  ∀ a ks, H a = none → ks.Nodup → ks.length ≤ zs.length → (∀ z, z ∈ ks ↔ z ∈ zs) → Q (.ref a) (upd H a (TextSet w a ks))
theorem cr_setS (hc : X.calm = true) : CallR X (.type "set") (rSetS X.K X.w) := by
  intro pins s σ H vs us Q I r h
  obtain ⟨l, zs, rfl, hs, few, q⟩ := h
  obtain ⟨its, rv, hl, _⟩ := I.list hs
  rw [Vals.ref1 r]
  have xv := rv.strs
  refine call_texts (I.ok.hd hc) hl.isList xv (by unfold scanBound; omega) fun h' tk ks keep o sn => ?_
  have new : H s.heap.objs.size = none := I.hok.fresh (Nat.le_refl _)
  have ok : ObjOk X.prog X.w (upd H s.heap.objs.size (TextSet X.w s.heap.objs.size ks)) h' s.heap.objs.size (TextSet X.w s.heap.objs.size ks) := by
    obtain ⟨_, _, ⟨ob, _, _, _, e, _⟩, _⟩ := id o
    exact ⟨o, ⟨ob, e⟩, fun h1 h2 p k => p.move k⟩
  refine ⟨.ref s.heap.objs.size, _, I.laid (t' := tk) (fun b o e => keep b o (Heap.lt_size e) e) (Nat.le_refl _) ok, rfl, q _ ks new o.1 sn.few fun z => ?_⟩
  rw [sn.mem z, List.take_length]
/-- sorted(set), fewer than 64 texts -/
def rSortS (w : World) : List V → Hp → VK → Prop := fun vs H Q => ∃ (a : Addr) (ks : List Str), vs = [V.ref a] ∧ H a = some (TextSet w a ks) ∧ ks.length < 64 ∧ ∀ (zs : List Str) (p : Addr), zs.Perm ks → sortedS zs = true → H p = none → Q (.ref p) (upd H p (.lst (zs.map V.str)))
theorem cr_sortS (hc : X.calm = true) : CallR X (.builtin "sorted") (rSortS X.w) := by
  intro pins s σ H vs us Q I r h
  obtain ⟨a, ks, rfl, ha, few, q⟩ := h
  have o : Of X.w s.heap a ks := (I.hok a _ ha).1
  rw [Vals.ref1 r]
  refine call_sorted o (I.ok.hd hc) few fun s1 p out c zs keep gs os big at_ zv zp zs' => ?_
  have new : H p = none := I.hok.fresh big
  have len : (zs.map V.str).length ≤ sizeLine := by rw [List.length_map, zp.length_eq, sizeLine_eq]; omega
  have J : Inv X pins σ (upd H p (.lst (zs.map V.str))) { s with heap := s1.heap, gens := s1.gens, drawn := s1.drawn, toks := s1.toks } :=
    I.call (ch := []) (Un.laid keep big new) (I.hok.laid keep big ⟨len, out.toList, c, vals_of_strs zv, at_⟩) (by rw [gs]; exact I.bare) (fun _ z => nomatch z)
  have e : s1 = { s with heap := s1.heap, gens := s1.gens, drawn := s1.drawn, toks := s1.toks } := by
    rw [← os]
  rw [e]
  exact ⟨.ref p, _, J, rfl, q zs p zp zs' new⟩
end
end SetE
set_option Elab.async false
set_option linter.all false
set_option maxRecDepth 100000
set_option maxHeartbeats 8000000
namespace KW
open PySem PySem.Spec PyProof.Rows L2 He Sw L2H
section
variable {P : Program} {w : World} {K : PySem.W.Frag} {mg : Str → Option Value} {base : Heap}
theorem pe_gi {X : Cx} {x : Str} {p : Pos} {n : Int} (hg : Gl X x) (h : ∃ t, X.mg x = some (.int n t)) (hd : (x == ("__debug__" : Str)) = false := by decide) : PE X (.Name x p) (tC (.int n)) := by
  obtain ⟨t, h⟩ := h
  exact pe_glob (v := .int n) hg h ⟨_, rfl⟩ hd
theorem c_is_integer (T : Txt K mg) : Cal P w K mg base CX0 1 (ga K "is_integer") ["thing"] spIsInt := by
  obtain ⟨fd, F⟩ := T.f_is_integer
  exact ⟨fd, ok_isInt T F, F.kp, F.bindsN fun _ _ _ _ _ _ us hl => match us, hl with | [_], _ => rfl⟩
theorem c_check_name (T : Txt K mg) : Cal P w K mg base CX0 2 (ga K "check_name") ["thing"] spCkName := by
  obtain ⟨fd, F⟩ := T.f_check_name
  obtain ⟨fdN, FN⟩ := T.f_is_name
  exact ⟨fd, ok_ckName T F FN, F.kp, F.bindsN fun _ _ _ _ _ _ us hl => match us, hl with | [_], _ => rfl⟩
theorem c_form (T : Txt K mg) : Cal P w K mg base CX0 1 (ma K (ga K "Formula") "__init__") ["self", "kind", "things", "inner"] (spForm K) := by
  obtain ⟨fd, F⟩ := T.f_Formula___init__
  exact ⟨fd, ok_form T F, F.kp, F.bindsN fun _ _ _ _ _ _ us hl => match us, hl with | [_, _, _, _], _ => rfl⟩
theorem kitF (T : Txt K mg) {C : Str} (h : C ∈ clsL) : PySem.W.kitOne K (.ref (ga K C)) (.ref (ga K "Formula")) = some true := by
  have e := T.kit C h "Formula" (by decide +kernel)
  rw [e, show decide (("Formula" : Str) = "Formula") = true by decide +kernel, Bool.or_true]
/-! ### check_formula -/
def spCkForm (K : PySem.W.Frag) : Sp := fun vs H Q _ => ∃ (f : Fo) (a : Addr), vs = [.ref a] ∧ FoAt K H f a ∧ Q .non H
theorem sc_check_formula : FnScope ["thing"] ["thing"] (defScope sCkForm) := ⟨rfl, rfl, rfl, by decide +kernel, rfl, by decide +kernel, by decide +kernel⟩
theorem ok_check_formula (T : Txt K mg) : Cal P w K mg base CX0 (1) (ga K "check_formula") ["thing"] (spCkForm K) := by
  obtain ⟨fd, F⟩ := T.f_check_formula
  refine ⟨fd, ?_, F.kp, F.bindsN fun _ _ _ _ _ _ us hl => match us, hl with | [_], _ => rfl⟩
  refine F.ok sc_check_formula (fun vs H Q E h => ?_) (fun cdv A outer s H vs Q E hr h => ?_)
  · obtain ⟨_, _, rfl, _⟩ := h
    rfl
  have nod := sc_check_formula.nd
  have hu := hu_of hr
  refine ⟨_, PSs.nox (pss_one (ps_if (pt_not (pt_val (pe_callB call_isi rfl (T.f "isinstance") (by decide +kernel) (pa_cons (pv 0) (pa_cons (pe_glob (v := .ref (ga K "Formula")) rfl (T.g "Formula") rfl) pa_nil)))))
    (pss_one ps_never)
    pss_nil)), ?_⟩
  obtain ⟨f, a, rfl, hf, q⟩ := h
  obtain ⟨dx, fs, e⟩ := hf.ins
  have I := T.ins _ f.cls_mem
  refine ⟨_, rfl, .ref a, _, _, _, true, rfl, .own _, .base (.ins e I.cl I.ha I.hn I.ht I.hm), kitF T f.cls_mem, _, rfl, ?_⟩
  exact ite2 (fun h => absurd h (by decide)) (fun _ => q)
/-! ### the operators -/
def spBin (K : PySem.W.Frag) (o : B3) : Sp := fun vs H Q _ => ∃ (f g : Fo) (a b : Addr), vs = [.ref a, .ref b] ∧ FoAt K H f a ∧ FoAt K H g b ∧ (Fo.bin o f g).Fits ∧ ∀ H' x, Same H H' → FoAt K H' (.bin o f g) x → Q (.ref x) H'
theorem bin_read (T : Txt K mg) {o : B3} {f g : Fo} {a b : Addr} {H : Hp} {Q : VK} (hf : FoAt K H f a) (hg : FoAt K H g b) (fit : (Fo.bin o f g).Fits) (q : ∀ H' x, Same H H' → FoAt K H' (.bin o f g) x → Q (.ref x) H') :
    ∀ t, H t = none → ∀ e, (upd H t (.tup [.ref a, .ref b])) e = none → ∀ x dx, (upd (upd H t (.tup [.ref a, .ref b])) e (.tup [.ref a, .ref b])) x = none → (upd (upd H t (.tup [.ref a, .ref b])) e (.tup [.ref a, .ref b])) dx = none → dx ≠ x → ∀ E,
      spForm K [.ref x, .str o.str, .ref t, .ref e] (upd (upd (upd (upd H t (.tup [.ref a, .ref b])) e (.tup [.ref a, .ref b])) dx (.own x)) x (.ins (ga K "Formula") dx [])) (fun v H3 => v = .non ∧ Q (.ref x) H3) E := by
  intro t ht e he x dx hx hdx ne E
  have s1 := upd_new (o := .tup [V.ref a, .ref b]) ht
  have s2 := upd_new (o := .tup [V.ref a, .ref b]) he
  obtain ⟨th1, k1⟩ := hf.kid
  obtain ⟨th2, k2⟩ := hg.kid
  refine form_read (f := .bin o f g) (th := [.ref a, .ref b]) (ks := [f.kd a th1, g.kd b th2]) T rfl (s1.trans s2) (fun k hk => ?_) (by show 2 ≤ 10; decide) ?_ ?_ fit (s2 _ _ upd_same) upd_same (fun H' x s n => q H' x s ?_) x dx hx hdx ne E
  · rcases List.mem_cons.mp hk with rfl | hk
    · exact k1
    · rw [List.mem_singleton.mp hk]; exact k2
  · rw [Fo.parts]
    show 1 + (f.parts + g.parts) = 1 + (f.parts + (g.parts + 0))
    omega
  · rw [Fo.depth]
    show 1 + max f.depth g.depth = 1 + max f.depth (max g.depth 0)
    omega
  · simp only [FoAt]
    exact ⟨a, b, n, hf.same s, hg.same s⟩
theorem sc_Formula___add__ : FnScope ["self", "other"] ["self", "other"] (defScope sAdd) := ⟨rfl, rfl, rfl, by decide +kernel, rfl, by decide +kernel, by decide +kernel⟩
theorem ok_Formula___add__ (T : Txt K mg) : Cal P w K mg base CX0 (3) (ma K (ga K "Formula") "__add__") ["self", "other"] (spBin K .plus) := by
  obtain ⟨fd, F⟩ := T.f_Formula___add__
  refine ⟨fd, ?_, F.kp, F.bindsN fun _ _ _ _ _ _ us hl => match us, hl with | [_, _], _ => rfl⟩
  refine F.ok sc_Formula___add__ (fun vs H Q E h => ?_) (fun cdv A outer s H vs Q E hr h => ?_)
  · obtain ⟨_, _, _, _, rfl, _⟩ := h
    rfl
  have nod := sc_Formula___add__.nd
  have hu := hu_of hr
  refine ⟨_, PSs.nox (pss_cons (ps_expr (pe_callC (ok_check_formula T) (hr.mono (by omega)) rfl (T.g "check_formula") pass0 (pa_cons (pv 1) pa_nil)))
  (pss_one (ps_ret (pe_makeC (T.ins "Formula" (by decide +kernel)).mkr (c_form T) (hr.mono (by omega)) rfl (T.g "Formula") pass0 (pa_cons pe_str (pa_cons (pe_tup (pa_cons (pv 0) (pa_cons (pv 1) pa_nil))) (pa_cons (pe_tup (pa_cons (pv 0) (pa_cons (pv 1) pa_nil))) pa_nil))))))), ?_⟩
  obtain ⟨f, g, a, b, rfl, hf, hg, fit, q⟩ := h
  exact ⟨_, rfl, g, b, rfl, hg, _, rfl, _, rfl, tsz (by show 2 ≤ 1000000; decide), fun t ht => ⟨_, rfl, _, rfl, tsz (by show 2 ≤ 1000000; decide), fun e he x dx hx hdx ne => bin_read T hf hg fit q t ht e he x dx hx hdx ne _⟩⟩
theorem sc_Formula___sub__ : FnScope ["self", "other"] ["self", "other"] (defScope sSub) := ⟨rfl, rfl, rfl, by decide +kernel, rfl, by decide +kernel, by decide +kernel⟩
theorem ok_Formula___sub__ (T : Txt K mg) : Cal P w K mg base CX0 (3) (ma K (ga K "Formula") "__sub__") ["self", "other"] (spBin K .minus) := by
  obtain ⟨fd, F⟩ := T.f_Formula___sub__
  refine ⟨fd, ?_, F.kp, F.bindsN fun _ _ _ _ _ _ us hl => match us, hl with | [_, _], _ => rfl⟩
  refine F.ok sc_Formula___sub__ (fun vs H Q E h => ?_) (fun cdv A outer s H vs Q E hr h => ?_)
  · obtain ⟨_, _, _, _, rfl, _⟩ := h
    rfl
  have nod := sc_Formula___sub__.nd
  have hu := hu_of hr
  refine ⟨_, PSs.nox (pss_cons (ps_expr (pe_callC (ok_check_formula T) (hr.mono (by omega)) rfl (T.g "check_formula") pass0 (pa_cons (pv 1) pa_nil)))
  (pss_one (ps_ret (pe_makeC (T.ins "Formula" (by decide +kernel)).mkr (c_form T) (hr.mono (by omega)) rfl (T.g "Formula") pass0 (pa_cons pe_str (pa_cons (pe_tup (pa_cons (pv 0) (pa_cons (pv 1) pa_nil))) (pa_cons (pe_tup (pa_cons (pv 0) (pa_cons (pv 1) pa_nil))) pa_nil))))))), ?_⟩
  obtain ⟨f, g, a, b, rfl, hf, hg, fit, q⟩ := h
  exact ⟨_, rfl, g, b, rfl, hg, _, rfl, _, rfl, tsz (by show 2 ≤ 1000000; decide), fun t ht => ⟨_, rfl, _, rfl, tsz (by show 2 ≤ 1000000; decide), fun e he x dx hx hdx ne => bin_read T hf hg fit q t ht e he x dx hx hdx ne _⟩⟩
theorem sc_Formula___mul__ : FnScope ["self", "other"] ["self", "other"] (defScope sMul) := ⟨rfl, rfl, rfl, by decide +kernel, rfl, by decide +kernel, by decide +kernel⟩
theorem ok_Formula___mul__ (T : Txt K mg) : Cal P w K mg base CX0 (3) (ma K (ga K "Formula") "__mul__") ["self", "other"] (spBin K .times) := by
  obtain ⟨fd, F⟩ := T.f_Formula___mul__
  refine ⟨fd, ?_, F.kp, F.bindsN fun _ _ _ _ _ _ us hl => match us, hl with | [_, _], _ => rfl⟩
  refine F.ok sc_Formula___mul__ (fun vs H Q E h => ?_) (fun cdv A outer s H vs Q E hr h => ?_)
  · obtain ⟨_, _, _, _, rfl, _⟩ := h
    rfl
  have nod := sc_Formula___mul__.nd
  have hu := hu_of hr
  refine ⟨_, PSs.nox (pss_cons (ps_expr (pe_callC (ok_check_formula T) (hr.mono (by omega)) rfl (T.g "check_formula") pass0 (pa_cons (pv 1) pa_nil)))
  (pss_one (ps_ret (pe_makeC (T.ins "Formula" (by decide +kernel)).mkr (c_form T) (hr.mono (by omega)) rfl (T.g "Formula") pass0 (pa_cons pe_str (pa_cons (pe_tup (pa_cons (pv 0) (pa_cons (pv 1) pa_nil))) (pa_cons (pe_tup (pa_cons (pv 0) (pa_cons (pv 1) pa_nil))) pa_nil))))))), ?_⟩
  obtain ⟨f, g, a, b, rfl, hf, hg, fit, q⟩ := h
  exact ⟨_, rfl, g, b, rfl, hg, _, rfl, _, rfl, tsz (by show 2 ≤ 1000000; decide), fun t ht => ⟨_, rfl, _, rfl, tsz (by show 2 ≤ 1000000; decide), fun e he x dx hx hdx ne => bin_read T hf hg fit q t ht e he x dx hx hdx ne _⟩⟩
def spNeg (K : PySem.W.Frag) : Sp := fun vs H Q _ => ∃ (f : Fo) (a : Addr), vs = [.ref a] ∧ FoAt K H f a ∧ (Fo.neg f).Fits ∧ ∀ H' x, Same H H' → FoAt K H' (.neg f) x → Q (.ref x) H'
theorem sc_Formula___neg__ : FnScope ["self"] ["self"] (defScope sNeg) := ⟨rfl, rfl, rfl, by decide +kernel, rfl, by decide +kernel, by decide +kernel⟩
theorem ok_Formula___neg__ (T : Txt K mg) : Cal P w K mg base CX0 (3) (ma K (ga K "Formula") "__neg__") ["self"] (spNeg K) := by
  obtain ⟨fd, F⟩ := T.f_Formula___neg__
  refine ⟨fd, ?_, F.kp, F.bindsN fun _ _ _ _ _ _ us hl => match us, hl with | [_], _ => rfl⟩
  refine F.ok sc_Formula___neg__ (fun vs H Q E h => ?_) (fun cdv A outer s H vs Q E hr h => ?_)
  · obtain ⟨_, _, rfl, _⟩ := h
    rfl
  have nod := sc_Formula___neg__.nd
  have hu := hu_of hr
  refine ⟨_, PSs.nox (pss_one (ps_ret (pe_makeC (T.ins "Formula" (by decide +kernel)).mkr (c_form T) (hr.mono (by omega)) rfl (T.g "Formula") pass0 (pa_cons pe_str (pa_cons (pe_tup (pa_cons (pv 0) pa_nil)) (pa_cons (pe_tup (pa_cons (pv 0) pa_nil)) pa_nil)))))), ?_⟩
  obtain ⟨f, a, rfl, hf, fit, q⟩ := h
  refine ⟨_, rfl, tsz (by show 1 ≤ 1000000; decide), fun t ht => ⟨_, rfl, tsz (by show 1 ≤ 1000000; decide), fun e he x dx hx hdx ne => ?_⟩⟩
  have s1 := upd_new (o := .tup [V.ref a]) ht
  have s2 := upd_new (o := .tup [V.ref a]) he
  obtain ⟨th1, k1⟩ := hf.kid
  refine form_read (f := .neg f) (th := [.ref a]) (ks := [f.kd a th1]) T rfl (s1.trans s2) (fun k hk => by rw [List.mem_singleton.mp hk]; exact k1) (by show 1 ≤ 10; decide) ?_ ?_ fit (s2 _ _ upd_same) upd_same (fun H' x s n => q H' x s ?_) x dx hx hdx ne _
  · rw [Fo.parts]
    show 1 + f.parts = 1 + (f.parts + 0)
    omega
  · rw [Fo.depth]
    show 1 + f.depth = 1 + max f.depth 0
    omega
  · simp only [FoAt]
    exact ⟨a, n, hf.same s⟩
def spIsShift : Sp := fun vs H Q _ => ∃ i : Int, vs = [.int i] ∧ 0 ≤ i ∧ i ≤ 64 ∧ Q (.bl true) H
theorem sc_is_shift : FnScope ["thing"] ["thing"] (defScope sIsShift) := ⟨rfl, rfl, rfl, by decide +kernel, rfl, by decide +kernel, by decide +kernel⟩
theorem ok_is_shift (T : Txt K mg) : Cal P w K mg base CX0 (2) (ga K "is_shift") ["thing"] spIsShift := by
  obtain ⟨fd, F⟩ := T.f_is_shift
  refine ⟨fd, ?_, F.kp, F.bindsN fun _ _ _ _ _ _ us hl => match us, hl with | [_], _ => rfl⟩
  refine F.ok sc_is_shift (fun vs H Q E h => ?_) (fun cdv A outer s H vs Q E hr h => ?_)
  · obtain ⟨_, rfl, _⟩ := h
    rfl
  have nod := sc_is_shift.nd
  have hu := hu_of hr
  refine ⟨_, PSs.nox (pss_one (ps_ret (pe_and (pe_callC (c_is_integer T) (hr.mono (by omega)) rfl (T.g "is_integer") pass0 (pa_cons (pv 0) pa_nil)) (pe_one (pe_chain op_le op_le pe_int (pv 0) (pe_gi (n := 64) rfl T.mShf)))))), ?_⟩
  obtain ⟨i, rfl, i0, i1, q⟩ := h
  refine ⟨_, rfl, _, _, rfl, .int i, _, rfl, ?_⟩
  refine ite2 (fun _ => ?_) (fun h => absurd rfl h)
  refine ⟨_, rfl, _, _, rfl, rfl, _, rfl, ?_⟩
  refine ite2 (fun h => ?_) (fun h => absurd (decide_eq_true i0) h)
  refine ⟨_, _, rfl, rfl, ?_⟩
  show Q (V.bl (decide (i ≤ 64))) H
  rw [decide_eq_true i1]
  exact q
def spCkShift : Sp := fun vs H Q _ => ∃ i : Int, vs = [.int i] ∧ 0 ≤ i ∧ i ≤ 64 ∧ Q .non H
theorem sc_check_shift : FnScope ["thing"] ["thing"] (defScope sCkShift) := ⟨rfl, rfl, rfl, by decide +kernel, rfl, by decide +kernel, by decide +kernel⟩
theorem ok_check_shift (T : Txt K mg) : Cal P w K mg base CX0 (3) (ga K "check_shift") ["thing"] spCkShift := by
  obtain ⟨fd, F⟩ := T.f_check_shift
  refine ⟨fd, ?_, F.kp, F.bindsN fun _ _ _ _ _ _ us hl => match us, hl with | [_], _ => rfl⟩
  refine F.ok sc_check_shift (fun vs H Q E h => ?_) (fun cdv A outer s H vs Q E hr h => ?_)
  · obtain ⟨_, rfl, _⟩ := h
    rfl
  have nod := sc_check_shift.nd
  have hu := hu_of hr
  refine ⟨_, PSs.nox (pss_one (ps_if (pt_not (pt_val (pe_callC (ok_is_shift T) (hr.mono (by omega)) rfl (T.g "is_shift") pass0 (pa_cons (pv 0) pa_nil))))
    (pss_one ps_never)
    pss_nil)), ?_⟩
  obtain ⟨i, rfl, i0, i1, q⟩ := h
  refine ⟨_, rfl, i, rfl, i0, i1, _, rfl, ?_⟩
  exact ite2 (fun h => Bool.noConfusion (show false = true from h)) (fun _ => q)
def spShl (K : PySem.W.Frag) : Sp := fun vs H Q _ => ∃ (f : Fo) (a : Addr) (i : Int), vs = [.ref a, .int i] ∧ 0 ≤ i ∧ i ≤ 64 ∧ FoAt K H f a ∧ (Fo.shl f i).Fits ∧ ∀ H' x, Same H H' → FoAt K H' (.shl f i) x → Q (.ref x) H'
theorem sc_Formula___lshift__ : FnScope ["self", "other"] ["self", "other"] (defScope sShl) := ⟨rfl, rfl, rfl, by decide +kernel, rfl, by decide +kernel, by decide +kernel⟩
theorem ok_Formula___lshift__ (T : Txt K mg) : Cal P w K mg base CX0 (4) (ma K (ga K "Formula") "__lshift__") ["self", "other"] (spShl K) := by
  obtain ⟨fd, F⟩ := T.f_Formula___lshift__
  refine ⟨fd, ?_, F.kp, F.bindsN fun _ _ _ _ _ _ us hl => match us, hl with | [_, _], _ => rfl⟩
  refine F.ok sc_Formula___lshift__ (fun vs H Q E h => ?_) (fun cdv A outer s H vs Q E hr h => ?_)
  · obtain ⟨_, _, _, rfl, _⟩ := h
    rfl
  have nod := sc_Formula___lshift__.nd
  have hu := hu_of hr
  refine ⟨_, PSs.nox (pss_cons (ps_expr (pe_callC (ok_check_shift T) (hr.mono (by omega)) rfl (T.g "check_shift") pass0 (pa_cons (pv 1) pa_nil)))
  (pss_one (ps_ret (pe_makeC (T.ins "Formula" (by decide +kernel)).mkr (c_form T) (hr.mono (by omega)) rfl (T.g "Formula") pass0 (pa_cons pe_str (pa_cons (pe_tup (pa_cons (pv 0) (pa_cons (pv 1) pa_nil))) (pa_cons (pe_tup (pa_cons (pv 0) pa_nil)) pa_nil))))))), ?_⟩
  obtain ⟨f, a, i, rfl, i0, i1, hf, fit, q⟩ := h
  refine ⟨_, rfl, i, rfl, i0, i1, _, rfl, _, rfl, tsz (by show 2 ≤ 1000000; decide), fun t ht => ⟨_, rfl, tsz (by show 1 ≤ 1000000; decide), fun e he x dx hx hdx ne => ?_⟩⟩
  have s1 := upd_new (o := .tup [V.ref a, .int i]) ht
  have s2 := upd_new (o := .tup [V.ref a]) he
  obtain ⟨th1, k1⟩ := hf.kid
  refine form_read (f := .shl f i) (th := [.ref a, .int i]) (ks := [f.kd a th1]) T rfl (s1.trans s2) (fun k hk => by rw [List.mem_singleton.mp hk]; exact k1) (by show 1 ≤ 10; decide) ?_ ?_ fit (s2 _ _ upd_same) upd_same (fun H' x s n => q H' x s ?_) x dx hx hdx ne _
  · rw [Fo.parts]
    show 1 + f.parts = 1 + (f.parts + 0)
    omega
  · rw [Fo.depth]
    show 1 + f.depth = 1 + max f.depth 0
    omega
  · simp only [FoAt]
    exact ⟨a, n, hf.same s⟩
/-! ### Number, Name -/
theorem fits0 : Fits [] := ⟨by decide, by decide⟩
/-- what an __init__ leaves at the new instance -/
def Left (H : Hp) (a C dx : Addr) (kd : Str) (p d : Nat) (th : List V) (Q : VK) : Prop := ∀ H' t, SameBut a H H' → H' a = some (.ins C dx (flds (.str kd) (.ref t) p d)) → H' t = some (.tup th) → Q .non H'
theorem init_read {H H2 : Hp} {a C dx t e : Addr} {kd : Str} {th : List V} {ks : List Kd} {Q : VK} {E : XK} (ha : H a = some (.ins C dx [])) (I : InsT K C) (s2 : Same H H2) (et : H2 t = some (.tup th)) (ee : H2 e = some (.tup (refs ks))) (r : ∀ q ∈ ks, KidAt K H q) (hl : ks.length ≤ 10) (fit : Fits ks)
    (k : Left H a C dx kd (1 + sumP ks) (1 + maxD ks) th Q) : spForm K [.ref a, .str kd, .ref t, .ref e] H2 Q E := by
  have ha2 := s2 _ _ ha
  exact ⟨a, C, dx, e, _, _, ks, rfl, ha2, I, ee, fun k hk => (r k hk).same s2, hl, fit, fun H' sb e' => k H' t ((SameBut.of s2).trans sb) e' (tup_but ha2 sb et)⟩
def spNumI (K : PySem.W.Frag) : Sp := fun vs H Q _ => ∃ (a C dx : Addr) (i : Int), vs = [.ref a, .int i] ∧ 0 ≤ i ∧ i < 10 ^ 30 ∧ H a = some (.ins C dx []) ∧ InsT K C ∧ Left H a C dx "number" 1 1 [.int i] Q
theorem sc_Number___init__ : FnScope ["self", "n"] ["self", "n"] (defScope sNum) := ⟨rfl, rfl, rfl, by decide +kernel, rfl, by decide +kernel, by decide +kernel⟩
theorem ok_Number___init__ (T : Txt K mg) : Cal P w K mg base CX0 (2) (ma K (ga K "Number") "__init__") ["self", "n"] (spNumI K) := by
  obtain ⟨fd, F⟩ := T.f_Number___init__
  refine ⟨fd, ?_, F.kp, F.bindsN fun _ _ _ _ _ _ us hl => match us, hl with | [_, _], _ => rfl⟩
  refine F.ok sc_Number___init__ (fun vs H Q E h => ?_) (fun cdv A outer s H vs Q E hr h => ?_)
  · obtain ⟨_, _, _, _, rfl, _⟩ := h
    rfl
  have nod := sc_Number___init__.nd
  have hu := hu_of hr
  refine ⟨_, PSs.nox (pss_cons (ps_if (PW.pt (pw_or (pt_not (pt_val (pe_callC (c_is_integer T) (hr.mono (by omega)) rfl (T.g "is_integer") pass0 (pa_cons (pv 1) pa_nil)))) (pw_or1 (pt_not (pt_chain op_le op_lt pe_int (pv 1) (pe_gi (n := 10 ^ 30) rfl T.nEnd))))))
    (pss_one ps_never)
    pss_nil)
  (pss_one (ps_expr (pe_clfnC (c_form T) T.foI (hr.mono (by omega)) rfl (T.g "Formula") pass0 (pa_cons (pv 0) (pa_cons pe_str (pa_cons (pe_tup (pa_cons (pv 1) pa_nil)) (pa_cons (pe_tup pa_nil) pa_nil)))))))), ?_⟩
  obtain ⟨a, C, dx, i, rfl, i0, i1, ha, I, k⟩ := h
  refine ⟨_, rfl, _, _, rfl, .int i, _, rfl, ?_⟩
  refine ite2 (fun h => Bool.noConfusion (show false = true from h)) (fun _ => ?_)
  refine ⟨_, rfl, _, _, rfl, rfl, _, rfl, ?_⟩
  refine ite2 (fun h => ?_) (fun h => absurd (decide_eq_true i0) h)
  refine ⟨_, _, rfl, rfl, _, rfl, ?_⟩
  refine ite2 (fun h => ?_) (fun _ => ?_)
  · have h : (!decide (i < 10 ^ 30)) = true := h
    rw [decide_eq_true i1] at h
    cases h
  refine ⟨_, rfl, _, rfl, tsz (by show 1 ≤ 1000000; decide), fun t ht => ⟨tsz (by show 0 ≤ 1000000; decide), fun e he => ?_⟩⟩
  exact init_read (E := E0) (ks := []) ha I ((upd_new ht).trans (upd_new he)) (upd_new he _ _ upd_same) upd_same (fun k hk => by cases hk) (by decide) fits0 k
def spNameI (K : PySem.W.Frag) : Sp := fun vs H Q _ => ∃ (a C dx : Addr) (z : Str), vs = [.ref a, .str z] ∧ GoodN z ∧ H a = some (.ins C dx []) ∧ InsT K C ∧ Left H a C dx "name" 1 1 [.str z] Q
theorem sc_Name___init__ : FnScope ["self", "name"] ["self", "name"] (defScope sName) := ⟨rfl, rfl, rfl, by decide +kernel, rfl, by decide +kernel, by decide +kernel⟩
theorem ok_Name___init__ (T : Txt K mg) : Cal P w K mg base CX0 (3) (ma K (ga K "Name") "__init__") ["self", "name"] (spNameI K) := by
  obtain ⟨fd, F⟩ := T.f_Name___init__
  refine ⟨fd, ?_, F.kp, F.bindsN fun _ _ _ _ _ _ us hl => match us, hl with | [_, _], _ => rfl⟩
  refine F.ok sc_Name___init__ (fun vs H Q E h => ?_) (fun cdv A outer s H vs Q E hr h => ?_)
  · obtain ⟨_, _, _, _, rfl, _⟩ := h
    rfl
  have nod := sc_Name___init__.nd
  have hu := hu_of hr
  refine ⟨_, PSs.nox (pss_cons (ps_expr (pe_callC (c_check_name T) (hr.mono (by omega)) rfl (T.g "check_name") pass0 (pa_cons (pv 1) pa_nil)))
  (pss_one (ps_expr (pe_clfnC (c_form T) T.foI (hr.mono (by omega)) rfl (T.g "Formula") pass0 (pa_cons (pv 0) (pa_cons pe_str (pa_cons (pe_tup (pa_cons (pv 1) pa_nil)) (pa_cons (pe_tup pa_nil) pa_nil)))))))), ?_⟩
  obtain ⟨a, C, dx, z, rfl, z0, ha, I, k⟩ := h
  refine ⟨_, rfl, z, rfl, z0, fun H0 s0 => ?_⟩
  refine ⟨_, rfl, _, rfl, tsz (by show 1 ≤ 1000000; decide), fun t ht => ⟨tsz (by show 0 ≤ 1000000; decide), fun e he => ?_⟩⟩
  exact init_read (E := E0) (ks := []) ha I ((s0.trans (upd_new ht)).trans (upd_new he)) (upd_new he _ _ upd_same) upd_same (fun k hk => by cases hk) (by decide) fits0 k

end
end KW
set_option Elab.async false
set_option linter.all false
set_option maxRecDepth 100000
set_option maxHeartbeats 8000000
namespace KW
open PySem PySem.Spec PyProof.Rows L2 He Sw L2H
section
variable {P : Program} {w : World} {K : PySem.W.Frag} {mg : Str → Option Value} {base : Heap}
/-! ### inner_formulas -/
def spInner (K : PySem.W.Frag) : Sp := fun vs H Q _ => ∃ (f : Fo) (a : Addr), vs = [.ref a] ∧ FoAt K H f a ∧ ∀ u H' xs, Same H H' → H' u = some (.tup (xs.map V.ref)) → FoAts K H' f.kids xs → Q (.ref u) H'
theorem B3.strs (o : B3) : o.str = "plus" ∨ o.str = "minus" ∨ o.str = "times" := by cases o <;> simp [B3.str]
theorem sc_inner_formulas : FnScope ["formula"] ["formula"] (defScope sInner) := ⟨rfl, rfl, rfl, by decide +kernel, rfl, by decide +kernel, by decide +kernel⟩
theorem ok_inner_formulas (T : Txt K mg) : Cal P w K mg base CX0 (1) (ga K "inner_formulas") ["formula"] (spInner K) := by
  obtain ⟨fd, F⟩ := T.f_inner_formulas
  refine ⟨fd, ?_, F.kp, F.bindsN fun _ _ _ _ _ _ us hl => match us, hl with | [_], _ => rfl⟩
  refine F.ok sc_inner_formulas (fun vs H Q E h => ?_) (fun cdv A outer s H vs Q E hr h => ?_)
  · obtain ⟨_, _, rfl, _⟩ := h
    rfl
  have nod := sc_inner_formulas.nd
  have hu := hu_of hr
  refine ⟨_, PSs.nox (pss_cons (ps_if (pt_cmpR op_in_seq (pe_fld (pv 0) rfl) (pe_tup (pa_cons pe_str (pa_cons pe_str pa_nil))) rfl)
    (pss_one (ps_ret (pe_tup pa_nil)))
    pss_nil)
  (pss_cons (ps_if (pt_cmpR op_eq (pe_fld (pv 0) rfl) pe_str (nomark _))
    (pss_one (ps_ret (pe_slice sl_tup (pe_fld (pv 0) rfl) po_none (po_some pe_int))))
    pss_nil)
  (pss_cons (ps_if (pt_cmpR op_eq (pe_fld (pv 0) rfl) pe_str (nomark _))
    (pss_one (ps_ret (pe_slice sl_tup (pe_fld (pv 0) rfl) (po_some pe_int) po_none)))
    pss_nil)
  (pss_cons (ps_if (pt_cmpR op_eq (pe_fld (pv 0) rfl) pe_str (nomark _))
    (pss_one (ps_ret (pe_ix ix_tup (pe_fld (pv 0) rfl) pe_int (fun _ _ => rfl))))
    pss_nil)
  (pss_one (ps_ret (pe_fld (pv 0) rfl))))))), ?_⟩
  obtain ⟨f, a, rfl, hf, q⟩ := h
  obtain ⟨dx, t, th, xs, ha, et, sh, fk⟩ := hf.opened
  have I := T.ins _ f.cls_mem
  have nk := I.no "kind" (by decide +kernel)
  have nt := I.no "things" (by decide +kernel)
  generalize hk : f.kind = kd at ha
  refine ⟨_, rfl, a, _, dx, _, .str kd, rfl, ha, I.cl, nk, rfl, tsz (by show 2 ≤ 1000000; decide), fun p hp => ?_⟩
  have s1 := upd_new (o := .tup [V.str "number", V.str "name"]) hp
  have ep : (upd H p (.tup [V.str "number", V.str "name"])) p = some (.tup [V.str "number", V.str "name"]) := upd_same
  generalize upd H p (.tup [V.str "number", V.str "name"]) = H1 at s1 ep ⊢
  have ha1 := s1 _ _ ha
  have et1 := s1 _ _ et
  refine ⟨p, _, rfl, .inr (SqT.of ep), rfl, rfl, _, rfl, ?_⟩
  have none_ : FoAts K H f.kids [] → ∀ u, H1 u = none → Q (.ref u) (upd H1 u (.tup [])) := fun e u hu => q u _ [] (s1.trans (upd_new hu)) upd_same (e.same (s1.trans (upd_new hu)))
  have rest : (kd = "plus" ∨ kd = "minus" ∨ kd = "times" ∨ kd = "negative") → inV (.str kd) [.str "number", .str "name"] = false ∧ decide (V.str kd = V.str "shift") = false ∧ decide (V.str kd = V.str "sum") = false ∧ decide (V.str kd = V.str "call") = false := fun e => by
    refine ⟨?_, ?_, ?_, ?_⟩ <;> (rcases e with rfl | rfl | rfl | rfl <;> decide +kernel)
  have seq : ∀ {ys : List Addr}, (kd = "plus" ∨ kd = "minus" ∨ kd = "times" ∨ kd = "negative") → th = ys.map V.ref → FoAts K H f.kids ys → Q (.ref t) H1 := fun e e2 e3 => q t H1 _ s1 (by rw [et1, e2]) (e3.same s1)
  cases sh with
  | num n =>
    obtain rfl : "number" = kd := hk
    refine ite2 (fun _ => ?_) (fun n => absurd (by decide +kernel) n)
    exact ⟨tsz (by show 0 ≤ 1000000; decide), none_ fk⟩
  | nam z =>
    obtain rfl : "name" = kd := hk
    refine ite2 (fun _ => ?_) (fun n => absurd (by decide +kernel) n)
    exact ⟨tsz (by show 0 ≤ 1000000; decide), none_ fk⟩
  | neg g x =>
    obtain rfl : "negative" = kd := hk
    obtain ⟨d1, d2, d3, d4⟩ := rest (.inr (.inr (.inr rfl)))
    refine ite2 (fun n => Bool.noConfusion (d1.symm.trans n)) (fun _ => ?_)
    refine ⟨_, rfl, a, _, dx, _, _, rfl, ha1, I.cl, nk, rfl, rfl, _, rfl, ite2 (fun n => Bool.noConfusion (d2.symm.trans n)) (fun _ => ?_)⟩
    refine ⟨_, rfl, a, _, dx, _, _, rfl, ha1, I.cl, nk, rfl, rfl, _, rfl, ite2 (fun n => Bool.noConfusion (d3.symm.trans n)) (fun _ => ?_)⟩
    refine ⟨_, rfl, a, _, dx, _, _, rfl, ha1, I.cl, nk, rfl, rfl, _, rfl, ite2 (fun n => Bool.noConfusion (d4.symm.trans n)) (fun _ => ?_)⟩
    exact ⟨_, rfl, a, _, dx, _, _, rfl, ha1, I.cl, nt, rfl, seq (.inr (.inr (.inr rfl))) rfl fk⟩
  | bin o f' g' x y =>
    have ko : kd = "plus" ∨ kd = "minus" ∨ kd = "times" ∨ kd = "negative" := by
      rcases o.strs with e | e | e
      · exact .inl (hk.symm.trans e)
      · exact .inr (.inl (hk.symm.trans e))
      · exact .inr (.inr (.inl (hk.symm.trans e)))
    obtain ⟨d1, d2, d3, d4⟩ := rest ko
    refine ite2 (fun n => Bool.noConfusion (d1.symm.trans n)) (fun _ => ?_)
    refine ⟨_, rfl, a, _, dx, _, _, rfl, ha1, I.cl, nk, rfl, rfl, _, rfl, ite2 (fun n => Bool.noConfusion (d2.symm.trans n)) (fun _ => ?_)⟩
    refine ⟨_, rfl, a, _, dx, _, _, rfl, ha1, I.cl, nk, rfl, rfl, _, rfl, ite2 (fun n => Bool.noConfusion (d3.symm.trans n)) (fun _ => ?_)⟩
    refine ⟨_, rfl, a, _, dx, _, _, rfl, ha1, I.cl, nk, rfl, rfl, _, rfl, ite2 (fun n => Bool.noConfusion (d4.symm.trans n)) (fun _ => ?_)⟩
    exact ⟨_, rfl, a, _, dx, _, _, rfl, ha1, I.cl, nt, rfl, seq ko rfl fk⟩
  | shl g n x =>
    obtain rfl : "shift" = kd := hk
    refine ite2 (fun n => absurd n (by decide +kernel)) (fun _ => ?_)
    refine ⟨_, rfl, a, _, dx, _, _, rfl, ha1, I.cl, nk, rfl, rfl, _, rfl, ite2 (fun _ => ?_) (fun n => absurd (by decide +kernel) n)⟩
    refine ⟨_, rfl, a, _, dx, _, _, rfl, ha1, I.cl, nt, rfl, _, rfl, t, _, rfl, SqT.of et1, (by show ¬ (HT.sIx 2 0 none = 0 ∧ HT.sIx 2 2 (some 1) = 2); decide +kernel), fun u hu => ?_⟩
    exact q u _ [x] (s1.trans (upd_new hu)) upd_same (fk.same (s1.trans (upd_new hu)))
  | sum i b g y x hb =>
    obtain rfl : "sum" = kd := hk
    refine ite2 (fun n => absurd n (by decide +kernel)) (fun _ => ?_)
    refine ⟨_, rfl, a, _, dx, _, _, rfl, ha1, I.cl, nk, rfl, rfl, _, rfl, ite2 (fun n => absurd n (by decide +kernel)) (fun _ => ?_)⟩
    refine ⟨_, rfl, a, _, dx, _, _, rfl, ha1, I.cl, nk, rfl, rfl, _, rfl, ite2 (fun _ => ?_) (fun n => absurd (by decide +kernel) n)⟩
    refine ⟨_, rfl, a, _, dx, _, _, rfl, ha1, I.cl, nt, rfl, _, rfl, t, _, rfl, SqT.of et1, (by show ¬ (HT.sIx 3 0 (some 2) = 0 ∧ HT.sIx 3 3 none = 3); decide +kernel), fun u hu => ?_⟩
    exact q u _ [x] (s1.trans (upd_new hu)) upd_same (fk.same (s1.trans (upd_new hu)))
  | call z fs u _ e =>
    obtain rfl : "call" = kd := hk
    refine ite2 (fun n => absurd n (by decide +kernel)) (fun _ => ?_)
    refine ⟨_, rfl, a, _, dx, _, _, rfl, ha1, I.cl, nk, rfl, rfl, _, rfl, ite2 (fun n => absurd n (by decide +kernel)) (fun _ => ?_)⟩
    refine ⟨_, rfl, a, _, dx, _, _, rfl, ha1, I.cl, nk, rfl, rfl, _, rfl, ite2 (fun n => absurd n (by decide +kernel)) (fun _ => ?_)⟩
    refine ⟨_, rfl, a, _, dx, _, _, rfl, ha1, I.cl, nk, rfl, rfl, _, rfl, ite2 (fun _ => ?_) (fun n => absurd (by decide +kernel) n)⟩
    exact ⟨_, rfl, a, _, dx, _, _, rfl, ha1, I.cl, nt, rfl, t, _, _, .ref u, rfl, rfl, SqT.of et1, rfl, q u H1 xs s1 (s1 _ _ e) (fk.same s1)⟩
/-! ### [name for one in inner_formulas(formula) for name in def_(one)] -/
def flat (gl : Fo → List Str) : List Fo → List Str
  | [] => []
  | f :: fs => gl f ++ flat gl fs
theorem flat_take {gl : Fo → List Str} : ∀ {fs : List Fo} {i : Nat} {f : Fo}, fs[i]? = some f → flat gl (fs.take (i + 1)) = flat gl (fs.take i) ++ gl f
  | g :: fs, 0, f, h => by
    injection h with h
    subst h
    simp [flat]
  | g :: fs, i + 1, f, h => by
    have r := flat_take (gl := gl) (fs := fs) (i := i) h
    show gl g ++ flat gl (fs.take (i + 1)) = (gl g ++ flat gl (fs.take i)) ++ gl f
    rw [r, List.append_assoc]
theorem flat_take_len {gl : Fo → List Str} : ∀ {fs : List Fo} {i : Nat}, (flat gl (fs.take i)).length ≤ (flat gl fs).length
  | [], i => by simp [flat]
  | g :: fs, 0 => Nat.zero_le _
  | g :: fs, i + 1 => by
    have r := flat_take_len (gl := gl) (fs := fs) (i := i)
    show (gl g ++ flat gl (fs.take i)).length ≤ (gl g ++ flat gl fs).length
    rw [List.length_append, List.length_append]
    omega
theorem lc2_names {fs : List Fo} {xs : List Addr} {t a D : Addr} {H0 : Hp} {gl : Fo → List Str} {sp : Sp} {Qd : Hp → Prop} (et : H0 t = some (.tup (xs.map V.ref))) (fk : FoAts K H0 fs xs) (hD : H0 D = none) (few : (flat gl fs).length ≤ 5000)
    (cal : ∀ f ∈ fs, ∀ (x : Addr) (H' : Hp) (Q : VK), Same H0 H' → FoAt K H' f x → (∀ l H'', Same H' H'' → H' l = none → H'' l = some (.lst ((gl f).map V.str)) → Q (.ref l) H'') → sp [.ref x] H' Q E0)
    (hd : ∀ H', Same H0 H' → H' D = some (.lst ((flat gl fs).map V.str)) → Qd H') :
    ∃ W : Nat → Nat → Hp → Prop, (∃ m, W 0 m (upd H0 D (.lst []))) ∧ ∀ i m H, W i m H →
      ((Itt K t).stop i H ∧ Qd H) ∨ ((Itt K t).go i H ∧ ∃ Nx : Hp → Prop, (∀ H', Nx H' → ∃ m', m' < m ∧ W (i + 1) m' H') ∧ ∀ x H', (Itt K t).yld i H x H' → gName 2 x (wipe [some (.ref a), none, none, none] [2, 3]) H' fun σ2 H2 => wipe σ2 [2, 3] = wipe [some (.ref a), none, none, none] [2, 3] ∧ tYes σ2 H2 fun b H3 =>
        if b = true then iList K (tCall sp [] E0 (tCons (tVar 2) tNil)) σ2 H3 fun J1 H4 => ∃ W1 : Nat → Nat → Hp → Prop, (∃ m, W1 0 m H4) ∧ ∀ j k H, W1 j k H →
          (J1.stop j H ∧ Nx H) ∨ (J1.go j H ∧ ∃ Nx1 : Hp → Prop, (∀ H', Nx1 H' → ∃ k', k' < k ∧ W1 (j + 1) k' H') ∧ ∀ x H', J1.yld j H x H' → gName 3 x (wipe σ2 [3]) H' fun σ3 H5 => wipe σ3 [3] = wipe σ2 [3] ∧ tYes σ3 H5 fun b H6 =>
            if b = true then tVar 3 σ3 H6 fun y H7 => ∃ acc, H7 D = some (.lst acc) ∧ acc.length < sizeLine ∧ Nx1 (upd H7 D (.lst (acc ++ [y]))) else Nx1 H6)
        else Nx H3) := by
  have lx := fk.len
  have up0 : ∀ {H' : Hp} {o : HO}, Same H0 H' → Same H0 (upd H' D o) := fun {H' o} s' b o' e => by rw [upd_ne (ne_of_none e hD)]; exact s' _ _ e
  refine ⟨fun i m H' => m = xs.length - i ∧ i ≤ xs.length ∧ Same H0 H' ∧ H' D = some (.lst ((flat gl (fs.take i)).map V.str)), ⟨_, rfl, Nat.zero_le _, up0 (Same.refl _), by rw [upd_same]; rfl⟩, ?_⟩
  rintro i m H1 ⟨rfl, hi, s1, eD⟩
  by_cases hlt : i < xs.length
  · have hx : xs[i]? = some xs[i] := List.getElem?_eq_getElem hlt
    generalize xs[i] = x at hx
    obtain ⟨f, hfi, hfa⟩ := fk.get hx
    have hfm := List.mem_of_getElem? hfi
    have href : (xs.map V.ref)[i]? = some (V.ref x) := by rw [List.getElem?_map, hx]; rfl
    refine .inr ⟨⟨_, _, SqT.of (s1 _ _ et), href⟩, fun H' => i + 1 ≤ xs.length ∧ Same H0 H' ∧ H' D = some (.lst ((flat gl (fs.take (i + 1))).map V.str)), fun H' ⟨a1, a2, a3⟩ => ⟨_, by omega, rfl, a1, a2, a3⟩, ?_⟩
    rintro y H2 ⟨rfl, hy⟩
    obtain rfl : y = V.ref x := by
      have e := hy _ (SqT.of (s1 _ _ et))
      rw [href] at e
      injection e with e
      exact e.symm
    refine ⟨rfl, ?_⟩
    refine ⟨_, rfl, cal f hfm x H2 _ s1 (hfa.same s1) fun l H3 s3 hl el => ⟨l, rfl, ⟨_, SqL.of el⟩, ?_⟩⟩
    have nl : l ≠ D := fun z => by rw [z, eD] at hl; cases hl
    have lt1 := flat_take_len (gl := gl) (fs := fs) (i := i)
    have lt2 := flat_take_len (gl := gl) (fs := fs) (i := i + 1)
    rw [flat_take hfi, List.length_append] at lt2
    refine ⟨fun j m' H' => m' = (gl f).length - j ∧ j ≤ (gl f).length ∧ Same H0 H' ∧ H' l = some (.lst ((gl f).map V.str)) ∧ H' D = some (.lst ((flat gl (fs.take i) ++ (gl f).take j).map V.str)), ⟨_, rfl, Nat.zero_le _, s1.trans s3, el, by rw [List.take_zero, List.append_nil]; exact s3 _ _ eD⟩, ?_⟩
    rintro j m' H4 ⟨rfl, hj, s4, el4, eD4⟩
    by_cases hjl : j < (gl f).length
    · have hz : (gl f)[j]? = some (gl f)[j] := List.getElem?_eq_getElem hjl
      generalize (gl f)[j] = z at hz
      have hzm : ((gl f).map V.str)[j]? = some (V.str z) := by rw [List.getElem?_map, hz]; rfl
      refine .inr ⟨⟨_, _, SqL.of el4, hzm⟩, fun H' => j + 1 ≤ (gl f).length ∧ Same H0 H' ∧ H' l = some (.lst ((gl f).map V.str)) ∧ H' D = some (.lst ((flat gl (fs.take i) ++ (gl f).take (j + 1)).map V.str)), fun H' ⟨a1, a2, a3, a4⟩ => ⟨_, by omega, rfl, a1, a2, a3, a4⟩, ?_⟩
      rintro y H5 ⟨rfl, hy⟩
      obtain rfl : y = V.str z := by
        have e := hy _ (SqL.of el4)
        rw [hzm] at e
        injection e with e
        exact e.symm
      refine ⟨rfl, ?_⟩
      refine ⟨_, rfl, _, eD4, ?_, hjl, up0 s4, by rw [upd_ne nl]; exact el4, ?_⟩
      · rw [List.length_map, List.length_append, List.length_take, sizeLine_eq]
        omega
      · rw [upd_same, List.take_add_one, hz]
        simp
    · have ej : j = (gl f).length := by omega
      subst ej
      refine .inl ⟨⟨_, SqL.of el4, by rw [List.length_map]; exact Nat.le_refl _⟩, hlt, s4, ?_⟩
      rw [eD4, List.take_length, flat_take hfi]
  · have ei : i = xs.length := by omega
    subst ei
    refine .inl ⟨⟨_, SqT.of (s1 _ _ et), by rw [List.length_map]; exact Nat.le_refl _⟩, hd H1 s1 ?_⟩
    rw [eD, lx, List.take_length]

end
end KW
set_option Elab.async false
set_option linter.all false
set_option maxRecDepth 100000
set_option maxHeartbeats 8000000
namespace KW
open PySem PySem.Spec PyProof.Rows L2 He Sw L2H
section
variable {P : Program} {w : World} {K : PySem.W.Frag} {mg : Str → Option Value} {base : Heap}
theorem flat_ixs : ∀ fs : List Fo, flat Fo.ixs fs = Fo.ixsL fs
  | [] => by simp [flat, Fo.ixsL]
  | f :: fs => by simp [flat, Fo.ixsL, flat_ixs fs]
mutual
theorem Fo.ixs_len : ∀ f : Fo, f.ixs.length ≤ f.parts
  | .num _ => by simp [Fo.ixs]
  | .nam _ => by simp [Fo.ixs]
  | .neg a => by have := Fo.ixs_len a; simp only [Fo.ixs, Fo.parts]; omega
  | .shl a _ => by have := Fo.ixs_len a; simp only [Fo.ixs, Fo.parts]; omega
  | .bin _ a b => by have := Fo.ixs_len a; have := Fo.ixs_len b; simp only [Fo.ixs, Fo.parts, List.length_append]; omega
  | .sum _ _ a => by have := Fo.ixs_len a; simp only [Fo.ixs, Fo.parts, List.length_cons]; omega
  | .call _ as => by have := Fo.ixsL_len as; simp only [Fo.ixs, Fo.parts]; omega
theorem Fo.ixsL_len : ∀ fs : List Fo, (Fo.ixsL fs).length ≤ Fo.partsL fs
  | [] => by simp [Fo.ixsL]
  | f :: fs => by have := Fo.ixs_len f; have := Fo.ixsL_len fs; simp only [Fo.ixsL, Fo.partsL, List.length_append]; omega
end
theorem Fo.ixs_kids (f : Fo) : f.ixs = (match f with | .sum i _ _ => [i] | _ => []) ++ Fo.ixsL f.kids := by
  cases f <;> simp [Fo.ixs, Fo.kids, Fo.ixsL]
theorem Fo.kind_sum (f : Fo) : (∃ i b a, f = .sum i b a) ∨ decide (V.str f.kind = V.str "sum") = false := by
  cases f with
  | sum i b a => exact .inl ⟨i, b, a, rfl⟩
  | num n => exact .inr (show decide (V.str "number" = V.str "sum") = false by decide +kernel)
  | nam z => exact .inr (show decide (V.str "name" = V.str "sum") = false by decide +kernel)
  | neg a => exact .inr (show decide (V.str "negative" = V.str "sum") = false by decide +kernel)
  | shl a n => exact .inr (show decide (V.str "shift" = V.str "sum") = false by decide +kernel)
  | bin o a b => cases o <;> exact .inr (by first | exact (show decide (V.str "plus" = V.str "sum") = false by decide +kernel) | exact (show decide (V.str "minus" = V.str "sum") = false by decide +kernel) | exact (show decide (V.str "times" = V.str "sum") = false by decide +kernel))
  | call z as => exact .inr (show decide (V.str "call" = V.str "sum") = false by decide +kernel)
/-! ### index_names -/
def spIx (K : PySem.W.Frag) (n : Nat) : Sp := fun vs H Q _ => ∃ (f : Fo) (a : Addr), vs = [.ref a] ∧ f.depth ≤ n ∧ f.parts ≤ 300 ∧ FoAt K H f a ∧ ∀ l H', Same H H' → H l = none → H' l = some (.lst (f.ixs.map V.str)) → Q (.ref l) H'
theorem sc_index_names : FnScope ["formula", "found", "one", "index"] ["formula"] (defScope sIx) := ⟨rfl, rfl, rfl, by decide +kernel, rfl, by decide +kernel, by decide +kernel⟩
theorem ok_index_names (T : Txt K mg) : ∀ n, Cal P w K mg base CX0 (n + 2) (ga K "index_names") ["formula"] (spIx K n)
  | 0 => by
    obtain ⟨fd, F⟩ := T.f_index_names
    refine ⟨fd, ⟨fun vs H Q E h => ?_, fun A outer s H args us vs Q E _ _ _ _ h => ?_⟩, F.kp, F.bindsN fun _ _ _ _ _ _ us hl => match us, hl with | [_], _ => rfl⟩
    · obtain ⟨_, _, rfl, _⟩ := h
      rfl
    · obtain ⟨_, _, _, h, _⟩ := h
      exact absurd h (Nat.not_le_of_lt (Fo.depth_pos _))
  | n + 1 => by
    have GX := ok_index_names T n
    obtain ⟨fd, F⟩ := T.f_index_names
    refine ⟨fd, ?_, F.kp, F.bindsN fun _ _ _ _ _ _ us hl => match us, hl with | [_], _ => rfl⟩
    refine F.ok sc_index_names (fun vs H Q E h => ?_) (fun cdv A outer s H vs Q E hr h => ?_)
    · obtain ⟨_, _, rfl, _⟩ := h
      rfl
    have nod := sc_index_names.nd
    have hu := hu_of hr
    refine ⟨_, PSs.nox (pss_cons (ps_setLc2 (i := 1) (own := [("one", 2), ("index", 3)]) (vs1 := [3]) (g := gName 2) (tt := tYes) (wi1 := (iList K (tCall (spIx K n) [] E0 (tCons (tVar 2) tNil)))) (g1 := gName 3) (tt1 := tYes) (te := (tVar 3)) rfl nod rfl rfl (sw_true rfl rfl rfl (by decide +kernel)) (pi_tup (pe_callC (ok_inner_formulas T) (hr.mono (by omega)) rfl (T.g "inner_formulas") pass0 (pa_cons (pv 0) pa_nil))) (blkOk_by (N := ["formula", "found", "one", "index"]) (sc := defScope sIx) (by decide +kernel)) (by decide) (fun _ _ _ _ _ => (pg_name (i := 2) nod rfl (Or.inl rfl))) (fun _ _ _ _ _ => pts_nil) (fun _ _ _ _ _ => (pi_list (pe_callC GX (hr.mono (by omega)) rfl (T.g "index_names") pass0 (pa_cons (pv 2) pa_nil)))) (fun _ _ _ _ _ => (pg_name (i := 3) nod rfl (Or.inl rfl))) (fun _ _ _ _ _ => pts_nil) (fun _ _ _ _ _ => (pv 3)))
    (pss_cons (ps_if (pt_cmpR op_eq (pe_fld (pv 0) rfl) pe_str (nomark _))
      (pss_one (ps_ret (pe_op op_cat (pe_lst (pa_cons (pe_ix ix_tup (pe_fld (pv 0) rfl) pe_int (fun _ _ => rfl)) pa_nil)) (pv 1))))
      pss_nil)
    (pss_one (ps_ret (pv 1))))), ?_⟩
    obtain ⟨f, a, rfl, hn, hp, hf, q⟩ := h
    obtain ⟨dx, t, th, xs, ha, et, sh, fk⟩ := hf.opened
    have I := T.ins _ f.cls_mem
    have nk := I.no "kind" (by decide +kernel)
    have nt := I.no "things" (by decide +kernel)
    refine ⟨_, rfl, f, a, rfl, hf, fun u H0 ys s0 eu fk0 => ⟨u, rfl, ⟨_, SqT.of eu⟩, fun D hD => ?_⟩⟩
    have len := Fo.ixsL_len f.kids
    have pk := f.parts_kids
    refine lc2_names (gl := Fo.ixs) eu fk0 hD (by rw [flat_ixs]; omega) (fun g hg x H' Q' s' hx k' => ⟨g, x, rfl, by have := Fo.kid_depth hg; omega, by have := Fo.kid_parts hg; omega, hx, fun l H'' s'' hl el => k' l H'' s'' hl el⟩) (fun H1 s1 eD => ?_)
    rw [flat_ixs] at eD
    have s01 := s0.trans s1
    refine ⟨_, rfl, a, _, dx, _, .str f.kind, rfl, s01 _ _ ha, I.cl, nk, rfl, rfl, _, rfl, ?_⟩
    rcases f.kind_sum with ⟨i, b, g, rfl⟩ | hne
    · cases sh with
      | sum _ _ _ y x hb =>
      refine ite2 (fun _ => ?_) (fun n => absurd (show decide (V.str "sum" = V.str "sum") = true by decide +kernel) n)
      refine ⟨_, rfl, a, _, dx, _, _, rfl, s01 _ _ ha, I.cl, nt, rfl, t, _, _, .str i, rfl, rfl, SqT.of (s01 _ _ et), rfl, tsz (by show 1 ≤ 1000000; decide), fun p hp => ?_⟩
      have s2 := upd_new (o := .lst [V.str i]) hp
      refine ⟨_, rfl, p, D, _, _, rfl, rfl, upd_same, s2 _ _ eD, ?_, fun l hl => ?_⟩
      · rw [List.length_map, sizeLine_eq]
        show 1 + _ ≤ _
        omega
      · refine q l _ ((s01.trans s2).trans (upd_new hl)) (none_back (s01.trans s2) hl) ?_
        rw [upd_same, Fo.ixs_kids]
        rfl
    · refine ite2 (fun n => Bool.noConfusion (hne.symm.trans n)) (fun _ => ?_)
      refine ⟨_, rfl, q D H1 s01 (none_back s0 hD) ?_⟩
      have e : f.ixs = Fo.ixsL f.kids := by
        rw [Fo.ixs_kids]
        cases f with
        | sum i b g => exact absurd (show decide (V.str "sum" = V.str "sum") = true by decide +kernel) (by rw [show decide (V.str "sum" = V.str "sum") = false from hne]; decide)
        | _ => rfl
      rw [e]; exact eD
/-! ### Sum.__init__ -/
theorem leaf_th {b : Fo} (hl : b.leaf) {H : Hp} {dx t : Addr} {th : List V} {xs : List Addr} (sh : Sh K H b th xs) : (b.cls = "Name" ∨ b.cls = "Number") ∧ ((∃ n, b = .num n ∧ th = [.int n]) ∨ ∃ z, b = .nam z ∧ th = [.str z]) := by
  cases sh <;> first | exact ⟨.inr rfl, .inl ⟨_, rfl, rfl⟩⟩ | exact ⟨.inl rfl, .inr ⟨_, rfl, rfl⟩⟩ | exact (show False from hl).elim
def spSumI (K : PySem.W.Frag) : Sp := fun vs H Q _ => ∃ (a C dx y x : Addr) (i : Str) (b f : Fo), vs = [.ref a, .str i, .ref y, .ref x] ∧ GoodN i ∧ H a = some (.ins C dx []) ∧ InsT K C ∧ b.leaf ∧ b ≠ .nam i ∧ FoAt K H b y ∧ FoAt K H f x ∧ i ∉ f.ixs ∧ f.Fits ∧ (Fo.sum i b f).Fits ∧ Left H a C dx "sum" (Fo.sum i b f).parts (Fo.sum i b f).depth [.str i, .ref y, .ref x] Q
theorem sc_Sum___init__ : FnScope ["self", "index", "below", "body"] ["self", "index", "below", "body"] (defScope sSum) := ⟨rfl, rfl, rfl, by decide +kernel, rfl, by decide +kernel, by decide +kernel⟩
theorem ok_Sum___init__ (T : Txt K mg) : Cal P w K mg base CX0 (43) (ma K (ga K "Sum") "__init__") ["self", "index", "below", "body"] (spSumI K) := by
  obtain ⟨fd, F⟩ := T.f_Sum___init__
  refine ⟨fd, ?_, F.kp, F.bindsN fun _ _ _ _ _ _ us hl => match us, hl with | [_, _, _, _], _ => rfl⟩
  refine F.ok sc_Sum___init__ (fun vs H Q E h => ?_) (fun cdv A outer s H vs Q E hr h => ?_)
  · obtain ⟨_, _, _, _, _, _, _, _, rfl, _⟩ := h
    rfl
  have nod := sc_Sum___init__.nd
  have hu := hu_of hr
  refine ⟨_, PSs.nox (pss_cons (ps_expr (pe_callC (c_check_name T) (hr.mono (by omega)) rfl (T.g "check_name") pass0 (pa_cons (pv 1) pa_nil)))
  (pss_cons (ps_if (PW.pt (pw_or (pt_not (pt_val (pe_callB call_isiT rfl (T.f "isinstance") (by decide +kernel) (pa_cons (pv 2) (pa_cons (pe_tup (pa_cons (pe_glob (v := .ref (ga K "Name")) rfl (T.g "Name") rfl) (pa_cons (pe_glob (v := .ref (ga K "Number")) rfl (T.g "Number") rfl) pa_nil))) pa_nil))))) (pw_or1 (pt_cmpR op_eq (pe_ix ix_tup (pe_fld (pv 2) rfl) pe_int (fun _ _ => rfl)) (pv 1) (nomark _)))))
    (pss_one ps_never)
    pss_nil)
  (pss_cons (ps_expr (pe_callC (ok_check_formula T) (hr.mono (by omega)) rfl (T.g "check_formula") pass0 (pa_cons (pv 3) pa_nil)))
  (pss_cons (ps_if (pt_cmpR op_in_seq (pv 1) (pe_callC (ok_index_names T 40) (hr.mono (by omega)) rfl (T.g "index_names") pass0 (pa_cons (pv 3) pa_nil)) rfl)
    (pss_one ps_never)
    pss_nil)
  (pss_one (ps_expr (pe_clfnC (c_form T) T.foI (hr.mono (by omega)) rfl (T.g "Formula") pass0 (pa_cons (pv 0) (pa_cons pe_str (pa_cons (pe_tup (pa_cons (pv 1) (pa_cons (pv 2) (pa_cons (pv 3) pa_nil)))) (pa_cons (pe_tup (pa_cons (pv 3) pa_nil)) pa_nil))))))))))), ?_⟩
  obtain ⟨a, C, dx, y, x, i, b, f, rfl, z0, ha, I, hl, hbi, hb, hf, ni, ff, fit, q⟩ := h
  obtain ⟨dxb, tb, thb, xb, eb, etb, shb, _⟩ := hb.opened
  have Ib := T.ins _ b.cls_mem
  obtain ⟨bc, bt⟩ := leaf_th (dx := dxb) (t := tb) hl shb
  -- the name
  refine ⟨_, rfl, i, rfl, z0, fun H1 s1 => ?_⟩
  -- the bound
  refine ⟨_, rfl, tsz (by show 2 ≤ 1000000; decide), fun tp htp => ?_⟩
  have s2 := upd_new (o := .tup [V.ref (ga K "Name"), .ref (ga K "Number")]) htp
  have etp : (upd H1 tp (.tup [.ref (ga K "Name"), .ref (ga K "Number")])) tp = some (.tup [.ref (ga K "Name"), .ref (ga K "Number")]) := upd_same
  generalize upd H1 tp (.tup [.ref (ga K "Name"), .ref (ga K "Number")]) = H2 at s2 etp ⊢
  have s02 := s1.trans s2
  have any : PySem.W.kitAny K (.ref (ga K b.cls)) [.ref (ga K "Name"), .ref (ga K "Number")] = some true := by
    rcases bc with ec | ec
    · rw [ec]
      exact kitAny_cons (T.kit "Name" (by decide +kernel) "Name" (by decide +kernel)) (fun h => absurd h (by decide +kernel)) (fun _ => rfl)
    · rw [ec]
      exact kitAny_cons (T.kit "Number" (by decide +kernel) "Name" (by decide +kernel)) (fun _ => kitAny_cons (T.kit "Number" (by decide +kernel) "Number" (by decide +kernel)) (fun h => absurd h (by decide +kernel)) (fun _ => rfl)) (fun _ => rfl)
  refine ⟨.ref y, tp, _, _, _, true, rfl, etp, .cons (.own _) (.cons (.own _) .nil), .base (.ins (s02 _ _ eb) Ib.cl Ib.ha Ib.hn Ib.ht Ib.hm), any, _, rfl, ?_⟩
  refine ite2 (fun h => Bool.noConfusion (show false = true from h)) (fun _ => ?_)
  obtain ⟨v0, ev0, esc, ene⟩ : ∃ v0, atI thb 0 = some v0 ∧ scal v0 (.str i) = true ∧ decide (v0 = V.str i) = false := by
    rcases bt with ⟨n, _, et⟩ | ⟨z, eb', et⟩
    · exact ⟨.int n, by rw [et]; rfl, rfl, decide_eq_false (fun z => nomatch z)⟩
    · exact ⟨.str z, by rw [et]; rfl, rfl, decide_eq_false (fun y => hbi (by rw [eb']; injection y with y; rw [y]))⟩
  refine ⟨_, rfl, y, _, dxb, _, _, rfl, s02 _ _ eb, Ib.cl, Ib.no "things" (by decide +kernel), rfl, tb, _, _, v0, rfl, rfl, SqT.of (s02 _ _ etb), ev0, _, rfl, esc, _, rfl, ?_⟩
  refine ite2 (fun h => Bool.noConfusion (ene.symm.trans h)) (fun _ => ?_)
  -- the body
  refine ⟨_, rfl, f, x, rfl, hf.same s02, ?_⟩
  refine ⟨_, rfl, _, rfl, f, x, rfl, ff.2, ff.1, hf.same s02, fun l H3 s3 hl el => ⟨l, _, rfl, .inl (SqL.of el), rfl, flat_strs _, _, rfl, ?_⟩⟩
  have s03 := s02.trans s3
  refine ite2 (fun h => ?_) (fun h => ?_)
  · have h : inV (.str i) (f.ixs.map V.str) = true := h
    rw [inV_strs] at h
    exact absurd (of_decide_eq_true h) ni
  · refine ⟨_, rfl, _, rfl, _, rfl, _, rfl, tsz (by show 3 ≤ 1000000; decide), fun t ht => ⟨_, rfl, tsz (by show 1 ≤ 1000000; decide), fun e he => ?_⟩⟩
    have s4 := upd_new (o := .tup [V.str i, .ref y, .ref x]) ht
    have s5 := upd_new (o := .tup [V.ref x]) he
    obtain ⟨th1, k1⟩ := hf.kid
    have ep : (Fo.sum i b f).parts = 1 + sumP [f.kd x th1] := by rw [Fo.parts]; show 1 + f.parts = 1 + (f.parts + 0); omega
    have ed : (Fo.sum i b f).depth = 1 + maxD [f.kd x th1] := by rw [Fo.depth]; show 1 + f.depth = 1 + max f.depth 0; omega
    rw [ep, ed] at q
    exact init_read (E := E0) (ks := [f.kd x th1]) ha I ((s03.trans s4).trans s5) (s5 _ _ upd_same) upd_same (fun q hq => by rw [List.mem_singleton.mp hq]; exact k1) (by show 1 ≤ 10; decide) ⟨by rw [← ep]; exact fit.1, by rw [← ed]; exact fit.2⟩ q
/-! ### is_row -/
def spRow : Sp := fun vs H Q _ => ∃ (l : Addr) (xs : List V), vs = [.ref l] ∧ H l = some (.lst xs) ∧ ∀ H', Same H H' → Q (.bl true) H'
theorem sc_is_row : FnScope ["thing"] ["thing"] (defScope sIsRow) := ⟨rfl, rfl, rfl, by decide +kernel, rfl, by decide +kernel, by decide +kernel⟩
theorem ok_is_row (T : Txt K mg) : Cal P w K mg base CX0 (1) (ga K "is_row") ["thing"] spRow := by
  obtain ⟨fd, F⟩ := T.f_is_row
  refine ⟨fd, ?_, F.kp, F.bindsN fun _ _ _ _ _ _ us hl => match us, hl with | [_], _ => rfl⟩
  refine F.ok sc_is_row (fun vs H Q E h => ?_) (fun cdv A outer s H vs Q E hr h => ?_)
  · obtain ⟨_, _, rfl, _⟩ := h
    rfl
  have nod := sc_is_row.nd
  have hu := hu_of hr
  refine ⟨_, PSs.nox (pss_one (ps_ret (pe_callB call_isiT rfl (T.f "isinstance") (by decide +kernel) (pa_cons (pv 0) (pa_cons (pe_tup (pa_cons (pe_bltn (v := .ty "list") rfl (T.f "list") (by decide +kernel) rfl) (pa_cons (pe_bltn (v := .ty "tuple") rfl (T.f "tuple") (by decide +kernel) rfl) pa_nil))) pa_nil))))), ?_⟩
  obtain ⟨l, xs, rfl, el, q⟩ := h
  refine ⟨_, rfl, tsz (by show 2 ≤ 1000000; decide), fun tp htp => ?_⟩
  have s2 := upd_new (o := .tup [V.ty "list", .ty "tuple"]) htp
  exact ⟨.ref l, tp, _, .type "list", [.type "list", .type "tuple"], true, rfl, upd_same, .cons (.ty _) (.cons (.ty _) .nil), .base (.lst (s2 _ _ el)), kitAny_cons (b := true) (kit_ty (show kitB _ _ = some true by decide +kernel)) (fun h => nomatch h) (fun _ => rfl), q _ s2⟩
/-! ### Call.__init__ -/
def spCallI (K : PySem.W.Frag) : Sp := fun vs H Q _ => ∃ (a C dx l : Addr) (z : Str) (fs : List Fo) (xs : List Addr), vs = [.ref a, .str z, .ref l] ∧ GoodN z ∧ H a = some (.ins C dx []) ∧ InsT K C ∧ H l = some (.lst (xs.map V.ref)) ∧ 1 ≤ fs.length ∧ fs.length ≤ 4 ∧ FoAts K H fs xs ∧ (Fo.call z fs).Fits ∧
  ∀ H' t u, SameBut a H H' → H' a = some (.ins C dx (flds (.str "call") (.ref t) (Fo.call z fs).parts (Fo.call z fs).depth)) → H' t = some (.tup [.str z, .ref u]) → H' u = some (.tup (xs.map V.ref)) → Q .non H'
theorem sc_Call___init__ : FnScope ["self", "name", "things", "thing"] ["self", "name", "things"] (defScope sCall) := ⟨rfl, rfl, rfl, by decide +kernel, rfl, by decide +kernel, by decide +kernel⟩
theorem ok_Call___init__ (T : Txt K mg) : Cal P w K mg base CX0 (3) (ma K (ga K "Call") "__init__") ["self", "name", "things"] (spCallI K) := by
  obtain ⟨fd, F⟩ := T.f_Call___init__
  refine ⟨fd, ?_, F.kp, F.bindsN fun _ _ _ _ _ _ us hl => match us, hl with | [_, _, _], _ => rfl⟩
  refine F.ok sc_Call___init__ (fun vs H Q E h => ?_) (fun cdv A outer s H vs Q E hr h => ?_)
  · obtain ⟨_, _, _, _, _, _, _, rfl, _⟩ := h
    rfl
  have nod := sc_Call___init__.nd
  have hu := hu_of hr
  refine ⟨_, PSs.nox (pss_cons (ps_expr (pe_callC (c_check_name T) (hr.mono (by omega)) rfl (T.g "check_name") pass0 (pa_cons (pv 1) pa_nil)))
  (pss_cons (ps_if (PW.pt (pw_or (pt_not (pt_val (pe_callC (ok_is_row T) (hr.mono (by omega)) rfl (T.g "is_row") pass0 (pa_cons (pv 2) pa_nil)))) (pw_or1 (pt_not (pt_chain op_le op_le pe_int (pe_callB call_len_seq rfl (T.f "len") (by decide +kernel) (pa_cons (pv 2) pa_nil)) (pe_gi (n := 4) rfl T.mThg))))))
    (pss_one ps_never)
    pss_nil)
  (pss_cons (ps_for PassesOwn.never rfl (pi_list (pv 2)) (pg_name (i := 3) nod rfl (Or.inl rfl))
    (pss_one (ps_expr (pe_callC (ok_check_formula T) (hr.mono (by omega)) rfl (T.g "check_formula") pass0 (pa_cons (pv 3) pa_nil)))))
  (pss_one (ps_expr (pe_clfnC (c_form T) T.foI (hr.mono (by omega)) rfl (T.g "Formula") pass0 (pa_cons (pv 0) (pa_cons pe_str (pa_cons (pe_tup (pa_cons (pv 1) (pa_cons (pe_callTy call_tuple_of rfl (T.f "tuple") (by decide +kernel) (pa_cons (pv 2) pa_nil)) pa_nil))) (pa_cons (pe_callTy call_tuple_of rfl (T.f "tuple") (by decide +kernel) (pa_cons (pv 2) pa_nil)) pa_nil)))))))))), ?_⟩
  obtain ⟨a, C, dx, l, z, fs, xs, rfl, z0, ha, I, el, n1, n4, fk, fit, ri⟩ := h
  have lx := fk.len
  refine ⟨_, rfl, z, rfl, z0, fun H1 s1 => ?_⟩
  refine ⟨_, rfl, l, _, rfl, s1 _ _ el, fun H2 s2 => ⟨_, rfl, ?_⟩⟩
  have s02 := s1.trans s2
  refine ite2 (fun h => Bool.noConfusion (show false = true from h)) (fun _ => ?_)
  refine ⟨_, rfl, l, _, rfl, .inl (SqL.of (s02 _ _ el)), _, _, rfl, rfl, _, rfl, ?_⟩
  refine ite2 (fun h => ?_) (fun h => absurd (decide_eq_true (by rw [List.length_map]; omega)) h)
  refine ⟨_, _, rfl, rfl, _, rfl, ?_⟩
  refine ite2 (fun h => ?_) (fun _ => ?_)
  · have h : (!decide (((xs.map V.ref).length : Int) ≤ 4)) = true := h
    rw [decide_eq_true (by rw [List.length_map]; omega)] at h
    cases h
  refine ⟨_, rfl, l, rfl, ⟨_, SqL.of (s02 _ _ el)⟩, for_list (xs := xs.map V.ref) (fun _ σ H' => (∃ v, σ = [some (.ref a), some (.str z), some (.ref l), v]) ∧ H' = H2) ⟨⟨none, rfl⟩, rfl⟩ (fun i σ H' _ ⟨_, eH⟩ => by rw [eH]; exact SqL.of (s02 _ _ el)) ?_ ?_⟩
  · rintro i x σ H' hx ⟨⟨v, rfl⟩, rfl⟩
    obtain ⟨y, hy, rfl⟩ := map_at hx
    obtain ⟨f, _, hf⟩ := fk.get hy
    exact ⟨_, rfl, f, y, rfl, hf.same s02, ⟨_, rfl⟩, rfl⟩
  · rintro σ H' ⟨⟨v, rfl⟩, rfl⟩
    refine ⟨_, rfl, _, rfl, _, rfl, l, _, rfl, .inl ⟨SqL.of (s02 _ _ el), fun u hu => ?_⟩⟩
    have s3 := upd_new (o := .tup (xs.map V.ref)) hu
    have eu : (upd H' u (.tup (xs.map V.ref))) u = some (.tup (xs.map V.ref)) := upd_same
    generalize upd H' u (.tup (xs.map V.ref)) = H3 at s3 eu ⊢
    refine ⟨tsz (by show 2 ≤ 1000000; decide), fun t ht => ?_⟩
    have s4 := upd_new (o := .tup [V.str z, .ref u]) ht
    have et : (upd H3 t (.tup [.str z, .ref u])) t = some (.tup [.str z, .ref u]) := upd_same
    generalize upd H3 t (.tup [.str z, .ref u]) = H4 at s4 et ⊢
    have s04 := (s02.trans s3).trans s4
    refine ⟨_, rfl, l, _, rfl, .inl ⟨SqL.of (s04 _ _ el), fun e he => ?_⟩⟩
    have s5 := upd_new (o := .tup (xs.map V.ref)) he
    have ee : (upd H4 e (.tup (xs.map V.ref))) e = some (.tup (xs.map V.ref)) := upd_same
    generalize upd H4 e (.tup (xs.map V.ref)) = H5 at s5 ee ⊢
    have s05 := s04.trans s5
    have ha5 := s05 _ _ ha
    obtain ⟨ks, k1, k2, k3, k4, k5⟩ := fk.kids
    have ep : (Fo.call z fs).parts = 1 + sumP ks := by rw [Fo.parts, k4]
    have ed : (Fo.call z fs).depth = 1 + maxD ks := by rw [Fo.depth, k5]
    rw [← k1] at ee
    rw [ep, ed] at ri
    exact ⟨a, C, dx, e, _, _, ks, rfl, ha5, I, ee, (fun q hq => (k2 q hq).same s05), by omega, ⟨by rw [← ep]; exact fit.1, by rw [← ed]; exact fit.2⟩, fun H' sb e' => ri H' t u ((SameBut.of s05).trans sb) e' (tup_but ha5 sb (s5 _ _ et)) (tup_but ha5 sb (s5 _ _ (s4 _ _ eu)))⟩

end
end KW
set_option Elab.async false
set_option linter.all false
set_option maxRecDepth 100000
set_option maxHeartbeats 8000000
namespace KW
open PySem PySem.Spec PyProof.Rows L2 He Sw L2H
section
variable {P : Program} {w : World} {K : PySem.W.Frag} {mg : Str → Option Value} {base : Heap}
end
/-! ### the names that a formula has -/
mutual
def Fo.free : Fo → List Str
  | .num _ => []
  | .nam z => [z]
  | .neg a => a.free
  | .shl a _ => a.free
  | .bin _ a b => a.free ++ b.free
  | .sum i b a => a.free.filter (fun z => !decide (z = i)) ++ b.free
  | .call _ as => Fo.freeL as
def Fo.freeL : List Fo → List Str
  | [] => []
  | f :: fs => f.free ++ Fo.freeL fs
end
mutual
def Fo.bnds : Fo → List Str
  | .num _ => []
  | .nam _ => []
  | .neg a => a.bnds
  | .shl a _ => a.bnds
  | .bin _ a b => a.bnds ++ b.bnds
  | .sum i b a => a.bnds.filter (fun z => !decide (z = i)) ++ b.free
  | .call _ as => Fo.bndsL as
def Fo.bndsL : List Fo → List Str
  | [] => []
  | f :: fs => f.bnds ++ Fo.bndsL fs
end
theorem flat_free : ∀ fs : List Fo, flat Fo.free fs = Fo.freeL fs
  | [] => by simp [flat, Fo.freeL]
  | f :: fs => by simp [flat, Fo.freeL, flat_free fs]
theorem flat_bnds : ∀ fs : List Fo, flat Fo.bnds fs = Fo.bndsL fs
  | [] => by simp [flat, Fo.bndsL]
  | f :: fs => by simp [flat, Fo.bndsL, flat_bnds fs]
theorem Fo.free_kids (f : Fo) : f.free = (match f with | .nam z => [z] | .sum i b a => a.free.filter (fun z => !decide (z = i)) ++ b.free | _ => Fo.freeL f.kids) := by
  cases f <;> simp [Fo.free, Fo.kids, Fo.freeL]
theorem Fo.bnds_kids (f : Fo) : f.bnds = (match f with | .sum i b a => a.bnds.filter (fun z => !decide (z = i)) ++ b.free | _ => Fo.bndsL f.kids) := by
  cases f <;> simp [Fo.bnds, Fo.kids, Fo.bndsL]
theorem Fo.leaf_free {b : Fo} (h : b.leaf) : b.free.length ≤ 1 := by cases b <;> first | exact (show False from h).elim | simp [Fo.free]
mutual
theorem Fo.free_len : ∀ f : Fo, f.Ok → f.free.length ≤ 2 * f.parts
  | .num _, _ => by simp [Fo.free]
  | .nam _, _ => by simp [Fo.free, Fo.parts]
  | .neg a, h => by simp only [Fo.Ok] at h; have := Fo.free_len a h; simp only [Fo.free, Fo.parts]; omega
  | .shl a _, h => by simp only [Fo.Ok] at h; have := Fo.free_len a h.2.2; simp only [Fo.free, Fo.parts]; omega
  | .bin _ a b, h => by simp only [Fo.Ok] at h; have := Fo.free_len a h.1; have := Fo.free_len b h.2; simp only [Fo.free, Fo.parts, List.length_append]; omega
  | .sum i b a, h => by
    simp only [Fo.Ok] at h
    have h1 := Fo.free_len a h.2.2.2.2.2
    have h2 := Fo.leaf_free h.2.1
    have h3 := List.length_filter_le (fun z => !decide (z = i)) a.free
    simp only [Fo.free, Fo.parts, List.length_append]
    omega
  | .call _ as, h => by simp only [Fo.Ok] at h; have := Fo.freeL_len as h.2.2.2; simp only [Fo.free, Fo.parts]; omega
theorem Fo.freeL_len : ∀ fs : List Fo, Fo.OkL fs → (Fo.freeL fs).length ≤ 2 * Fo.partsL fs
  | [], _ => by simp [Fo.freeL]
  | f :: fs, h => by simp only [Fo.OkL] at h; have := Fo.free_len f h.1; have := Fo.freeL_len fs h.2; simp only [Fo.freeL, Fo.partsL, List.length_append]; omega
end
mutual
theorem Fo.bnds_len : ∀ f : Fo, f.Ok → f.bnds.length ≤ 2 * f.parts
  | .num _, _ => by simp [Fo.bnds]
  | .nam _, _ => by simp [Fo.bnds, Fo.parts]
  | .neg a, h => by simp only [Fo.Ok] at h; have := Fo.bnds_len a h; simp only [Fo.bnds, Fo.parts]; omega
  | .shl a _, h => by simp only [Fo.Ok] at h; have := Fo.bnds_len a h.2.2; simp only [Fo.bnds, Fo.parts]; omega
  | .bin _ a b, h => by simp only [Fo.Ok] at h; have := Fo.bnds_len a h.1; have := Fo.bnds_len b h.2; simp only [Fo.bnds, Fo.parts, List.length_append]; omega
  | .sum i b a, h => by
    simp only [Fo.Ok] at h
    have h1 := Fo.bnds_len a h.2.2.2.2.2
    have h2 := Fo.leaf_free h.2.1
    have h3 := List.length_filter_le (fun z => !decide (z = i)) a.bnds
    simp only [Fo.bnds, Fo.parts, List.length_append]
    omega
  | .call _ as, h => by simp only [Fo.Ok] at h; have := Fo.bndsL_len as h.2.2.2; simp only [Fo.bnds, Fo.parts]; omega
theorem Fo.bndsL_len : ∀ fs : List Fo, Fo.OkL fs → (Fo.bndsL fs).length ≤ 2 * Fo.partsL fs
  | [], _ => by simp [Fo.bndsL]
  | f :: fs, h => by simp only [Fo.OkL] at h; have := Fo.bnds_len f h.1; have := Fo.bndsL_len fs h.2; simp only [Fo.bndsL, Fo.partsL, List.length_append]; omega
end
theorem Fo.okL_kids {f : Fo} (h : f.Ok) : Fo.OkL f.kids := Fo.okL_mem.mpr (Fo.ok_kids h)
section
variable {P : Program} {w : World} {K : PySem.W.Frag} {mg : Str → Option Value} {base : Heap}
/-! ### free_names, outside_names, free_bounds -/
def spFree (K : PySem.W.Frag) (n : Nat) : Sp := fun vs H Q _ => ∃ (f : Fo) (a : Addr), vs = [.ref a] ∧ f.depth ≤ n ∧ f.Ok ∧ f.parts ≤ 300 ∧ FoAt K H f a ∧ ∀ l H', Same H H' → H l = none → H' l = some (.lst (f.free.map V.str)) → Q (.ref l) H'
def spBnds (K : PySem.W.Frag) (n : Nat) : Sp := fun vs H Q _ => ∃ (f : Fo) (a : Addr), vs = [.ref a] ∧ f.depth ≤ n ∧ f.Ok ∧ f.parts ≤ 300 ∧ FoAt K H f a ∧ ∀ l H', Same H H' → H l = none → H' l = some (.lst (f.bnds.map V.str)) → Q (.ref l) H'
def spOut (K : PySem.W.Frag) (n : Nat) : Sp := fun vs H Q _ => ∃ (i : Str) (b g : Fo) (a l : Addr) (zs : List Str), vs = [.ref a, .ref l] ∧ FoAt K H (.sum i b g) a ∧ b.leaf ∧ b.Ok ∧ 1 ≤ n ∧ H l = some (.lst (zs.map V.str)) ∧ zs.length ≤ 1000000 ∧
  ∀ r H', Same H H' → H r = none → H' r = some (.lst ((zs.filter (fun z => !decide (z = i)) ++ b.free).map V.str)) → Q (.ref r) H'
theorem sc_outside_names : FnScope ["formula", "found", "index", "below", "_", "name"] ["formula", "found"] (defScope s_outside_names) := ⟨rfl, rfl, rfl, by decide +kernel, rfl, by decide +kernel, by decide +kernel⟩
theorem ok_outside_names (T : Txt K mg) {n n' : Nat} (CF : Cal P w K mg base CX0 n' (ga K "free_names") ["formula"] (spFree K n)) : Cal P w K mg base CX0 (n' + 1) (ga K "outside_names") ["formula", "found"] (spOut K n) := by
  obtain ⟨fd, F⟩ := T.f_outside_names
  refine ⟨fd, ?_, F.kp, F.bindsN fun _ _ _ _ _ _ us hl => match us, hl with | [_, _], _ => rfl⟩
  refine F.ok sc_outside_names (fun vs H Q E h => ?_) (fun cdv A outer s H vs Q E hr h => ?_)
  · obtain ⟨_, _, _, _, _, _, rfl, _⟩ := h
    rfl
  have nod := sc_outside_names.nd
  have hu := hu_of hr
  refine ⟨_, PSs.nox (pss_cons (ps_asg (pe_fld (pv 0) rfl) (pg_tup rfl (pgs_cons (pg_name (i := 2) nod rfl (Or.inr rfl)) (pgs_cons (pg_name (i := 3) nod rfl (Or.inl rfl)) (pgs_cons (pg_name (i := 4) nod rfl (Or.inl rfl)) pgs_nil)))))
  (pss_one (ps_ret (pe_op op_cat (pe_lc (own := [("name", 5)]) (te := (tVar 5)) (g := (gName 5)) (tt := (tTest (tOp rNe (tVar 5) (tVar 2)))) rfl nod (pi_list (pv 1)) (blkOk_by (N := ["formula", "found", "index", "below", "_", "name"]) (sc := defScope s_outside_names) (by decide +kernel)) (fun _ _ _ _ _ => (pg_name (i := 5) nod rfl (Or.inl rfl))) (fun _ _ _ _ _ => (pts_one (pt_cmpR op_ne (pv 5) (pv 2) (nomark _)))) (fun _ _ _ _ _ => (pv 5))) (pe_callC CF (hr.mono (by omega)) rfl (T.g "free_names") pass0 (pa_cons (pv 3) pa_nil)))))), ?_⟩
  obtain ⟨i, b, g, a, l, zs, rfl, hf, hl, hb, n1, el, few, q⟩ := h
  obtain ⟨dx, t, th, xs, ha, et, sh, fk⟩ := hf.opened
  cases sh with
  | sum _ _ _ y x hb' =>
  have I := T.ins "Sum" (by decide +kernel)
  have nt := I.no "things" (by decide +kernel)
  refine ⟨_, rfl, a, _, dx, _, _, rfl, ha, I.cl, nt, rfl, t, _, rfl, SqT.of et, rfl, _, _, rfl, _, _, rfl, _, _, rfl, rfl, ?_⟩
  refine ⟨_, rfl, l, rfl, ⟨_, SqL.of el⟩, fun D hD => ?_⟩
  have upD : ∀ (o : HO), Same H (upd H D o) := fun o => upd_new hD
  refine lc_list (K := K) (a := l) (xs := zs.map V.str) (fun j H' => H' = upd H D (.lst (((zs.take j).filter (fun z => !decide (z = i))).map V.str))) (by simp) (fun j H' _ eH => by rw [eH]; exact SqL.of (upD _ _ _ el)) (fun j x' H' hx eH => ?_) (fun H' eH => ?_)
  · subst eH
    obtain ⟨z, hj, rfl⟩ := map_at hx
    refine ⟨rfl, _, rfl, _, rfl, rfl, _, rfl, ?_⟩
    have hd : (!decide (V.str z = V.str i)) = (!decide (z = i)) := by
      congr 1
      by_cases c : z = i
      · rw [decide_eq_true c, decide_eq_true (by rw [c])]
      · rw [decide_eq_false c, decide_eq_false (fun y => c (by injection y))]
    rw [take_at hj, hd]
    refine ite2 (fun h => ?_) (fun h => ?_)
    · refine ⟨_, rfl, _, upd_same, ?_, ?_⟩
      · rw [List.length_map, sizeLine_eq]
        have := List.length_filter_le (fun z => !decide (z = i)) (zs.take j)
        have := List.length_take (i := j) (l := zs)
        omega
      · rw [upd2, filt_pos (p := fun z => !decide (z = i)) h, List.map_append]
        rfl
    · rw [filt_neg (p := fun z => !decide (z = i)) h]
  rw [List.length_map, List.take_length] at eH
  subst eH
  have s1 := upD (.lst ((zs.filter (fun z => !decide (z = i))).map V.str))
  have eD : (upd H D (.lst ((zs.filter (fun z => !decide (z = i))).map V.str))) D = some (.lst ((zs.filter (fun z => !decide (z = i))).map V.str)) := upd_same
  generalize upd H D (.lst ((zs.filter (fun z => !decide (z = i))).map V.str)) = H1 at s1 eD
  obtain ⟨bp, bd⟩ := Fo.leaf_sizes hl
  refine ⟨_, rfl, b, y, rfl, by omega, hb, by omega, hb'.same s1, fun r H2 s2 hr er => ?_⟩
  have lb := Fo.leaf_free hl
  have lf := List.length_filter_le (fun z => !decide (z = i)) zs
  refine ⟨D, r, _, _, rfl, rfl, s2 _ _ eD, er, ?_, fun p hp => ?_⟩
  · rw [List.length_map, List.length_map, sizeLine_eq]
    omega
  · exact q p _ ((s1.trans s2).trans (upd_new hp)) (none_back (s1.trans s2) hp) (by rw [upd_same, List.map_append])
theorem Fo.kind_name (f : Fo) : (∃ z, f = .nam z) ∨ decide (V.str f.kind = V.str "name") = false := by
  cases f with
  | nam z => exact .inl ⟨z, rfl⟩
  | num n => exact .inr (show decide (V.str "number" = V.str "name") = false by decide +kernel)
  | sum i b a => exact .inr (show decide (V.str "sum" = V.str "name") = false by decide +kernel)
  | neg a => exact .inr (show decide (V.str "negative" = V.str "name") = false by decide +kernel)
  | shl a n => exact .inr (show decide (V.str "shift" = V.str "name") = false by decide +kernel)
  | bin o a b => cases o <;> exact .inr (by first | exact (show decide (V.str "plus" = V.str "name") = false by decide +kernel) | exact (show decide (V.str "minus" = V.str "name") = false by decide +kernel) | exact (show decide (V.str "times" = V.str "name") = false by decide +kernel))
  | call z as => exact .inr (show decide (V.str "call" = V.str "name") = false by decide +kernel)
theorem not_sum {f : Fo} (h : decide (V.str f.kind = V.str "sum") = false) : ∀ i b a, f ≠ .sum i b a := fun i b a e => by
  subst e
  have h : decide (V.str "sum" = V.str "sum") = false := h
  exact absurd h (by decide +kernel)
theorem not_name {f : Fo} (h : decide (V.str f.kind = V.str "name") = false) : ∀ z, f ≠ .nam z := fun z e => by
  subst e
  have h : decide (V.str "name" = V.str "name") = false := h
  exact absurd h (by decide +kernel)
theorem sc_free_names : FnScope ["formula", "found", "one", "name"] ["formula"] (defScope s_free_names) := ⟨rfl, rfl, rfl, by decide +kernel, rfl, by decide +kernel, by decide +kernel⟩
theorem ok_free_names (T : Txt K mg) : ∀ n, Cal P w K mg base CX0 (2*n+3) (ga K "free_names") ["formula"] (spFree K n)
  | 0 => by
    obtain ⟨fd, F⟩ := T.f_free_names
    refine ⟨fd, ⟨fun vs H Q E h => ?_, fun A outer s H args us vs Q E _ _ _ _ h => ?_⟩, F.kp, F.bindsN fun _ _ _ _ _ _ us hl => match us, hl with | [_], _ => rfl⟩
    · obtain ⟨_, _, rfl, _⟩ := h
      rfl
    · obtain ⟨_, _, _, h, _⟩ := h
      exact absurd h (Nat.not_le_of_lt (Fo.depth_pos _))
  | n + 1 => by
    have GX := ok_free_names T n
    obtain ⟨fd, F⟩ := T.f_free_names
    refine ⟨fd, ?_, F.kp, F.bindsN fun _ _ _ _ _ _ us hl => match us, hl with | [_], _ => rfl⟩
    refine F.ok sc_free_names (fun vs H Q E h => ?_) (fun cdv A outer s H vs Q E hr h => ?_)
    · obtain ⟨_, _, rfl, _⟩ := h
      rfl
    have nod := sc_free_names.nd
    have hu := hu_of hr
    refine ⟨_, PSs.nox (pss_cons (ps_if (pt_cmpR op_eq (pe_fld (pv 0) rfl) pe_str (nomark _))
      (pss_one (ps_ret (pe_lst (pa_cons (pe_ix ix_tup (pe_fld (pv 0) rfl) pe_int (fun _ _ => rfl)) pa_nil))))
      pss_nil)
    (pss_cons (ps_setLc2 (i := 1) (own := [("one", 2), ("name", 3)]) (vs1 := [3]) (g := gName 2) (tt := tYes) (wi1 := (iList K (tCall (spFree K n) [] E0 (tCons (tVar 2) tNil)))) (g1 := gName 3) (tt1 := tYes) (te := (tVar 3)) rfl nod rfl rfl (sw_true rfl rfl rfl (by decide +kernel)) (pi_tup (pe_callC (ok_inner_formulas T) (hr.mono (by omega)) rfl (T.g "inner_formulas") pass0 (pa_cons (pv 0) pa_nil))) (blkOk_by (N := ["formula", "found", "one", "name"]) (sc := defScope s_free_names) (by decide +kernel)) (by decide) (fun _ _ _ _ _ => (pg_name (i := 2) nod rfl (Or.inl rfl))) (fun _ _ _ _ _ => pts_nil) (fun _ _ _ _ _ => (pi_list (pe_callC GX (hr.mono (by omega)) rfl (T.g "free_names") pass0 (pa_cons (pv 2) pa_nil)))) (fun _ _ _ _ _ => (pg_name (i := 3) nod rfl (Or.inl rfl))) (fun _ _ _ _ _ => pts_nil) (fun _ _ _ _ _ => (pv 3)))
    (pss_cons (ps_if (pt_cmpR op_eq (pe_fld (pv 0) rfl) pe_str (nomark _))
      (pss_one (ps_ret (pe_callC (ok_outside_names T GX) (hr.mono (by omega)) rfl (T.g "outside_names") pass0 (pa_cons (pv 0) (pa_cons (pv 1) pa_nil)))))
      pss_nil)
    (pss_one (ps_ret (pv 1)))))), ?_⟩
    obtain ⟨f, a, rfl, hn, ok, hp, hf, q⟩ := h
    obtain ⟨dx, t, th, xs, ha, et, sh, fk⟩ := hf.opened
    have I := T.ins _ f.cls_mem
    have nk := I.no "kind" (by decide +kernel)
    have nt := I.no "things" (by decide +kernel)
    refine ⟨_, rfl, a, _, dx, _, .str f.kind, rfl, ha, I.cl, nk, rfl, rfl, _, rfl, ?_⟩
    rcases f.kind_name with ⟨z, rfl⟩ | hna
    · cases sh with
      | nam _ =>
      refine ite2 (fun _ => ?_) (fun n => absurd (show decide (V.str "name" = V.str "name") = true by decide +kernel) n)
      refine ⟨_, rfl, a, _, dx, _, _, rfl, ha, I.cl, nt, rfl, t, _, _, .str z, rfl, rfl, SqT.of et, rfl, tsz (by show 1 ≤ 1000000; decide), fun p hp' => ?_⟩
      exact q p _ (upd_new hp') hp' (by rw [upd_same, Fo.free]; rfl)
    refine ite2 (fun n => Bool.noConfusion (hna.symm.trans n)) (fun _ => ?_)
    refine ⟨_, rfl, f, a, rfl, hf, fun u H0 ys s0 eu fk0 => ⟨u, rfl, ⟨_, SqT.of eu⟩, fun D hD => ?_⟩⟩
    have len := Fo.freeL_len f.kids (Fo.okL_kids ok)
    have pk := f.parts_kids
    refine lc2_names (gl := Fo.free) eu fk0 hD (by rw [flat_free]; omega) (fun g hg x H' Q' s' hx k' => ⟨g, x, rfl, by have := Fo.kid_depth hg; omega, Fo.ok_kids ok g hg, by have := Fo.kid_parts hg; omega, hx, fun l H'' s'' hl el => k' l H'' s'' hl el⟩) (fun H1 s1 eD => ?_)
    rw [flat_free] at eD
    have s01 := s0.trans s1
    refine ⟨_, rfl, a, _, dx, _, .str f.kind, rfl, s01 _ _ ha, I.cl, nk, rfl, rfl, _, rfl, ?_⟩
    rcases f.kind_sum with ⟨i, b, g, rfl⟩ | hne
    · refine ite2 (fun _ => ?_) (fun n => absurd (show decide (V.str "sum" = V.str "sum") = true by decide +kernel) n)
      have ok' := ok
      simp only [Fo.Ok] at ok'
      have gd := Fo.depth_pos g
      have ed : (Fo.sum i b g).depth = 1 + g.depth := by rw [Fo.depth]
      refine ⟨_, rfl, _, rfl, i, b, g, a, D, _, rfl, hf.same s01, ok'.2.1, ok'.2.2.1, by omega, eD, by omega, fun r H' s2 hr er => q r H' (s01.trans s2) (none_back s01 hr) ?_⟩
      rw [er, Fo.free]
      simp only [Fo.kids, Fo.freeL, List.append_nil]
    · refine ite2 (fun n => Bool.noConfusion (hne.symm.trans n)) (fun _ => ?_)
      refine ⟨_, rfl, q D H1 s01 (none_back s0 hD) ?_⟩
      rw [eD, Fo.free_kids f]
      cases f with
      | sum i b g => exact absurd rfl (not_sum hne i b g)
      | nam z => exact absurd rfl (not_name hna z)
      | _ => rfl
/-! ### input_names, bound_names -/
/-- the members of zs, each once, ascending -/
def Asc (zs ys : List Str) : Prop := sortedS ys = true ∧ ys.Nodup ∧ ∀ z, z ∈ ys ↔ z ∈ zs
def spInputs (K : PySem.W.Frag) : Sp := fun vs H Q _ => ∃ (f : Fo) (a : Addr), vs = [.ref a] ∧ f.Ok ∧ f.Fits ∧ FoAt K H f a ∧ (∀ ys : List Str, ys.Nodup → (∀ z, z ∈ ys ↔ z ∈ f.free) → ys.length < 64) ∧ ∀ l H' ys, Same H H' → H l = none → Asc f.free ys → H' l = some (.lst (ys.map V.str)) → Q (.ref l) H'
theorem sc_Formula_input_names : FnScope ["self"] ["self"] (defScope s_Formula_input_names) := ⟨rfl, rfl, rfl, by decide +kernel, rfl, by decide +kernel, by decide +kernel⟩
theorem ok_Formula_input_names (T : Txt K mg) : Cal P w K mg base CX0 (86) (ma K (ga K "Formula") "input_names") ["self"] (spInputs K) := by
  obtain ⟨fd, F⟩ := T.f_Formula_input_names
  refine ⟨fd, ?_, F.kp, F.bindsN fun _ _ _ _ _ _ us hl => match us, hl with | [_], _ => rfl⟩
  refine F.ok sc_Formula_input_names (fun vs H Q E h => ?_) (fun cdv A outer s H vs Q E hr h => ?_)
  · obtain ⟨_, _, rfl, _⟩ := h
    rfl
  have nod := sc_Formula_input_names.nd
  have hu := hu_of hr
  refine ⟨_, PSs.nox (pss_one (ps_ret (pe_callB (SetE.cr_sortS rfl) rfl (T.f "sorted") (by decide +kernel) (pa_cons (pe_callTy (SetE.cr_setS rfl) rfl (T.f "set") (by decide +kernel) (pa_cons (pe_callC (ok_free_names T 40) (hr.mono (by omega)) rfl (T.g "free_names") pass0 (pa_cons (pv 0) pa_nil)) pa_nil)) pa_nil)))), ?_⟩
  obtain ⟨f, a, rfl, ok, fit, hf, few, q⟩ := h
  refine ⟨_, rfl, f, a, rfl, fit.2, ok, fit.1, hf, fun l H1 s1 hl el => ?_⟩
  have len := f.free_len ok
  have hp := fit.1
  refine ⟨l, f.free, rfl, SqL.of el, by omega, fun s ks hs nd kl mem => ?_⟩
  refine ⟨s, ks, rfl, upd_same, few ks nd mem, fun zs p zp zs' hp' => ?_⟩
  have s2 := upd_new (o := SetE.TextSet w s ks) hs
  refine q p _ zs ((s1.trans s2).trans (upd_new hp')) (none_back (s1.trans s2) hp') ⟨zs', zp.nodup_iff.mpr nd, fun z => by rw [zp.mem_iff, mem z]⟩ upd_same

end
end KW
set_option Elab.async false
set_option linter.all false
set_option maxRecDepth 100000
set_option maxHeartbeats 8000000
namespace KW
open PySem PySem.Spec PyProof.Rows L2 He Sw L2H
section
variable {P : Program} {w : World} {K : PySem.W.Frag} {mg : Str → Option Value} {base : Heap}
end
mutual
theorem Fo.depth_le : ∀ f : Fo, f.depth ≤ f.parts
  | .num _ => by simp [Fo.depth, Fo.parts]
  | .nam _ => by simp [Fo.depth, Fo.parts]
  | .neg a => by have := Fo.depth_le a; simp only [Fo.depth, Fo.parts]; omega
  | .shl a _ => by have := Fo.depth_le a; simp only [Fo.depth, Fo.parts]; omega
  | .bin _ a b => by have := Fo.depth_le a; have := Fo.depth_le b; simp only [Fo.depth, Fo.parts]; omega
  | .sum _ _ a => by have := Fo.depth_le a; simp only [Fo.depth, Fo.parts]; omega
  | .call _ as => by have := Fo.depthL_le as; simp only [Fo.depth, Fo.parts]; omega
theorem Fo.depthL_le : ∀ fs : List Fo, Fo.depthL fs ≤ Fo.partsL fs
  | [] => by simp [Fo.depthL]
  | f :: fs => by have := Fo.depth_le f; have := Fo.depthL_le fs; simp only [Fo.depthL, Fo.partsL]; omega
end
section
variable {P : Program} {w : World} {K : PySem.W.Frag} {mg : Str → Option Value} {base : Heap}
/-! ### the law's trees -/
mutual
def TrAt (H : Hp) : Fo → Addr → Prop
  | .num n, a => H a = some (.tup [.str "number", .int n])
  | .nam z, a => H a = some (.tup [.str "name", .str z])
  | .neg f, a => ∃ x, H a = some (.tup [.str "negative", .ref x]) ∧ TrAt H f x
  | .shl f n, a => ∃ x, H a = some (.tup [.str "shift", .ref x, .int n]) ∧ TrAt H f x
  | .bin o f g, a => ∃ x y, H a = some (.tup [.str o.str, .ref x, .ref y]) ∧ TrAt H f x ∧ TrAt H g y
  | .sum i b f, a => ∃ y x, H a = some (.tup [.str "sum", .str i, .ref y, .ref x]) ∧ TrAt H b y ∧ TrAt H f x
  | .call z fs, a => ∃ u xs, H a = some (.tup [.str "call", .str z, .ref u]) ∧ H u = some (.tup (xs.map V.ref)) ∧ TrAts H fs xs
def TrAts (H : Hp) : List Fo → List Addr → Prop
  | [], xs => xs = []
  | f :: fs, xs => ∃ x ys, xs = x :: ys ∧ TrAt H f x ∧ TrAts H fs ys
end
mutual
theorem TrAt.sameT {H H' : Hp} (s : SameT H H') : ∀ {f : Fo} {a : Addr}, TrAt H f a → TrAt H' f a
  | .num n, a, h => by simp only [TrAt] at h ⊢; exact s _ _ h notL
  | .nam z, a, h => by simp only [TrAt] at h ⊢; exact s _ _ h notL
  | .neg f, a, h => by simp only [TrAt] at h ⊢; obtain ⟨x, e, q⟩ := h; exact ⟨x, s _ _ e notL, TrAt.sameT s q⟩
  | .shl f n, a, h => by simp only [TrAt] at h ⊢; obtain ⟨x, e, q⟩ := h; exact ⟨x, s _ _ e notL, TrAt.sameT s q⟩
  | .bin o f g, a, h => by simp only [TrAt] at h ⊢; obtain ⟨x, y, e, q, r⟩ := h; exact ⟨x, y, s _ _ e notL, TrAt.sameT s q, TrAt.sameT s r⟩
  | .sum i b f, a, h => by simp only [TrAt] at h ⊢; obtain ⟨x, y, e, q, r⟩ := h; exact ⟨x, y, s _ _ e notL, TrAt.sameT s q, TrAt.sameT s r⟩
  | .call z fs, a, h => by simp only [TrAt] at h ⊢; obtain ⟨u, xs, e, e2, q⟩ := h; exact ⟨u, xs, s _ _ e notL, s _ _ e2 notL, TrAts.sameT s q⟩
theorem TrAts.sameT {H H' : Hp} (s : SameT H H') : ∀ {fs : List Fo} {xs : List Addr}, TrAts H fs xs → TrAts H' fs xs
  | [], xs, h => by simp only [TrAts] at h ⊢; exact h
  | f :: fs, xs, h => by simp only [TrAts] at h ⊢; obtain ⟨x, ys, e, q, r⟩ := h; exact ⟨x, ys, e, TrAt.sameT s q, TrAts.sameT s r⟩
end
theorem TrAt.same {H H' : Hp} {f : Fo} {a : Addr} (h : TrAt H f a) (s : Same H H') : TrAt H' f a := h.sameT (SameT.of s)
theorem TrAts.same {H H' : Hp} {fs : List Fo} {xs : List Addr} (h : TrAts H fs xs) (s : Same H H') : TrAts H' fs xs := h.sameT (SameT.of s)
theorem TrAts.len {H : Hp} : ∀ {fs : List Fo} {xs : List Addr}, TrAts H fs xs → xs.length = fs.length
  | [], xs, h => by simp only [TrAts] at h; rw [h]; rfl
  | f :: fs, xs, h => by simp only [TrAts] at h; obtain ⟨x, ys, rfl, q, r⟩ := h; simp [TrAts.len r]
theorem TrAts.get {H : Hp} : ∀ {fs : List Fo} {xs : List Addr}, TrAts H fs xs → ∀ {i : Nat} {x : Addr}, xs[i]? = some x → ∃ f, fs[i]? = some f ∧ TrAt H f x
  | [], xs, h, i, x, e => by simp only [TrAts] at h; rw [h] at e; cases i <;> cases e
  | f :: fs, xs, h, i, x, e => by
    simp only [TrAts] at h
    obtain ⟨y, ys, rfl, q, r⟩ := h
    cases i with
    | zero => injection e with e; subst e; exact ⟨f, rfl, q⟩
    | succ i => exact TrAts.get r e
theorem TrAts.snoc {H : Hp} {f : Fo} {x : Addr} (q : TrAt H f x) : ∀ {fs : List Fo} {xs : List Addr}, TrAts H fs xs → TrAts H (fs ++ [f]) (xs ++ [x])
  | [], xs, h => by simp only [TrAts] at h; rw [h]; simp only [List.nil_append, TrAts]; exact ⟨x, [], rfl, q, rfl⟩
  | g :: fs, xs, h => by
    simp only [TrAts] at h
    obtain ⟨y, ys, rfl, q', r⟩ := h
    simp only [List.cons_append, TrAts]
    exact ⟨y, ys ++ [x], rfl, q', TrAts.snoc q r⟩
/-- what a tree's tuple holds -/
inductive TSh (H : Hp) : Fo → List V → List Addr → Prop
  | num (n : Int) : TSh H (.num n) [.str "number", .int n] []
  | nam (z : Str) : TSh H (.nam z) [.str "name", .str z] []
  | neg (f : Fo) (x : Addr) : TSh H (.neg f) [.str "negative", .ref x] [x]
  | shl (f : Fo) (n : Int) (x : Addr) : TSh H (.shl f n) [.str "shift", .ref x, .int n] [x]
  | bin (o : B3) (f g : Fo) (x y : Addr) : TSh H (.bin o f g) [.str o.str, .ref x, .ref y] [x, y]
  | sum (i : Str) (b f : Fo) (y x : Addr) (hb : TrAt H b y) : TSh H (.sum i b f) [.str "sum", .str i, .ref y, .ref x] [x]
  | call (z : Str) (fs : List Fo) (u : Addr) (xs : List Addr) (e : H u = some (.tup (xs.map V.ref))) : TSh H (.call z fs) [.str "call", .str z, .ref u] xs
theorem TrAt.opened {H : Hp} {f : Fo} {a : Addr} (h : TrAt H f a) : ∃ th xs, H a = some (.tup th) ∧ TSh H f th xs ∧ TrAts H f.kids xs := by
  cases f <;> simp only [TrAt] at h
  · exact ⟨_, _, h, .num _, by simp only [Fo.kids, TrAts]⟩
  · exact ⟨_, _, h, .nam _, by simp only [Fo.kids, TrAts]⟩
  · obtain ⟨x, e1, q⟩ := h
    exact ⟨_, _, e1, .neg _ x, by simp only [Fo.kids, TrAts]; exact ⟨x, [], rfl, q, rfl⟩⟩
  · obtain ⟨x, e1, q⟩ := h
    exact ⟨_, _, e1, .shl _ _ x, by simp only [Fo.kids, TrAts]; exact ⟨x, [], rfl, q, rfl⟩⟩
  · obtain ⟨x, y, e1, q, r⟩ := h
    exact ⟨_, _, e1, .bin _ _ _ x y, by simp only [Fo.kids, TrAts]; exact ⟨x, [y], rfl, q, y, [], rfl, r, rfl⟩⟩
  · obtain ⟨y, x, e1, q, r⟩ := h
    exact ⟨_, _, e1, .sum _ _ _ y x q, by simp only [Fo.kids, TrAts]; exact ⟨x, [], rfl, r, rfl⟩⟩
  · obtain ⟨u, xs, e1, e, q⟩ := h
    exact ⟨_, _, e1, .call _ _ u xs e, by simp only [Fo.kids]; exact q⟩
theorem tup_new {H H' : Hp} {st t : Addr} {ns : Addr × List Int} {xs : List V} (S' : StAt H' st ns) (B : SameBut st H H') (ht : H' t = none) : StAt (upd H' t (.tup xs)) st ns ∧ SameBut st H (upd H' t (.tup xs)) :=
  ⟨S'.same (upd_new ht), B.trans (SameBut.of (upd_new ht))⟩
end
end KW
set_option Elab.async false
set_option linter.all false
set_option maxRecDepth 100000
set_option maxHeartbeats 8000000
namespace KW
open PySem PySem.Spec PyProof.Rows L2 He Sw L2H
section
variable {P : Program} {w : World} {K : PySem.W.Frag} {mg : Str → Option Value} {base : Heap}
/-! ### no calls -/
def Fo.NC : Fo → Prop
  | .num _ => True
  | .nam _ => True
  | .neg f => f.NC
  | .shl f _ => f.NC
  | .bin _ f g => f.NC ∧ g.NC
  | .sum _ b f => b.NC ∧ f.NC
  | .call _ _ => False
theorem Fo.NC.kid {f g : Fo} (h : f.NC) (hg : g ∈ f.kids) : g.NC := by
  cases f with
  | num n => cases hg
  | nam z => cases hg
  | neg a => simp only [Fo.NC] at h; rw [List.mem_singleton.mp hg]; exact h
  | shl a n => simp only [Fo.NC] at h; rw [List.mem_singleton.mp hg]; exact h
  | bin o a b =>
    simp only [Fo.NC] at h
    simp only [Fo.kids, List.mem_cons, List.not_mem_nil, or_false] at hg
    rcases hg with rfl | rfl
    · exact h.1
    · exact h.2
  | sum i b a => simp only [Fo.NC] at h; rw [List.mem_singleton.mp hg]; exact h.2
  | call z fs => simp only [Fo.NC] at h
theorem Fo.NC.bound {i : Str} {b g : Fo} (h : (Fo.sum i b g).NC) : b.NC := by simp only [Fo.NC] at h; exact h.1
theorem Fo.NC.no {z : Str} {fs : List Fo} (h : (Fo.call z fs).NC) : False := by simp only [Fo.NC] at h
theorem Fo.leaf_nc {b : Fo} (h : b.leaf) : b.NC := by cases b <;> first | exact (show False from h).elim | simp [Fo.NC]
/-! ### _law_made -/
def spMade (K : PySem.W.Frag) (n : Nat) : Sp := fun vs H Q _ => ∃ (f : Fo) (a : Addr), vs = [.ref a] ∧ f.depth ≤ n ∧ f.Ok ∧ f.NC ∧ f.Fits ∧ TrAt H f a ∧ ∀ H' b, Same H H' → FoAt K H' f b → Q (.ref b) H'
theorem FoAt.cls {H : Hp} {f : Fo} {a : Addr} (h : FoAt K H f a) : ∃ x ∈ clsL, ∃ dx fs, H a = some (.ins (ga K x) dx fs) := by
  obtain ⟨dx, fs, e⟩ := h.ins
  exact ⟨f.cls, f.cls_mem, dx, fs, e⟩
theorem sc__law_made : FnScope ["_law_tree", "_law_kind", "_law_one", "_law_other"] ["_law_tree"] (defScope sMade) := ⟨rfl, rfl, rfl, by decide +kernel, rfl, by decide +kernel, by decide +kernel⟩
theorem ok__law_made (T : Txt K mg) : ∀ n, Cal P w K mg base CX0 (n + 45) (ga K "_law_made") ["_law_tree"] (spMade K n)
  | 0 => by
    obtain ⟨fd, F⟩ := T.f__law_made
    refine ⟨fd, ⟨fun vs H Q E h => ?_, fun A outer s H args us vs Q E _ _ _ _ h => ?_⟩, F.kp, F.bindsN fun _ _ _ _ _ _ us hl => match us, hl with | [_], _ => rfl⟩
    · obtain ⟨_, _, rfl, _⟩ := h
      rfl
    · obtain ⟨_, _, _, h, _⟩ := h
      exact absurd h (Nat.not_le_of_lt (Fo.depth_pos _))
  | n + 1 => by
    have GX := ok__law_made T n
    obtain ⟨fd, F⟩ := T.f__law_made
    refine ⟨fd, ?_, F.kp, F.bindsN fun _ _ _ _ _ _ us hl => match us, hl with | [_], _ => rfl⟩
    refine F.ok sc__law_made (fun vs H Q E h => ?_) (fun cdv A outer s H vs Q E hr h => ?_)
    · obtain ⟨_, _, rfl, _⟩ := h
      rfl
    have nod := sc__law_made.nd
    have hu := hu_of hr
    refine ⟨_, PSs.nox (pss_cons (ps_set (i := 1) nod rfl (Or.inl rfl) (pe_ix ix_tup (pv 0) pe_int (fun _ _ => rfl)))
    (pss_cons (ps_if (pt_cmpR op_eq (pv 1) pe_str (nomark _))
      (pss_one (ps_ret (pe_makeC (T.ins "Number" (by decide +kernel)).mkr (ok_Number___init__ T) (hr.mono (by omega)) rfl (T.g "Number") pass0 (pa_cons (pe_ix ix_tup (pv 0) pe_int (fun _ _ => rfl)) pa_nil))))
      pss_nil)
    (pss_cons (ps_if (pt_cmpR op_eq (pv 1) pe_str (nomark _))
      (pss_one (ps_ret (pe_makeC (T.ins "Name" (by decide +kernel)).mkr (ok_Name___init__ T) (hr.mono (by omega)) rfl (T.g "Name") pass0 (pa_cons (pe_ix ix_tup (pv 0) pe_int (fun _ _ => rfl)) pa_nil))))
      pss_nil)
    (pss_cons (ps_if (pt_cmpR op_eq (pv 1) pe_str (nomark _))
      (pss_one (ps_ret (pe_makeC (T.ins "Sum" (by decide +kernel)).mkr (ok_Sum___init__ T) (hr.mono (by omega)) rfl (T.g "Sum") pass0 (pa_cons (pe_ix ix_tup (pv 0) pe_int (fun _ _ => rfl)) (pa_cons (pe_callC GX (hr.mono (by omega)) rfl (T.g "_law_made") pass0 (pa_cons (pe_ix ix_tup (pv 0) pe_int (fun _ _ => rfl)) pa_nil)) (pa_cons (pe_callC GX (hr.mono (by omega)) rfl (T.g "_law_made") pass0 (pa_cons (pe_ix ix_tup (pv 0) pe_int (fun _ _ => rfl)) pa_nil)) pa_nil))))))
      pss_nil)
    (pss_cons (ps_set (i := 2) nod rfl (Or.inl rfl) (pe_callC GX (hr.mono (by omega)) rfl (T.g "_law_made") pass0 (pa_cons (pe_ix ix_tup (pv 0) pe_int (fun _ _ => rfl)) pa_nil)))
    (pss_cons (ps_if (pt_cmpR op_eq (pv 1) pe_str (nomark _))
      (pss_one (ps_ret (pe_un (un_ownC (ok_Formula___neg__ T) (hr.mono (by omega)) pass0) (pv 2))))
      pss_nil)
    (pss_cons (ps_if (pt_cmpR op_eq (pv 1) pe_str (nomark _))
      (pss_one (ps_ret (pe_op (op_ownIC (ok_Formula___lshift__ T) (hr.mono (by omega)) pass0) (pv 2) (pe_ix ix_tup (pv 0) pe_int (fun _ _ => rfl)))))
      pss_nil)
    (pss_cons (ps_set (i := 3) nod rfl (Or.inl rfl) (pe_callC GX (hr.mono (by omega)) rfl (T.g "_law_made") pass0 (pa_cons (pe_ix ix_tup (pv 0) pe_int (fun _ _ => rfl)) pa_nil)))
    (pss_cons (ps_if (pt_cmpR op_eq (pv 1) pe_str (nomark _))
      (pss_one (ps_ret (pe_op (op_ownC (ok_Formula___add__ T) (hr.mono (by omega)) pass0 rfl) (pv 2) (pv 3))))
      pss_nil)
    (pss_cons (ps_if (pt_cmpR op_eq (pv 1) pe_str (nomark _))
      (pss_one (ps_ret (pe_op (op_ownC (ok_Formula___sub__ T) (hr.mono (by omega)) pass0 rfl) (pv 2) (pv 3))))
      pss_nil)
    (pss_one (ps_ret (pe_op (op_ownC (ok_Formula___mul__ T) (hr.mono (by omega)) pass0 rfl) (pv 2) (pv 3)))))))))))))), ?_⟩
    obtain ⟨f, a, rfl, hn, ok, nc, fit, ht, q⟩ := h
    obtain ⟨th, xs, e, sh, tk⟩ := ht.opened
    have kidn : ∀ g ∈ f.kids, g.depth ≤ n ∧ g.Ok ∧ g.Fits := fun g hg => ⟨by have := Fo.kid_depth hg; omega, Fo.ok_kids ok g hg, fit.kid hg⟩
    cases sh with
    | num i =>
      simp only [Fo.Ok] at ok
      refine ⟨_, rfl, a, _, _, .str "number", rfl, rfl, SqT.of e, rfl, ?_⟩
      refine ⟨_, rfl, rfl, _, rfl, ite2 (fun _ => ?_) (fun h => absurd (by decide +kernel) h)⟩
      refine ⟨_, rfl, a, _, _, .int i, rfl, rfl, SqT.of e, rfl, fun x dx hx hdx ne => ⟨x, _, dx, i, rfl, ok.1, ok.2, upd_same, T.ins _ (by decide +kernel), fun H' t sb e' et => ⟨rfl, ?_⟩⟩⟩
      obtain ⟨a1, nd⟩ := made (K := K) (f := .num i) (Same.refl H) hx hdx sb e' et (by simp only [Fo.parts]) (by simp only [Fo.depth])
      exact q H' _ a1 (by simp only [FoAt]; exact nd)
    | nam z =>
      simp only [Fo.Ok] at ok
      refine ⟨_, rfl, a, _, _, .str "name", rfl, rfl, SqT.of e, rfl, ?_⟩
      refine ⟨_, rfl, rfl, _, rfl, ite2 (fun h => absurd h (by decide +kernel)) (fun _ => ?_)⟩
      refine ⟨_, rfl, rfl, _, rfl, ite2 (fun _ => ?_) (fun h => absurd (by decide +kernel) h)⟩
      refine ⟨_, rfl, a, _, _, .str z, rfl, rfl, SqT.of e, rfl, fun x dx hx hdx ne => ⟨x, _, dx, z, rfl, ok, upd_same, T.ins _ (by decide +kernel), fun H' t sb e' et => ⟨rfl, ?_⟩⟩⟩
      obtain ⟨a1, nd⟩ := made (K := K) (f := .nam z) (Same.refl H) hx hdx sb e' et (by simp only [Fo.parts]) (by simp only [Fo.depth])
      exact q H' _ a1 (by simp only [FoAt]; exact nd)
    | sum i b g y x hb =>
      simp only [Fo.Ok] at ok
      obtain ⟨oi, bl, bo, bz, ni, og⟩ := ok
      obtain ⟨bp, bd⟩ := Fo.leaf_sizes bl
      have hg := kidn g (by simp [Fo.kids])
      have hgt : TrAt H g x := by
        simp only [Fo.kids, TrAts] at tk
        obtain ⟨x', ys, e1, q1, e2⟩ := tk
        rw [e2] at e1
        injection e1 with e1
        rw [e1]; exact q1
      have gp := Fo.depth_pos g
      refine ⟨_, rfl, a, _, _, .str "sum", rfl, rfl, SqT.of e, rfl, ?_⟩
      refine ⟨_, rfl, rfl, _, rfl, ite2 (fun h => absurd h (by decide +kernel)) (fun _ => ?_)⟩
      refine ⟨_, rfl, rfl, _, rfl, ite2 (fun h => absurd h (by decide +kernel)) (fun _ => ?_)⟩
      refine ⟨_, rfl, rfl, _, rfl, ite2 (fun _ => ?_) (fun h => absurd (by decide +kernel) h)⟩
      refine ⟨_, rfl, a, _, _, .str i, rfl, rfl, SqT.of e, rfl, ?_⟩
      refine ⟨_, rfl, a, _, _, .ref y, rfl, rfl, SqT.of e, rfl, b, y, rfl, by omega, bo, nc.bound, ⟨by omega, by omega⟩, hb, fun H1 yb s1 hyb => ?_⟩
      refine ⟨_, rfl, a, _, _, .ref x, rfl, rfl, SqT.of (s1 _ _ e), rfl, g, x, rfl, hg.1, hg.2.1, nc.kid (by simp [Fo.kids]), hg.2.2, hgt.same s1, fun H2 xg s2 hxg => ?_⟩
      intro X dx hx hdx ne
      have s3 : Same H2 (upd (upd H2 dx (.own X)) X (.ins (ga K "Sum") dx [])) := fun b o q => by rw [upd_ne (ne_of_none q hx), upd_ne (ne_of_none q hdx)]; exact q
      refine ⟨X, _, dx, yb, xg, i, b, g, rfl, oi, upd_same, T.ins _ (by decide +kernel), bl, bz, (hyb.same s2).same s3, hxg.same s3, ni, hg.2.2, fit, fun H' t sb e' et => ⟨rfl, ?_⟩⟩
      obtain ⟨a1, nd⟩ := made (K := K) (f := .sum i b g) (Same.refl H2) hx hdx sb e' et rfl rfl
      exact q H' _ ((s1.trans s2).trans a1) (by simp only [FoAt]; exact ⟨yb, xg, nd, (hyb.same s2).same a1, hxg.same a1⟩)
    | call z fs u _ eu => exact nc.no.elim
    | neg g x =>
      have hg := kidn g (by simp [Fo.kids])
      have hgt : TrAt H g x := by
        simp only [Fo.kids, TrAts] at tk
        obtain ⟨x', ys, e1, q1, e2⟩ := tk
        rw [e2] at e1
        injection e1 with e1
        rw [e1]; exact q1
      refine ⟨_, rfl, a, _, _, .str "negative", rfl, rfl, SqT.of e, rfl, ?_⟩
      refine ⟨_, rfl, rfl, _, rfl, ite2 (fun h => absurd h (by decide +kernel)) (fun _ => ?_)⟩
      refine ⟨_, rfl, rfl, _, rfl, ite2 (fun h => absurd h (by decide +kernel)) (fun _ => ?_)⟩
      refine ⟨_, rfl, rfl, _, rfl, ite2 (fun h => absurd h (by decide +kernel)) (fun _ => ?_)⟩
      refine ⟨_, rfl, a, _, _, .ref x, rfl, rfl, SqT.of e, rfl, g, x, rfl, hg.1, hg.2.1, nc.kid (by simp [Fo.kids]), hg.2.2, hgt, fun H1 b s1 hb => ?_⟩
      obtain ⟨x0, hx0, dx0, fs0, ea0⟩ := hb.cls
      refine ⟨_, rfl, rfl, _, rfl, ite2 (fun _ => ?_) (fun h => absurd (by decide +kernel) h)⟩
      exact ⟨_, rfl, b, _, dx0, fs0, rfl, ea0, T.neg x0 hx0, g, b, rfl, hb, fit, fun H2 y s2 hy => q H2 y (s1.trans s2) hy⟩
    | shl g m x =>
      simp only [Fo.Ok] at ok
      have hg := kidn g (by simp [Fo.kids])
      have hgt : TrAt H g x := by
        simp only [Fo.kids, TrAts] at tk
        obtain ⟨x', ys, e1, q1, e2⟩ := tk
        rw [e2] at e1
        injection e1 with e1
        rw [e1]; exact q1
      refine ⟨_, rfl, a, _, _, .str "shift", rfl, rfl, SqT.of e, rfl, ?_⟩
      refine ⟨_, rfl, rfl, _, rfl, ite2 (fun h => absurd h (by decide +kernel)) (fun _ => ?_)⟩
      refine ⟨_, rfl, rfl, _, rfl, ite2 (fun h => absurd h (by decide +kernel)) (fun _ => ?_)⟩
      refine ⟨_, rfl, rfl, _, rfl, ite2 (fun h => absurd h (by decide +kernel)) (fun _ => ?_)⟩
      refine ⟨_, rfl, a, _, _, .ref x, rfl, rfl, SqT.of e, rfl, g, x, rfl, hg.1, hg.2.1, nc.kid (by simp [Fo.kids]), hg.2.2, hgt, fun H1 b s1 hb => ?_⟩
      obtain ⟨x0, hx0, dx0, fs0, ea0⟩ := hb.cls
      refine ⟨_, rfl, rfl, _, rfl, ite2 (fun h => absurd h (by decide +kernel)) (fun _ => ?_)⟩
      refine ⟨_, rfl, rfl, _, rfl, ite2 (fun _ => ?_) (fun h => absurd (by decide +kernel) h)⟩
      exact ⟨_, rfl, _, rfl, a, _, _, .int m, rfl, rfl, SqT.of (s1 _ _ e), rfl, b, _, dx0, fs0, m, rfl, rfl, ea0, T.shl x0 hx0, g, b, m, rfl, ok.1, ok.2.1, hb, fit, fun H2 y s2 hy => ⟨⟨y, rfl⟩, q H2 y (s1.trans s2) hy⟩⟩
    | bin o g1 g2 x1 x2 =>
      have h1 := kidn g1 (by simp [Fo.kids])
      have h2 := kidn g2 (by simp [Fo.kids])
      obtain ⟨ht1, ht2⟩ : TrAt H g1 x1 ∧ TrAt H g2 x2 := by
        simp only [Fo.kids, TrAts] at tk
        obtain ⟨x', ys, e1, q1, y', zs, e2, q2, e3⟩ := tk
        rw [e3] at e2
        rw [e2] at e1
        injection e1 with e1 e4
        injection e4 with e4
        rw [e1, e4]; exact ⟨q1, q2⟩
      refine ⟨_, rfl, a, _, _, .str o.str, rfl, rfl, SqT.of e, rfl, ?_⟩
      have no : ∀ z : Str, (∀ x ∈ (["plus", "minus", "times"] : List Str), x ≠ z) → ¬ decide (V.str o.str = V.str z) = true := fun z hz e => by
        have e := of_decide_eq_true e
        injection e with e
        exact hz o.str (by rcases o.strs with h | h | h <;> rw [h] <;> simp) e
      refine ⟨_, rfl, rfl, _, rfl, ite2 (fun h => absurd h (no _ (by decide +kernel))) (fun _ => ?_)⟩
      refine ⟨_, rfl, rfl, _, rfl, ite2 (fun h => absurd h (no _ (by decide +kernel))) (fun _ => ?_)⟩
      refine ⟨_, rfl, rfl, _, rfl, ite2 (fun h => absurd h (no _ (by decide +kernel))) (fun _ => ?_)⟩
      refine ⟨_, rfl, a, _, _, .ref x1, rfl, rfl, SqT.of e, rfl, g1, x1, rfl, h1.1, h1.2.1, nc.kid (by simp [Fo.kids]), h1.2.2, ht1, fun H1 b1 s1 hb1 => ?_⟩
      refine ⟨_, rfl, rfl, _, rfl, ite2 (fun h => absurd h (no _ (by decide +kernel))) (fun _ => ?_)⟩
      refine ⟨_, rfl, rfl, _, rfl, ite2 (fun h => absurd h (no _ (by decide +kernel))) (fun _ => ?_)⟩
      refine ⟨_, rfl, a, _, _, .ref x2, rfl, rfl, SqT.of (s1 _ _ e), rfl, g2, x2, rfl, h2.1, h2.2.1, nc.kid (by simp [Fo.kids]), h2.2.2, ht2.same s1, fun H2 b2 s2 hb2 => ?_⟩
      have hb1 := hb1.same s2
      have s02 := s1.trans s2
      obtain ⟨x0, hx0, dx0, fs0, ea0⟩ := hb1.cls
      obtain ⟨y0, hy0, dy0, gs0, eb0⟩ := hb2.cls
      cases o with
      | plus =>
        refine ⟨_, rfl, rfl, _, rfl, ite2 (fun _ => ?_) (fun h => absurd (by decide +kernel) h)⟩
        exact ⟨_, rfl, _, rfl, b1, b2, _, _, dx0, dy0, fs0, gs0, rfl, rfl, ea0, eb0, T.bin x0 hx0 y0 hy0 "add" (by decide), g1, g2, b1, b2, rfl, hb1, hb2, fit, fun H3 y s3 hy => ⟨⟨y, rfl⟩, q H3 y (s02.trans s3) hy⟩⟩
      | minus =>
        refine ⟨_, rfl, rfl, _, rfl, ite2 (fun h => absurd h (by decide +kernel)) (fun _ => ?_)⟩
        refine ⟨_, rfl, rfl, _, rfl, ite2 (fun _ => ?_) (fun h => absurd (by decide +kernel) h)⟩
        exact ⟨_, rfl, _, rfl, b1, b2, _, _, dx0, dy0, fs0, gs0, rfl, rfl, ea0, eb0, T.bin x0 hx0 y0 hy0 "sub" (by decide), g1, g2, b1, b2, rfl, hb1, hb2, fit, fun H3 y s3 hy => ⟨⟨y, rfl⟩, q H3 y (s02.trans s3) hy⟩⟩
      | times =>
        refine ⟨_, rfl, rfl, _, rfl, ite2 (fun h => absurd h (by decide +kernel)) (fun _ => ?_)⟩
        refine ⟨_, rfl, rfl, _, rfl, ite2 (fun h => absurd h (by decide +kernel)) (fun _ => ?_)⟩
        exact ⟨_, rfl, _, rfl, b1, b2, _, _, dx0, dy0, fs0, gs0, rfl, rfl, ea0, eb0, T.bin x0 hx0 y0 hy0 "mul" (by decide), g1, g2, b1, b2, rfl, hb1, hb2, fit, fun H3 y s3 hy => ⟨⟨y, rfl⟩, q H3 y (s02.trans s3) hy⟩⟩

end
end KW
set_option Elab.async false
set_option linter.all false
set_option maxRecDepth 100000
set_option maxHeartbeats 8000000
namespace KW
open PySem PySem.Spec PyProof.Rows L2 He Sw L2H
section
variable {P : Program} {w : World} {K : PySem.W.Frag} {mg : Str → Option Value} {base : Heap}
/-! ### _law_inside -/
def spInside : Sp := fun vs H Q _ => ∃ (f : Fo) (a : Addr), vs = [.ref a] ∧ TrAt H f a ∧ ∀ l H' xs, Same H H' → H l = none → H' l = some (.lst (xs.map V.ref)) → TrAts H' f.kids xs → Q (.ref l) H'
theorem sc__law_inside : FnScope ["_law_tree"] ["_law_tree"] (defScope s__law_inside) := ⟨rfl, rfl, rfl, by decide +kernel, rfl, by decide +kernel, by decide +kernel⟩
theorem ok__law_inside (T : Txt K mg) : Cal P w K mg base CX0 (1) (ga K "_law_inside") ["_law_tree"] spInside := by
  obtain ⟨fd, F⟩ := T.f__law_inside
  refine ⟨fd, ?_, F.kp, F.bindsN fun _ _ _ _ _ _ us hl => match us, hl with | [_], _ => rfl⟩
  refine F.ok sc__law_inside (fun vs H Q E h => ?_) (fun cdv A outer s H vs Q E hr h => ?_)
  · obtain ⟨_, _, rfl, _⟩ := h
    rfl
  have nod := sc__law_inside.nd
  have hu := hu_of hr
  refine ⟨_, PSs.nox (pss_cons (ps_if (PW.pt (pw_or (pt_cmpR op_eq (pe_ix ix_tup (pv 0) pe_int (fun _ _ => rfl)) pe_str (nomark _)) (pw_or1 (pt_cmpR op_eq (pe_ix ix_tup (pv 0) pe_int (fun _ _ => rfl)) pe_str (nomark _)))))
    (pss_one (ps_ret (pe_lst pa_nil)))
    pss_nil)
  (pss_cons (ps_if (pt_cmpR op_eq (pe_ix ix_tup (pv 0) pe_int (fun _ _ => rfl)) pe_str (nomark _))
    (pss_one (ps_ret (pe_lst (pa_cons (pe_ix ix_tup (pv 0) pe_int (fun _ _ => rfl)) pa_nil))))
    pss_nil)
  (pss_cons (ps_if (pt_cmpR op_eq (pe_ix ix_tup (pv 0) pe_int (fun _ _ => rfl)) pe_str (nomark _))
    (pss_one (ps_ret (pe_callTy call_list_of rfl (T.f "list") (by decide +kernel) (pa_cons (pe_ix ix_tup (pv 0) pe_int (fun _ _ => rfl)) pa_nil))))
    pss_nil)
  (pss_cons (ps_if (PW.pt (pw_or (pt_cmpR op_eq (pe_ix ix_tup (pv 0) pe_int (fun _ _ => rfl)) pe_str (nomark _)) (pw_or1 (pt_cmpR op_eq (pe_ix ix_tup (pv 0) pe_int (fun _ _ => rfl)) pe_str (nomark _)))))
    (pss_one (ps_ret (pe_lst (pa_cons (pe_ix ix_tup (pv 0) pe_int (fun _ _ => rfl)) pa_nil))))
    pss_nil)
  (pss_one (ps_ret (pe_lst (pa_cons (pe_ix ix_tup (pv 0) pe_int (fun _ _ => rfl)) (pa_cons (pe_ix ix_tup (pv 0) pe_int (fun _ _ => rfl)) pa_nil))))))))), ?_⟩
  obtain ⟨f, a, rfl, ht, q⟩ := h
  obtain ⟨th, xs, e, sh, tk⟩ := ht.opened
  have new : ∀ l ys, H l = none → xs.map V.ref = ys → Q (.ref l) (upd H l (.lst ys)) := fun l ys hl ex => by
    subst ex
    exact q l _ xs (upd_new hl) hl upd_same (tk.same (upd_new hl))
  cases sh with
  | num i =>
    refine ⟨_, rfl, a, _, _, .str "number", rfl, rfl, SqT.of e, rfl, rfl, _, rfl, ite2 (fun _ => ?_) (fun h => absurd (by decide +kernel) h)⟩
    exact ⟨tsz (by show 0 ≤ 1000000; decide), fun l hl => new l _ hl rfl⟩
  | nam z =>
    refine ⟨_, rfl, a, _, _, .str "name", rfl, rfl, SqT.of e, rfl, rfl, _, rfl, ite2 (fun h => absurd h (by decide +kernel)) (fun _ => ?_)⟩
    refine ⟨_, rfl, a, _, _, .str "name", rfl, rfl, SqT.of e, rfl, rfl, _, rfl, ite2 (fun _ => ?_) (fun h => absurd (by decide +kernel) h)⟩
    exact ⟨tsz (by show 0 ≤ 1000000; decide), fun l hl => new l _ hl rfl⟩
  | sum i b g y x hb =>
    refine ⟨_, rfl, a, _, _, .str "sum", rfl, rfl, SqT.of e, rfl, rfl, _, rfl, ite2 (fun h => absurd h (by decide +kernel)) (fun _ => ?_)⟩
    refine ⟨_, rfl, a, _, _, .str "sum", rfl, rfl, SqT.of e, rfl, rfl, _, rfl, ite2 (fun h => absurd h (by decide +kernel)) (fun _ => ?_)⟩
    refine ⟨_, rfl, a, _, _, .str "sum", rfl, rfl, SqT.of e, rfl, rfl, _, rfl, ite2 (fun _ => ?_) (fun h => absurd (by decide +kernel) h)⟩
    exact ⟨_, rfl, a, _, _, .ref x, rfl, rfl, SqT.of e, rfl, tsz (by show 1 ≤ 1000000; decide), fun l hl => new l _ hl rfl⟩
  | call z fs u _ eu =>
    refine ⟨_, rfl, a, _, _, .str "call", rfl, rfl, SqT.of e, rfl, rfl, _, rfl, ite2 (fun h => absurd h (by decide +kernel)) (fun _ => ?_)⟩
    refine ⟨_, rfl, a, _, _, .str "call", rfl, rfl, SqT.of e, rfl, rfl, _, rfl, ite2 (fun h => absurd h (by decide +kernel)) (fun _ => ?_)⟩
    refine ⟨_, rfl, a, _, _, .str "call", rfl, rfl, SqT.of e, rfl, rfl, _, rfl, ite2 (fun h => absurd h (by decide +kernel)) (fun _ => ?_)⟩
    refine ⟨_, rfl, a, _, _, .str "call", rfl, rfl, SqT.of e, rfl, rfl, _, rfl, ite2 (fun _ => ?_) (fun h => absurd (by decide +kernel) h)⟩
    exact ⟨_, rfl, a, _, _, .ref u, rfl, rfl, SqT.of e, rfl, u, _, rfl, .inr (SqT.of eu), fun l hl => new l _ hl rfl⟩
  | neg g x =>
    refine ⟨_, rfl, a, _, _, .str "negative", rfl, rfl, SqT.of e, rfl, rfl, _, rfl, ite2 (fun h => absurd h (by decide +kernel)) (fun _ => ?_)⟩
    refine ⟨_, rfl, a, _, _, .str "negative", rfl, rfl, SqT.of e, rfl, rfl, _, rfl, ite2 (fun h => absurd h (by decide +kernel)) (fun _ => ?_)⟩
    refine ⟨_, rfl, a, _, _, .str "negative", rfl, rfl, SqT.of e, rfl, rfl, _, rfl, ite2 (fun h => absurd h (by decide +kernel)) (fun _ => ?_)⟩
    refine ⟨_, rfl, a, _, _, .str "negative", rfl, rfl, SqT.of e, rfl, rfl, _, rfl, ite2 (fun h => absurd h (by decide +kernel)) (fun _ => ?_)⟩
    refine ⟨_, rfl, a, _, _, .str "negative", rfl, rfl, SqT.of e, rfl, rfl, _, rfl, ite2 (fun _ => ?_) (fun h => absurd (by decide +kernel) h)⟩
    exact ⟨_, rfl, a, _, _, .ref x, rfl, rfl, SqT.of e, rfl, tsz (by show 1 ≤ 1000000; decide), fun l hl => new l _ hl rfl⟩
  | shl g m x =>
    refine ⟨_, rfl, a, _, _, .str "shift", rfl, rfl, SqT.of e, rfl, rfl, _, rfl, ite2 (fun h => absurd h (by decide +kernel)) (fun _ => ?_)⟩
    refine ⟨_, rfl, a, _, _, .str "shift", rfl, rfl, SqT.of e, rfl, rfl, _, rfl, ite2 (fun h => absurd h (by decide +kernel)) (fun _ => ?_)⟩
    refine ⟨_, rfl, a, _, _, .str "shift", rfl, rfl, SqT.of e, rfl, rfl, _, rfl, ite2 (fun h => absurd h (by decide +kernel)) (fun _ => ?_)⟩
    refine ⟨_, rfl, a, _, _, .str "shift", rfl, rfl, SqT.of e, rfl, rfl, _, rfl, ite2 (fun h => absurd h (by decide +kernel)) (fun _ => ?_)⟩
    refine ⟨_, rfl, a, _, _, .str "shift", rfl, rfl, SqT.of e, rfl, rfl, _, rfl, ite2 (fun h => absurd h (by decide +kernel)) (fun _ => ?_)⟩
    refine ⟨_, rfl, a, _, _, .str "shift", rfl, rfl, SqT.of e, rfl, rfl, _, rfl, ite2 (fun _ => ?_) (fun h => absurd (by decide +kernel) h)⟩
    exact ⟨_, rfl, a, _, _, .ref x, rfl, rfl, SqT.of e, rfl, tsz (by show 1 ≤ 1000000; decide), fun l hl => new l _ hl rfl⟩
  | bin o g1 g2 x1 x2 =>
    have no : ∀ z : Str, (∀ x ∈ (["plus", "minus", "times"] : List Str), x ≠ z) → ¬ decide (V.str o.str = V.str z) = true := fun z hz e => by
      have e := of_decide_eq_true e
      injection e with e
      exact hz o.str (by rcases o.strs with h | h | h <;> rw [h] <;> simp) e
    refine ⟨_, rfl, a, _, _, .str o.str, rfl, rfl, SqT.of e, rfl, rfl, _, rfl, ite2 (fun h => absurd h (no _ (by decide +kernel))) (fun _ => ?_)⟩
    refine ⟨_, rfl, a, _, _, .str o.str, rfl, rfl, SqT.of e, rfl, rfl, _, rfl, ite2 (fun h => absurd h (no _ (by decide +kernel))) (fun _ => ?_)⟩
    refine ⟨_, rfl, a, _, _, .str o.str, rfl, rfl, SqT.of e, rfl, rfl, _, rfl, ite2 (fun h => absurd h (no _ (by decide +kernel))) (fun _ => ?_)⟩
    refine ⟨_, rfl, a, _, _, .str o.str, rfl, rfl, SqT.of e, rfl, rfl, _, rfl, ite2 (fun h => absurd h (no _ (by decide +kernel))) (fun _ => ?_)⟩
    refine ⟨_, rfl, a, _, _, .str o.str, rfl, rfl, SqT.of e, rfl, rfl, _, rfl, ite2 (fun h => absurd h (no _ (by decide +kernel))) (fun _ => ?_)⟩
    refine ⟨_, rfl, a, _, _, .str o.str, rfl, rfl, SqT.of e, rfl, rfl, _, rfl, ite2 (fun h => absurd h (no _ (by decide +kernel))) (fun _ => ?_)⟩
    exact ⟨_, rfl, a, _, _, .ref x1, rfl, rfl, SqT.of e, rfl, _, rfl, a, _, _, .ref x2, rfl, rfl, SqT.of e, rfl, tsz (by show 2 ≤ 1000000; decide), fun l hl => new l _ hl rfl⟩
/-! ### names, gathered -/
/-- fd' is fd and behind it each of ns that is not in hs, once -/
structure Col (ns hs fd fd' : List Str) (k : Nat) : Prop where
  nd : fd.Nodup → fd'.Nodup
  len : fd'.length ≤ fd.length + k
  mem : ∀ z, z ∈ fd' ↔ z ∈ fd ∨ (z ∉ hs ∧ z ∈ ns)
theorem Col.none (hs fd : List Str) (k : Nat) : Col [] hs fd fd k := ⟨id, by omega, fun z => ⟨.inl, fun h => h.elim id fun h => by cases h.2⟩⟩
theorem Col.in_ {z : Str} {hs fd : List Str} {k : Nat} (h : z ∈ hs ∨ z ∈ fd) : Col [z] hs fd fd k := ⟨id, by omega, fun y => ⟨.inl, fun q => q.elim id fun ⟨q1, q2⟩ => by
  rw [List.mem_singleton.mp q2] at q1 ⊢
  exact h.resolve_left q1⟩⟩
theorem Col.put {z : Str} {hs fd : List Str} {k : Nat} (h1 : z ∉ hs) (h2 : z ∉ fd) (hk : 1 ≤ k) : Col [z] hs fd (fd ++ [z]) k := ⟨fun nd => by
  rw [List.nodup_append]
  exact ⟨nd, by simp, fun a ha b hb e => by rw [List.mem_singleton.mp hb] at e; rw [e] at ha; exact h2 ha⟩, by simp; omega, fun y => by
  rw [List.mem_append, List.mem_singleton]
  exact ⟨fun q => q.elim .inl fun q => .inr ⟨by rw [q]; exact h1, q⟩, fun q => q.elim .inl fun q => .inr q.2⟩⟩
theorem Col.trans {n1 n2 hs fd fd1 fd2 : List Str} {k1 k2 : Nat} (a : Col n1 hs fd fd1 k1) (b : Col n2 hs fd1 fd2 k2) : Col (n1 ++ n2) hs fd fd2 (k1 + k2) := ⟨fun h => b.nd (a.nd h), by have := a.len; have := b.len; omega, fun z => by
  rw [b.mem, a.mem, List.mem_append]
  constructor
  · rintro ((h | ⟨h1, h2⟩) | ⟨h1, h2⟩)
    · exact .inl h
    · exact .inr ⟨h1, .inl h2⟩
    · exact .inr ⟨h1, .inr h2⟩
  · rintro (h | ⟨h1, h2 | h2⟩)
    · exact .inl (.inl h)
    · exact .inl (.inr ⟨h1, h2⟩)
    · exact .inr ⟨h1, h2⟩⟩
theorem Col.hide {ns hs fd fd' : List Str} {i : Str} {k : Nat} (a : Col ns (hs ++ [i]) fd fd' k) : Col (ns.filter (fun z => !decide (z = i))) hs fd fd' k := ⟨a.nd, a.len, fun z => by
  rw [a.mem, List.mem_append, List.mem_singleton, List.mem_filter]
  constructor
  · rintro (h | ⟨h1, h2⟩)
    · exact .inl h
    · exact .inr ⟨fun q => h1 (.inl q), h2, by rw [decide_eq_false (fun q => h1 (.inr q))]; rfl⟩
  · rintro (h | ⟨h1, h2, h3⟩)
    · exact .inl h
    · refine .inr ⟨fun q => q.elim h1 fun q => ?_, h2⟩
      rw [decide_eq_true q] at h3
      cases h3⟩
theorem Col.congr {ns ns' hs fd fd' : List Str} {k k' : Nat} (a : Col ns hs fd fd' k) (h : ∀ z, z ∈ ns ↔ z ∈ ns') (hk : k ≤ k') : Col ns' hs fd fd' k' := ⟨a.nd, by have := a.len; omega, fun z => by rw [a.mem, h]⟩
/-- the inputs, or those that bound a sum -/
def Fo.nms (ba : Bool) (f : Fo) : List Str := if ba = true then f.bnds else f.free
def own1 (ba : Bool) : Fo → List Str
  | .nam z => if ba = true then [] else [z]
  | _ => []
def own2 : Fo → List Str
  | .sum _ b _ => b.free
  | _ => []
def hidOf : Fo → List Str → List Str
  | .sum i _ _, hs => hs ++ [i]
  | _, hs => hs
theorem flat_app (gl : Fo → List Str) (l : List Fo) (g : Fo) : flat gl (l ++ [g]) = flat gl l ++ gl g := by
  induction l with
  | nil => simp [flat]
  | cons a l ih => simp [flat, ih]
theorem Fo.partsL_app (l : List Fo) (g : Fo) : Fo.partsL (l ++ [g]) = Fo.partsL l + g.parts := by
  induction l with
  | nil => simp [Fo.partsL]
  | cons a l ih => simp [Fo.partsL, ih]; omega
theorem Fo.partsL_take (l : List Fo) (i : Nat) : Fo.partsL (l.take i) ≤ Fo.partsL l := by
  induction l generalizing i with
  | nil => simp
  | cons a l ih =>
    cases i with
    | zero => simp [Fo.partsL]
    | succ i => simp only [List.take_succ_cons, Fo.partsL]; have := ih i; omega
theorem Fo.nms_flat (ba : Bool) (fs : List Fo) : flat (Fo.nms ba) fs = if ba = true then Fo.bndsL fs else Fo.freeL fs := by
  cases ba with
  | true => exact flat_bnds fs
  | false => exact flat_free fs
theorem col_all {ba : Bool} {f : Fo} {hs fd fd1 fd2 fd3 : List Str} (ok : f.Ok) (h1 : Col (own1 ba f) hs fd fd1 1) (h2 : Col (own2 f) hs fd1 fd2 1) (h3 : Col (flat (Fo.nms ba) f.kids) (hidOf f hs) fd2 fd3 (2 * Fo.partsL f.kids)) : Col (f.nms ba) hs fd fd3 (2 * f.parts) := by
  have pk := f.parts_kids
  cases f with
  | sum i b g =>
    have h3 := h3.hide
    refine ((h1.trans h2).trans h3).congr (fun z => ?_) (by omega)
    cases ba <;> simp [own1, own2, Fo.nms, Fo.free, Fo.bnds, flat, Fo.kids, or_comm]
  | nam z =>
    refine ((h1.trans h2).trans h3).congr (fun y => ?_) (by omega)
    cases ba <;> simp [own1, own2, Fo.nms, Fo.free, Fo.bnds, flat, Fo.kids]
  | num z =>
    refine ((h1.trans h2).trans h3).congr (fun y => ?_) (by omega)
    cases ba <;> simp [own1, own2, Fo.nms, Fo.free, Fo.bnds, flat, Fo.kids]
  | neg g =>
    refine ((h1.trans h2).trans h3).congr (fun y => ?_) (by omega)
    cases ba <;> simp [own1, own2, Fo.nms, Fo.free, Fo.bnds, flat, Fo.kids]
  | shl g m =>
    refine ((h1.trans h2).trans h3).congr (fun y => ?_) (by omega)
    cases ba <;> simp [own1, own2, Fo.nms, Fo.free, Fo.bnds, flat, Fo.kids]
  | bin o g g2 =>
    refine ((h1.trans h2).trans h3).congr (fun y => ?_) (by omega)
    cases ba <;> simp [own1, own2, Fo.nms, Fo.free, Fo.bnds, flat, Fo.kids]
  | call z fs =>
    refine ((h1.trans h2).trans h3).congr (fun y => ?_) (by omega)
    rw [Fo.nms_flat]
    cases ba <;> simp [own1, own2, Fo.nms, Fo.free, Fo.bnds, Fo.kids]
theorem TSh.kd {H : Hp} {f : Fo} {th : List V} {xs : List Addr} (h : TSh H f th xs) : atI th 0 = some (.str f.kind) := by cases h <;> rfl
theorem TrAt.name_or {H : Hp} {f : Fo} {a : Addr} (h : TrAt H f a) : (∃ z, f = .nam z ∧ H a = some (.tup [.str "name", .str z])) ∨ (decide (V.str f.kind = V.str "name") = false) := by
  rcases f.kind_name with ⟨z, rfl⟩ | h2
  · simp only [TrAt] at h
    exact .inl ⟨z, rfl, h⟩
  · exact .inr h2
theorem not_nm {ba : Bool} {f : Fo} (h : decide (V.str f.kind = V.str "name") = false) : own1 ba f = [] := by
  cases f with
  | nam z => exact absurd rfl (not_name h z)
  | _ => rfl
theorem not_sm {f : Fo} {hs : List Str} (h : decide (V.str f.kind = V.str "sum") = false) : own2 f = [] ∧ hidOf f hs = hs := by
  cases f with
  | sum i b g => exact absurd rfl (not_sum h i b g)
  | _ => exact ⟨rfl, rfl⟩
theorem not_in {z : Str} {hs : List Str} (h : (!inV (.str z) (hs.map V.str)) = true) : z ∉ hs := fun q => by
  rw [inV_strs, decide_eq_true q] at h
  cases h
theorem is_in {z : Str} {hs : List Str} (h : ¬ (!inV (.str z) (hs.map V.str)) = true) : z ∈ hs := Classical.byContradiction fun q => by
  rw [inV_strs, decide_eq_false q] at h
  exact h rfl
/-! ### _law_inputs -/
def spInp (n : Nat) : Sp := fun vs H Q _ => ∃ (f : Fo) (a hl fl : Addr) (hs fd : List Str) (ba : Bool), vs = [.ref a, .ref hl, .ref fl, .bl ba] ∧ f.depth ≤ n ∧ f.Ok ∧ TrAt H f a ∧ H hl = some (.lst (hs.map V.str)) ∧ H fl = some (.lst (fd.map V.str)) ∧ hl ≠ fl ∧ hs.length + f.depth ≤ 500 ∧ fd.length + 2 * f.parts ≤ 20000 ∧
  ∀ H' fd', SameBut fl H H' → H' fl = some (.lst (fd'.map V.str)) → Col (f.nms ba) hs fd fd' (2 * f.parts) → Q .non H'
theorem sc__law_inputs : FnScope ["_law_tree", "_law_hidden", "_law_found", "_law_bounds_alone", "_law_around", "_law_below", "_law_one"] ["_law_tree", "_law_hidden", "_law_found", "_law_bounds_alone"] (defScope s__law_inputs) := ⟨rfl, rfl, rfl, by decide +kernel, rfl, by decide +kernel, by decide +kernel⟩
theorem ok__law_inputs (T : Txt K mg) : ∀ n, Cal P w K mg base CX0 (n + 2) (ga K "_law_inputs") ["_law_tree", "_law_hidden", "_law_found", "_law_bounds_alone"] (spInp n)
  | 0 => by
    obtain ⟨fd, F⟩ := T.f__law_inputs
    refine ⟨fd, ⟨fun vs H Q E h => ?_, fun A outer s H args us vs Q E _ _ _ _ h => ?_⟩, F.kp, F.bindsN fun _ _ _ _ _ _ us hl => match us, hl with | [_, _, _, _], _ => rfl⟩
    · obtain ⟨_, _, _, _, _, _, _, rfl, _⟩ := h
      rfl
    · obtain ⟨_, _, _, _, _, _, _, _, h, _⟩ := h
      exact absurd h (Nat.not_le_of_lt (Fo.depth_pos _))
  | n + 1 => by
    have GX := ok__law_inputs T n
    obtain ⟨fd, F⟩ := T.f__law_inputs
    refine ⟨fd, ?_, F.kp, F.bindsN fun _ _ _ _ _ _ us hl => match us, hl with | [_, _, _, _], _ => rfl⟩
    refine F.ok sc__law_inputs (fun vs H Q E h => ?_) (fun cdv A outer s H vs Q E hr h => ?_)
    · obtain ⟨_, _, _, _, _, _, _, rfl, _⟩ := h
      rfl
    have nod := sc__law_inputs.nd
    have hu := hu_of hr
    refine ⟨_, PSs.nox (C8.pss_cut (ps_if (PW.pt (pw_and (pt_cmpR op_eq (pe_ix ix_tup (pv 0) pe_int (fun _ _ => rfl)) pe_str (nomark _)) (pw_and (pt_not (pt_val (pv 3))) (pw_and (pt_cmpR op_notIn_seq (pe_ix ix_tup (pv 0) pe_int (fun _ _ => rfl)) (pv 1) rfl) (pw_and1 (pt_cmpR op_notIn_seq (pe_ix ix_tup (pv 0) pe_int (fun _ _ => rfl)) (pv 2) rfl))))))
      (pss_one (ps_expr (pe_bm PySem.F.plainAttrs_list PySem.F.slot_list_append PySem.F.type_list_append mt_append (pv 2) (pa_cons (pe_ix ix_tup (pv 0) pe_int (fun _ _ => rfl)) pa_nil))))
      pss_nil)
    (pss_cons (ps_set (i := 4) nod rfl (Or.inl rfl) (pv 1))
    (C8.pss_cut (ps_if (pt_cmpR op_eq (pe_ix ix_tup (pv 0) pe_int (fun _ _ => rfl)) pe_str (nomark _))
      (pss_cons (ps_set (i := 5) nod rfl (Or.inl rfl) (pe_ix ix_tup (pv 0) pe_int (fun _ _ => rfl)))
      (C8.pss_cut (ps_if (PW.pt (pw_and (pt_cmpR op_eq (pe_ix ix_tup (pv 5) pe_int (fun _ _ => rfl)) pe_str (nomark _)) (pw_and (pt_cmpR op_notIn_seq (pe_ix ix_tup (pv 5) pe_int (fun _ _ => rfl)) (pv 1) rfl) (pw_and1 (pt_cmpR op_notIn_seq (pe_ix ix_tup (pv 5) pe_int (fun _ _ => rfl)) (pv 2) rfl)))))
        (pss_one (ps_expr (pe_bm PySem.F.plainAttrs_list PySem.F.slot_list_append PySem.F.type_list_append mt_append (pv 2) (pa_cons (pe_ix ix_tup (pv 5) pe_int (fun _ _ => rfl)) pa_nil))))
        pss_nil)
      (pss_one (ps_set (i := 4) nod rfl (Or.inl rfl) (pe_op op_cat (pv 1) (pe_lst (pa_cons (pe_ix ix_tup (pv 0) pe_int (fun _ _ => rfl)) pa_nil)))))))
      pss_nil)
    (pss_one (ps_for PassesOwn.never rfl (pi_list (pe_callC (ok__law_inside T) (hr.mono (by omega)) rfl (T.g "_law_inside") pass0 (pa_cons (pv 0) pa_nil))) (pg_name (i := 6) nod rfl (Or.inl rfl))
      (pss_one (ps_expr (pe_callC GX (hr.mono (by omega)) rfl (T.g "_law_inputs") pass0 (pa_cons (pv 6) (pa_cons (pv 4) (pa_cons (pv 2) (pa_cons (pv 3) pa_nil)))))))))))), ?_⟩
    obtain ⟨f, a, hl, fl, hs, fd, ba, rfl, hn, ok, ht, eh, ef, ne, lh, lf, q⟩ := h
    obtain ⟨th, xs, e, sh, tk⟩ := ht.opened
    have pk := f.parts_kids
    have pp := f.parts_pos
    have dp := f.depth_pos
    -- the name itself
    refine ⟨fun σ H' => ∃ fd1, σ = [some (.ref a), some (.ref hl), some (.ref fl), some (.bl ba), none, none, none] ∧ SameBut fl H H' ∧ H' fl = some (.lst (fd1.map V.str)) ∧ Col (own1 ba f) hs fd fd1 1, ?_, ?_⟩
    · refine ⟨_, rfl, a, _, _, .str f.kind, rfl, rfl, SqT.of e, sh.kd, rfl, _, rfl, ?_⟩
      rcases ht.name_or with ⟨z, rfl, e⟩ | hna
      · refine ite2 (fun _ => ?_) (fun n => absurd (show decide (V.str "name" = V.str "name") = true by decide +kernel) n)
        refine ⟨_, rfl, _, rfl, ?_⟩
        refine ite2 (fun hb => ?_) (fun hb => ite2 (fun h => absurd h (by decide)) (fun _ => ?_))
        · have hb : ba = false := by cases ba <;> first | rfl | cases hb
          subst hb
          refine ⟨_, rfl, a, _, _, .str z, rfl, rfl, SqT.of e, rfl, _, rfl, hl, _, rfl, .inl (SqL.of eh), rfl, flat_strs _, _, rfl, ?_⟩
          refine ite2 (fun h1 => ?_) (fun h1 => ite2 (fun h => absurd h (by decide)) (fun _ => ⟨fd, rfl, SameBut.refl, ef, Col.in_ (.inl (is_in h1))⟩))
          refine ⟨_, rfl, a, _, _, .str z, rfl, rfl, SqT.of e, rfl, _, rfl, fl, _, rfl, .inl (SqL.of ef), rfl, flat_strs _, _, rfl, ?_⟩
          refine ite2 (fun h2 => ?_) (fun h2 => ⟨fd, rfl, SameBut.refl, ef, Col.in_ (.inr (is_in h2))⟩)
          refine ⟨_, rfl, .inl ⟨rfl, _, SqL.of ef⟩, _, rfl, a, _, _, .str z, rfl, rfl, SqT.of e, rfl, fl, _, _, rfl, rfl, ef, tlt (by rw [List.length_map]; omega), ?_⟩
          exact ⟨fd ++ [z], rfl, sameBut_upd, by rw [upd_same, List.map_append]; rfl, Col.put (not_in h1) (not_in h2) (by decide)⟩
        · have hb : ba = true := by cases ba <;> first | rfl | exact absurd rfl hb
          subst hb
          exact ⟨fd, rfl, SameBut.refl, ef, Col.none _ _ _⟩
      · refine ite2 (fun n => Bool.noConfusion (hna.symm.trans n)) (fun _ => ite2 (fun h => absurd h (by decide)) (fun _ => ?_))
        exact ⟨fd, rfl, SameBut.refl, ef, by rw [not_nm hna]; exact Col.none _ _ _⟩
    rintro σ H1 ⟨fd1, rfl, B1, ef1, c1⟩
    have T1 := SameT.but B1 ef
    have ht1 := ht.sameT T1
    have e1 := T1 _ _ e notL
    have eh1 := B1 _ _ ne eh
    have l1 := c1.len
    refine ⟨_, rfl, ?_⟩
    -- the bound
    refine ⟨fun σ H' => ∃ al fd2 v, σ = [some (.ref a), some (.ref hl), some (.ref fl), some (.bl ba), some (.ref al), v, none] ∧ SameBut fl H1 H' ∧ H' fl = some (.lst (fd2.map V.str)) ∧ Col (own2 f) hs fd1 fd2 1 ∧ H' al = some (.lst ((hidOf f hs).map V.str)) ∧ al ≠ fl, ?_, ?_⟩
    · refine ⟨_, rfl, a, _, _, .str f.kind, rfl, rfl, SqT.of e1, sh.kd, rfl, _, rfl, ?_⟩
      rcases f.kind_sum with ⟨i, b, g, rfl⟩ | hne
      · refine ite2 (fun _ => ?_) (fun n => absurd (show decide (V.str "sum" = V.str "sum") = true by decide +kernel) n)
        cases sh with
        | sum _ _ _ y x hb =>
        have ok' := ok
        simp only [Fo.Ok] at ok'
        have hb1 := hb.sameT T1
        obtain ⟨thb, xb, eb, shb, _⟩ := hb1.opened
        refine ⟨_, rfl, a, _, _, .ref y, rfl, rfl, SqT.of e1, rfl, ?_⟩
        refine ⟨fun σ H' => ∃ fd2, σ = [some (.ref a), some (.ref hl), some (.ref fl), some (.bl ba), some (.ref hl), some (.ref y), none] ∧ SameBut fl H1 H' ∧ H' fl = some (.lst (fd2.map V.str)) ∧ Col b.free hs fd1 fd2 1, ?_, ?_⟩
        · refine ⟨_, rfl, y, _, _, .str b.kind, rfl, rfl, SqT.of eb, shb.kd, rfl, _, rfl, ?_⟩
          rcases hb1.name_or with ⟨z, rfl, eb⟩ | hna
          · refine ite2 (fun _ => ?_) (fun n => absurd (show decide (V.str "name" = V.str "name") = true by decide +kernel) n)
            refine ⟨_, rfl, y, _, _, .str z, rfl, rfl, SqT.of eb, rfl, _, rfl, hl, _, rfl, .inl (SqL.of eh1), rfl, flat_strs _, _, rfl, ?_⟩
            have fz : (Fo.nam z).free = [z] := by simp [Fo.free]
            refine ite2 (fun h1 => ?_) (fun h1 => ite2 (fun h => absurd h (by decide)) (fun _ => ⟨fd1, rfl, SameBut.refl, ef1, by rw [fz]; exact Col.in_ (.inl (is_in h1))⟩))
            refine ⟨_, rfl, y, _, _, .str z, rfl, rfl, SqT.of eb, rfl, _, rfl, fl, _, rfl, .inl (SqL.of ef1), rfl, flat_strs _, _, rfl, ?_⟩
            refine ite2 (fun h2 => ?_) (fun h2 => ⟨fd1, rfl, SameBut.refl, ef1, by rw [fz]; exact Col.in_ (.inr (is_in h2))⟩)
            refine ⟨_, rfl, .inl ⟨rfl, _, SqL.of ef1⟩, _, rfl, y, _, _, .str z, rfl, rfl, SqT.of eb, rfl, fl, _, _, rfl, rfl, ef1, tlt (by rw [List.length_map]; omega), ?_⟩
            exact ⟨fd1 ++ [z], rfl, sameBut_upd, by rw [upd_same, List.map_append]; rfl, by rw [fz]; exact Col.put (not_in h1) (not_in h2) (by decide)⟩
          · refine ite2 (fun n => Bool.noConfusion (hna.symm.trans n)) (fun _ => ite2 (fun h => absurd h (by decide)) (fun _ => ?_))
            refine ⟨fd1, rfl, SameBut.refl, ef1, ?_⟩
            have : b.free = [] := by
              have bl := ok'.2.1
              cases b with
              | num m => simp [Fo.free]
              | nam z => exact absurd rfl (not_name hna z)
              | _ => exact (show False from bl).elim
            rw [this]
            exact Col.none _ _ _
        · rintro σ H2 ⟨fd2, rfl, B2, ef2, c2⟩
          have T2 := SameT.but B2 ef1
          have e2 := T2 _ _ e1 notL
          have eh2 := B2 _ _ ne eh1
          refine ⟨_, rfl, _, rfl, a, _, _, .str i, rfl, rfl, SqT.of e2, rfl, tsz (by show 1 ≤ 1000000; decide), fun t htn => ?_⟩
          have s3 := upd_new (o := .lst [V.str i]) htn
          refine ⟨hl, t, _, _, rfl, rfl, s3 _ _ eh2, upd_same, ?_, fun p hp => ?_⟩
          · rw [List.length_map, sizeLine_eq]; show _ + 1 ≤ _; omega
          · have s4 := s3.trans (upd_new (o := .lst (hs.map V.str ++ [V.str i])) hp)
            have np : p ≠ fl := fun z => by rw [z, s3 _ _ ef2] at hp; cases hp
            exact ⟨p, fd2, _, rfl, B2.trans (SameBut.of s4), s4 _ _ ef2, c2, by rw [upd_same]; simp [hidOf], np⟩
      · refine ite2 (fun n => Bool.noConfusion (hne.symm.trans n)) (fun _ => ?_)
        obtain ⟨o2, o3⟩ := not_sm (hs := hs) hne
        exact ⟨hl, fd1, _, rfl, SameBut.refl, ef1, by rw [o2]; exact Col.none _ _ _, by rw [o3]; exact eh1, ne⟩
    rintro σ H2 ⟨al, fd2, v5, rfl, B2, ef2, c2, ea2, na⟩
    have T2 := SameT.but B2 ef1
    have ht2 := ht1.sameT T2
    have l2 := c2.len
    have lo : (hidOf f hs).length ≤ hs.length + 1 := by cases f <;> simp [hidOf]
    -- those within
    refine ⟨_, rfl, f, a, rfl, ht2, fun kl H3 ys s3 hk ek tk3 => ⟨kl, rfl, ⟨_, SqL.of ek⟩, ?_⟩⟩
    have nk : kl ≠ fl := fun z => by rw [z, ef2] at hk; cases hk
    have ly := tk3.len
    have ef3 := s3 _ _ ef2
    refine for_list (xs := ys.map V.ref) (fun j σ H' => ∃ fdj v, σ = [some (.ref a), some (.ref hl), some (.ref fl), some (.bl ba), some (.ref al), v5, v] ∧ SameBut fl H3 H' ∧ H' fl = some (.lst (fdj.map V.str)) ∧ Col (flat (Fo.nms ba) (f.kids.take j)) (hidOf f hs) fd2 fdj (2 * Fo.partsL (f.kids.take j)))
      ⟨fd2, none, rfl, SameBut.refl, ef3, by simp only [List.take_zero, flat]; exact Col.none _ _ _⟩ (fun j σ H' _ ⟨fdj, v, _, B, _⟩ => SqL.of (B _ _ nk ek)) ?_ ?_
    · rintro j x σ H4 hx ⟨fdj, v, rfl, B4, ef4, c4⟩
      obtain ⟨y, hy, rfl⟩ := map_at hx
      obtain ⟨g, hgi, hgt⟩ := tk3.get hy
      have hg := List.mem_of_getElem? hgi
      have gd := Fo.kid_depth hg
      have tj : Fo.partsL (f.kids.take j) + g.parts ≤ Fo.partsL f.kids := by
        rw [← Fo.partsL_app, ← take_at hgi]
        exact Fo.partsL_take _ _
      have l4 := c4.len
      refine ⟨_, rfl, _, rfl, _, rfl, _, rfl, g, y, al, fl, hidOf f hs, fdj, ba, rfl, by omega, Fo.ok_kids ok g hg, hgt.sameT (SameT.but B4 ef3), B4 _ _ na (s3 _ _ ea2), ef4, na, by omega, by omega, fun H5 fd5 B5 ef5 c5 => ?_⟩
      refine ⟨fd5, _, rfl, B4.trans B5, ef5, ?_⟩
      rw [take_at hgi, flat_app, Fo.partsL_app]
      exact (c4.trans c5).congr (fun _ => Iff.rfl) (by omega)
    · rintro σ H4 ⟨fdj, v, rfl, B4, ef4, c4⟩
      rw [List.length_map, ly, List.take_length] at c4
      exact q H4 fdj (((B1.trans B2).trans (SameBut.of s3)).trans B4) ef4 (col_all ok c1 c2 c4)

end
end KW
set_option Elab.async false
set_option linter.all false
set_option maxRecDepth 100000
set_option maxHeartbeats 8000000
namespace KW
open PySem PySem.Spec PyProof.Rows L2 He Sw L2H
section
variable {P : Program} {w : World} {K : PySem.W.Frag} {mg : Str → Option Value} {base : Heap}
end
/-! ### sorted lists of names -/
theorem rising_pair : ∀ (l : List Str) (p : Str), risingS p l = true → (p :: l).Pairwise (fun a b => a.cps.toList ≤ b.cps.toList)
  | [], p, _ => by simp
  | x :: r, p, h => by
    have h : (!ltCps x.cps.toList p.cps.toList && risingS x r) = true := h
    rw [Bool.and_eq_true] at h
    have ih := rising_pair r x h.2
    have le : p.cps.toList ≤ x.cps.toList := by
      have h1 := h.1
      rw [ltCps_eq] at h1
      refine List.not_lt.mp fun q => ?_
      rw [decide_eq_true q] at h1
      cases h1
    refine List.pairwise_cons.mpr ⟨fun y hy => ?_, ih⟩
    rcases List.mem_cons.mp hy with rfl | hy
    · exact le
    · exact List.le_trans le ((List.pairwise_cons.mp ih).1 y hy)
theorem sorted_pair : ∀ (l : List Str), sortedS l = true → l.Pairwise (fun a b => a.cps.toList ≤ b.cps.toList)
  | [], _ => .nil
  | x :: r, h => rising_pair r x h
theorem str_of_list {a b : Str} (h : a.cps.toList = b.cps.toList) : a = b := by
  cases a with
  | mk a => cases b with
    | mk b =>
      have h : a.toList = b.toList := h
      rw [show a = b from by rw [← Array.toArray_toList (xs := a), h, Array.toArray_toList]]
theorem Asc.uniq {zs ys ys' : List Str} (h : Asc zs ys) (h' : Asc zs ys') : ys = ys' := by
  refine List.Perm.eq_of_pairwise (le := fun a b : Str => a.cps.toList ≤ b.cps.toList) (fun a b _ _ x y => str_of_list (List.le_antisymm x y)) (sorted_pair _ h.1) (sorted_pair _ h'.1) ?_
  rw [List.perm_ext_iff_of_nodup h.2.1 h'.2.1]
  intro z
  rw [h.2.2, h'.2.2]
theorem eqv_strs (zs : List Str) : PyData.eqv (.list (zs.map PyData.str)) (.list (zs.map PyData.str)) = true := by
  refine PySem.SeqAt.eqv_refl_plain _ ?_
  rw [PyData.plain]
  induction zs with
  | nil => rfl
  | cons z zs ih => rw [List.map_cons, PyData.plainAll, ih]; rfl
/-! ### few names -/
mutual
theorem Fo.free_len1 : ∀ f : Fo, f.Ok → f.free.length ≤ f.parts
  | .num _, _ => by simp [Fo.free]
  | .nam _, _ => by simp [Fo.free, Fo.parts]
  | .neg a, h => by simp only [Fo.Ok] at h; have := Fo.free_len1 a h; simp only [Fo.free, Fo.parts]; omega
  | .shl a _, h => by simp only [Fo.Ok] at h; have := Fo.free_len1 a h.2.2; simp only [Fo.free, Fo.parts]; omega
  | .bin _ a b, h => by simp only [Fo.Ok] at h; have := Fo.free_len1 a h.1; have := Fo.free_len1 b h.2; simp only [Fo.free, Fo.parts, List.length_append]; omega
  | .sum i b a, h => by
    simp only [Fo.Ok] at h
    have h1 := Fo.free_len1 a h.2.2.2.2.2
    have h2 := Fo.leaf_free h.2.1
    have h3 := List.length_filter_le (fun z => !decide (z = i)) a.free
    simp only [Fo.free, Fo.parts, List.length_append]
    omega
  | .call _ as, h => by simp only [Fo.Ok] at h; have := Fo.freeL_len1 as h.2.2.2; simp only [Fo.free, Fo.parts]; omega
theorem Fo.freeL_len1 : ∀ fs : List Fo, Fo.OkL fs → (Fo.freeL fs).length ≤ Fo.partsL fs
  | [], _ => by simp [Fo.freeL]
  | f :: fs, h => by simp only [Fo.OkL] at h; have := Fo.free_len1 f h.1; have := Fo.freeL_len1 fs h.2; simp only [Fo.freeL, Fo.partsL, List.length_append]; omega
end
mutual
theorem Fo.bnds_len1 : ∀ f : Fo, f.Ok → f.bnds.length ≤ f.parts
  | .num _, _ => by simp [Fo.bnds]
  | .nam _, _ => by simp [Fo.bnds, Fo.parts]
  | .neg a, h => by simp only [Fo.Ok] at h; have := Fo.bnds_len1 a h; simp only [Fo.bnds, Fo.parts]; omega
  | .shl a _, h => by simp only [Fo.Ok] at h; have := Fo.bnds_len1 a h.2.2; simp only [Fo.bnds, Fo.parts]; omega
  | .bin _ a b, h => by simp only [Fo.Ok] at h; have := Fo.bnds_len1 a h.1; have := Fo.bnds_len1 b h.2; simp only [Fo.bnds, Fo.parts, List.length_append]; omega
  | .sum i b a, h => by
    simp only [Fo.Ok] at h
    have h1 := Fo.bnds_len1 a h.2.2.2.2.2
    have h2 := Fo.leaf_free h.2.1
    have h3 := List.length_filter_le (fun z => !decide (z = i)) a.bnds
    simp only [Fo.bnds, Fo.parts, List.length_append]
    omega
  | .call _ as, h => by simp only [Fo.Ok] at h; have := Fo.bndsL_len1 as h.2.2.2; simp only [Fo.bnds, Fo.parts]; omega
theorem Fo.bndsL_len1 : ∀ fs : List Fo, Fo.OkL fs → (Fo.bndsL fs).length ≤ Fo.partsL fs
  | [], _ => by simp [Fo.bndsL]
  | f :: fs, h => by simp only [Fo.OkL] at h; have := Fo.bnds_len1 f h.1; have := Fo.bndsL_len1 fs h.2; simp only [Fo.bndsL, Fo.partsL, List.length_append]; omega
end
mutual
/-- all names that stand in it -/
def Fo.alln : Fo → List Str
  | .num _ => []
  | .nam z => [z]
  | .neg a => a.alln
  | .shl a _ => a.alln
  | .bin _ a b => a.alln ++ b.alln
  | .sum i b a => i :: (b.alln ++ a.alln)
  | .call _ as => Fo.allnL as
def Fo.allnL : List Fo → List Str
  | [] => []
  | f :: fs => f.alln ++ Fo.allnL fs
end
mutual
theorem Fo.free_alln : ∀ f : Fo, ∀ z ∈ f.free, z ∈ f.alln
  | .num _, z, h => by simp [Fo.free] at h
  | .nam y, z, h => by simpa [Fo.free, Fo.alln] using h
  | .neg a, z, h => by simp only [Fo.free] at h; simp only [Fo.alln]; exact Fo.free_alln a z h
  | .shl a _, z, h => by simp only [Fo.free] at h; simp only [Fo.alln]; exact Fo.free_alln a z h
  | .bin _ a b, z, h => by
    simp only [Fo.free, List.mem_append] at h
    simp only [Fo.alln, List.mem_append]
    exact h.imp (Fo.free_alln a z) (Fo.free_alln b z)
  | .sum i b a, z, h => by
    simp only [Fo.free, List.mem_append, List.mem_filter] at h
    simp only [Fo.alln, List.mem_cons, List.mem_append]
    exact .inr (h.elim (fun q => .inr (Fo.free_alln a z q.1)) fun q => .inl (Fo.free_alln b z q))
  | .call _ as, z, h => by simp only [Fo.free] at h; simp only [Fo.alln]; exact Fo.freeL_alln as z h
theorem Fo.freeL_alln : ∀ fs : List Fo, ∀ z ∈ Fo.freeL fs, z ∈ Fo.allnL fs
  | [], z, h => by simp [Fo.freeL] at h
  | f :: fs, z, h => by
    simp only [Fo.freeL, List.mem_append] at h
    simp only [Fo.allnL, List.mem_append]
    exact h.imp (Fo.free_alln f z) (Fo.freeL_alln fs z)
end
mutual
theorem Fo.bnds_alln : ∀ f : Fo, ∀ z ∈ f.bnds, z ∈ f.alln
  | .num _, z, h => by simp [Fo.bnds] at h
  | .nam y, z, h => by simp [Fo.bnds] at h
  | .neg a, z, h => by simp only [Fo.bnds] at h; simp only [Fo.alln]; exact Fo.bnds_alln a z h
  | .shl a _, z, h => by simp only [Fo.bnds] at h; simp only [Fo.alln]; exact Fo.bnds_alln a z h
  | .bin _ a b, z, h => by
    simp only [Fo.bnds, List.mem_append] at h
    simp only [Fo.alln, List.mem_append]
    exact h.imp (Fo.bnds_alln a z) (Fo.bnds_alln b z)
  | .sum i b a, z, h => by
    simp only [Fo.bnds, List.mem_append, List.mem_filter] at h
    simp only [Fo.alln, List.mem_cons, List.mem_append]
    exact .inr (h.elim (fun q => .inr (Fo.bnds_alln a z q.1)) fun q => .inl (Fo.free_alln b z q))
  | .call _ as, z, h => by simp only [Fo.bnds] at h; simp only [Fo.alln]; exact Fo.bndsL_alln as z h
theorem Fo.bndsL_alln : ∀ fs : List Fo, ∀ z ∈ Fo.bndsL fs, z ∈ Fo.allnL fs
  | [], z, h => by simp [Fo.bndsL] at h
  | f :: fs, z, h => by
    simp only [Fo.bndsL, List.mem_append] at h
    simp only [Fo.allnL, List.mem_append]
    exact h.imp (Fo.bnds_alln f z) (Fo.bndsL_alln fs z)
end
theorem Fo.allnL_mem {z : Str} {g : Fo} : ∀ {fs : List Fo}, g ∈ fs → z ∈ g.alln → z ∈ Fo.allnL fs
  | f :: fs, h, hz => by
    simp only [Fo.allnL, List.mem_append]
    rcases List.mem_cons.mp h with rfl | h
    · exact .inl hz
    · exact .inr (Fo.allnL_mem h hz)
theorem Fo.alln_kids (f : Fo) : ∀ z ∈ Fo.allnL f.kids, z ∈ f.alln := fun z h => by
  cases f <;> simp only [Fo.kids, Fo.allnL, Fo.alln, List.append_nil, List.mem_append, List.mem_cons, List.not_mem_nil] at h ⊢ <;> first | exact h | exact .inr (.inr h) | exact h.elim
def Fo.Few (f : Fo) : Prop := f.NC ∧ ∃ L : List Str, L.length < 64 ∧ ∀ z ∈ f.alln, z ∈ L
theorem Fo.Few.kid {f g : Fo} (h : f.Few) (hg : g ∈ f.kids) : g.Few := by
  obtain ⟨nc, L, l, m⟩ := h
  exact ⟨nc.kid hg, L, l, fun z hz => m z (Fo.alln_kids f z (Fo.allnL_mem hg hz))⟩
theorem Fo.Few.bound {i : Str} {b g : Fo} (h : (Fo.sum i b g).Few) : b.Few := by
  obtain ⟨nc, L, l, m⟩ := h
  exact ⟨nc.bound, L, l, fun z hz => m z (by simp only [Fo.alln, List.mem_cons, List.mem_append]; exact .inr (.inl hz))⟩
theorem Fo.few (ba : Bool) {f : Fo} (ok : f.Ok) (h : f.Few) : ∀ ys : List Str, ys.Nodup → (∀ z, z ∈ ys ↔ z ∈ f.nms ba) → ys.length < 64 := fun ys nd mem => by
  obtain ⟨nc, L, l, m⟩ := h
  have h1 := pig ys L nd fun x hx => m x (by
    have h2 := (mem x).mp hx
    cases ba with
    | true => exact Fo.bnds_alln f x h2
    | false => exact Fo.free_alln f x h2)
  omega
mutual
theorem Fo.free_good : ∀ f : Fo, f.Ok → ∀ z ∈ f.free, GoodN z
  | .num _, _, z, hz => by simp [Fo.free] at hz
  | .nam y, h, z, hz => by simp [Fo.free] at hz; simp only [Fo.Ok] at h; rw [hz]; exact h
  | .neg a, h, z, hz => by simp only [Fo.Ok] at h; simp only [Fo.free] at hz; exact Fo.free_good a h z hz
  | .shl a _, h, z, hz => by simp only [Fo.Ok] at h; simp only [Fo.free] at hz; exact Fo.free_good a h.2.2 z hz
  | .bin _ a b, h, z, hz => by
    simp only [Fo.Ok] at h
    simp only [Fo.free, List.mem_append] at hz
    exact hz.elim (Fo.free_good a h.1 z) (Fo.free_good b h.2 z)
  | .sum i b a, h, z, hz => by
    simp only [Fo.Ok] at h
    simp only [Fo.free, List.mem_append, List.mem_filter] at hz
    exact hz.elim (fun q => Fo.free_good a h.2.2.2.2.2 z q.1) (Fo.free_good b h.2.2.1 z)
  | .call _ as, h, z, hz => by simp only [Fo.Ok] at h; simp only [Fo.free] at hz; exact Fo.freeL_good as h.2.2.2 z hz
theorem Fo.freeL_good : ∀ fs : List Fo, Fo.OkL fs → ∀ z ∈ Fo.freeL fs, GoodN z
  | [], _, z, hz => by simp [Fo.freeL] at hz
  | f :: fs, h, z, hz => by
    simp only [Fo.OkL] at h
    simp only [Fo.freeL, List.mem_append] at hz
    exact hz.elim (Fo.free_good f h.1 z) (Fo.freeL_good fs h.2 z)
end
mutual
theorem Fo.bnds_good : ∀ f : Fo, f.Ok → ∀ z ∈ f.bnds, GoodN z
  | .num _, _, z, hz => by simp [Fo.bnds] at hz
  | .nam y, _, z, hz => by simp [Fo.bnds] at hz
  | .neg a, h, z, hz => by simp only [Fo.Ok] at h; simp only [Fo.bnds] at hz; exact Fo.bnds_good a h z hz
  | .shl a _, h, z, hz => by simp only [Fo.Ok] at h; simp only [Fo.bnds] at hz; exact Fo.bnds_good a h.2.2 z hz
  | .bin _ a b, h, z, hz => by
    simp only [Fo.Ok] at h
    simp only [Fo.bnds, List.mem_append] at hz
    exact hz.elim (Fo.bnds_good a h.1 z) (Fo.bnds_good b h.2 z)
  | .sum i b a, h, z, hz => by
    simp only [Fo.Ok] at h
    simp only [Fo.bnds, List.mem_append, List.mem_filter] at hz
    exact hz.elim (fun q => Fo.bnds_good a h.2.2.2.2.2 z q.1) (Fo.free_good b h.2.2.1 z)
  | .call _ as, h, z, hz => by simp only [Fo.Ok] at h; simp only [Fo.bnds] at hz; exact Fo.bndsL_good as h.2.2.2 z hz
theorem Fo.bndsL_good : ∀ fs : List Fo, Fo.OkL fs → ∀ z ∈ Fo.bndsL fs, GoodN z
  | [], _, z, hz => by simp [Fo.bndsL] at hz
  | f :: fs, h, z, hz => by
    simp only [Fo.OkL] at h
    simp only [Fo.bndsL, List.mem_append] at hz
    exact hz.elim (Fo.bnds_good f h.1 z) (Fo.bndsL_good fs h.2 z)
end
theorem Fo.nms_good {ba : Bool} {f : Fo} (ok : f.Ok) : ∀ z ∈ f.nms ba, GoodN z := by
  cases ba with
  | true => exact Fo.bnds_good f ok
  | false => exact Fo.free_good f ok
section
variable {P : Program} {w : World} {K : PySem.W.Frag} {mg : Str → Option Value} {base : Heap}

end
end KW
set_option Elab.async false
set_option linter.all false
set_option maxRecDepth 100000
set_option maxHeartbeats 8000000
namespace KW
open PySem PySem.Spec PyProof.Rows L2 He Sw L2H
section
variable {P : Program} {w : World} {K : PySem.W.Frag} {mg : Str → Option Value} {base : Heap}
end
theorem Fo.mem_freeL {z : Str} : ∀ {fs : List Fo}, z ∈ Fo.freeL fs ↔ ∃ f ∈ fs, z ∈ f.free
  | [] => by simp [Fo.freeL]
  | f :: fs => by simp [Fo.freeL, Fo.mem_freeL (fs := fs)]
/-! ### what a formula tells -/
def updE (e : Str → Int) (i : Str) (k : Int) : Str → Int := fun z => if z = i then k else e z
theorem updE_same {e : Str → Int} {i : Str} {k : Int} : updE e i k i = k := if_pos rfl
theorem updE_ne {e : Str → Int} {i z : Str} {k : Int} (h : z ≠ i) : updE e i k z = e z := if_neg h
def sumN (f : Nat → Int) : Nat → Int
  | 0 => 0
  | n + 1 => sumN f n + f n
def sumT (f : Nat → Nat) : Nat → Nat
  | 0 => 0
  | n + 1 => sumT f n + f n
def B3.on : B3 → Int → Int → Int
  | .plus, x, y => x + y
  | .minus, x, y => x - y
  | .times, x, y => x * y
def Fo.val (s : Int) : Fo → (Str → Int) → Int
  | .num n, _ => n % s
  | .nam z, e => e z
  | .neg f, e => (-f.val s e) % s
  | .shl f n, e => (f.val s e * 2 ^ n.toNat) % s
  | .bin o f g, e => o.on (f.val s e) (g.val s e) % s
  | .sum i b f, e => sumN (fun k => f.val s (updE e i k)) (b.val s e).toNat % s
  | .call _ _, _ => 0
def Fo.cnt (s : Int) : Fo → (Str → Int) → Nat
  | .num _, _ => 0
  | .nam _, _ => 0
  | .neg f, e => f.cnt s e
  | .shl f _, e => f.cnt s e
  | .bin _ f g, e => f.cnt s e + g.cnt s e
  | .sum i b f, e => (b.val s e).toNat + sumT (fun k => f.cnt s (updE e i k)) (b.val s e).toNat
  | .call _ _, _ => 0
/-- the words of the inputs are words -/
def Wd (s : Int) (e : Str → Int) (zs : List Str) : Prop := ∀ z ∈ zs, 0 ≤ e z ∧ e z < s
theorem Fo.val_word {s : Int} (hs : 0 < s) : ∀ (f : Fo) (e : Str → Int), Wd s e f.free → 0 ≤ f.val s e ∧ f.val s e < s
  | .num n, e, _ => ⟨Int.emod_nonneg _ (by omega), Int.emod_lt_of_pos _ hs⟩
  | .nam z, e, h => h z (by simp [Fo.free])
  | .neg f, e, _ => ⟨Int.emod_nonneg _ (by omega), Int.emod_lt_of_pos _ hs⟩
  | .shl f n, e, _ => ⟨Int.emod_nonneg _ (by omega), Int.emod_lt_of_pos _ hs⟩
  | .bin o f g, e, _ => ⟨Int.emod_nonneg _ (by omega), Int.emod_lt_of_pos _ hs⟩
  | .sum i b f, e, _ => ⟨Int.emod_nonneg _ (by omega), Int.emod_lt_of_pos _ hs⟩
  | .call _ _, e, _ => ⟨Int.le_refl _, hs⟩
theorem Wd.sum {s : Int} {e : Str → Int} {i : Str} {b f : Fo} {k : Int} (h : Wd s e (Fo.sum i b f).free) (k0 : 0 ≤ k) (k1 : k < s) : Wd s (updE e i k) f.free := fun z hz => by
  by_cases c : z = i
  · rw [c, updE_same]; exact ⟨k0, k1⟩
  · rw [updE_ne c]
    exact h z (by simp only [Fo.free]; exact List.mem_append_left _ (List.mem_filter.mpr ⟨hz, by rw [decide_eq_false c]; rfl⟩))
theorem Wd.bound {s : Int} {e : Str → Int} {i : Str} {b f : Fo} (h : Wd s e (Fo.sum i b f).free) : Wd s e b.free := fun z hz => h z (by simp only [Fo.free]; exact List.mem_append_right _ hz)
theorem Wd.kid {s : Int} {e : Str → Int} {f g : Fo} (h : Wd s e f.free) (hg : g ∈ f.kids) (hne : ∀ i b a, f ≠ .sum i b a) : Wd s e g.free := fun z hz => by
  refine h z ?_
  rw [Fo.free_kids]
  cases f with
  | sum i b a => exact absurd rfl (hne i b a)
  | num n => simp [Fo.kids] at hg
  | nam y => simp [Fo.kids] at hg
  | neg a => simp only [Fo.kids, List.mem_singleton] at hg; subst hg; simp [Fo.kids, Fo.freeL, hz]
  | shl a n => simp only [Fo.kids, List.mem_singleton] at hg; subst hg; simp [Fo.kids, Fo.freeL, hz]
  | bin o a b =>
    simp only [Fo.kids, List.mem_cons, List.not_mem_nil, or_false] at hg
    rcases hg with rfl | rfl <;> simp [Fo.kids, Fo.freeL, hz]
  | call y fs => simp only [Fo.kids] at hg; exact Fo.mem_freeL.mpr ⟨g, hg, hz⟩
/-- all turns, of all rows of words -/
def cntL (s : Int) (f : Fo) (es : List (Str → Int)) : Nat := (es.map (f.cnt s)).sum
/-- the rows for the turns of a sum -/
def turnsOf (s : Int) (i : Str) (b : Fo) (e : Str → Int) : List (Str → Int) := (List.range (b.val s e).toNat).map (fun (k : Nat) => updE e i (k : Int))
def rowsOf (s : Int) (i : Str) (b : Fo) (es : List (Str → Int)) : List (Str → Int) := es.flatMap (turnsOf s i b)
theorem sumT_range (f : Nat → Nat) (n : Nat) : sumT f n = ((List.range n).map f).sum := by
  induction n with
  | zero => rfl
  | succ n ih => rw [List.range_succ, List.map_append, List.sum_append, sumT, ih]; simp
theorem sumN_range (f : Nat → Int) (n : Nat) : sumN f n = ((List.range n).map f).sum := by
  induction n with
  | zero => rfl
  | succ n ih => rw [List.range_succ, List.map_append, List.sum_append, sumN, ih]; simp
theorem rows_len (s : Int) (i : Str) (b : Fo) (es : List (Str → Int)) : (rowsOf s i b es).length = (es.map fun e => (b.val s e).toNat).sum := by
  induction es with
  | nil => rfl
  | cons e es ih =>
    rw [rowsOf, List.flatMap_cons, List.length_append, List.map_cons, List.sum_cons, ← ih]
    simp [turnsOf, rowsOf]
theorem cntL_sum (s : Int) (i : Str) (b f : Fo) (es : List (Str → Int)) : cntL s (.sum i b f) es = (rowsOf s i b es).length + cntL s f (rowsOf s i b es) := by
  rw [rows_len]
  induction es with
  | nil => rfl
  | cons e es ih =>
    simp only [cntL, List.map_cons, List.sum_cons, rowsOf, List.flatMap_cons, List.map_append, List.sum_append] at ih ⊢
    rw [ih]
    have : Fo.cnt s (.sum i b f) e = (b.val s e).toNat + ((turnsOf s i b e).map (f.cnt s)).sum := by
      rw [Fo.cnt, sumT_range, turnsOf, List.map_map]
      rfl
    rw [this]
    omega
theorem cntL_bin (s : Int) (o : B3) (f g : Fo) (es : List (Str → Int)) : cntL s (.bin o f g) es = cntL s f es + cntL s g es := by
  induction es with
  | nil => rfl
  | cons e es ih =>
    simp only [cntL, List.map_cons, List.sum_cons] at ih ⊢
    rw [ih, Fo.cnt]
    omega
theorem cntL_neg (s : Int) (f : Fo) (es : List (Str → Int)) : cntL s (.neg f) es = cntL s f es := by simp only [cntL]; congr 1
theorem cntL_shl (s : Int) (f : Fo) (n : Int) (es : List (Str → Int)) : cntL s (.shl f n) es = cntL s f es := by simp only [cntL]; congr 1
theorem cntL_leaf {s : Int} {f : Fo} (h : f.leaf) (es : List (Str → Int)) : cntL s f es = 0 := by
  induction es with
  | nil => rfl
  | cons e es ih =>
    simp only [cntL, List.map_cons, List.sum_cons] at ih ⊢
    rw [ih]
    cases f <;> first | exact (show False from h).elim | rfl
section
variable {P : Program} {w : World} {K : PySem.W.Frag} {mg : Str → Option Value} {base : Heap}

end
end KW
set_option Elab.async false
set_option linter.all false
set_option maxRecDepth 100000
set_option maxHeartbeats 2000000
/-! A method of an instance whose class is one of several that all have it from one base. -/
namespace Sw
open PySem PySem.Spec PyProof.Rows L2 He
/-- the object o is an instance of some class in the set, has no field of the name, and the def keeps its promise with it ahead of the arguments -/
def tMethI (IsC : Addr → Prop) (m : Str) (sp : Sp) (E : XK) (ta : TE) (t : TA) : TE := fun σ H Q => ta σ H fun x H1 => ∃ a C dx fs, x = .ref a ∧ IsC C ∧ H1 a = some (.ins C dx fs) ∧ fs.lookup m = none ∧ t σ H1 fun vs H2 => sp (.ref a :: vs) H2 Q E
section
variable {X : Cx} {CX : CXT} {k : Nat} {f : Addr} {ps : List Str} {sp : Sp} {E : XK} {m : Str} {pos apos : Pos} {e o : Expr} {es : List Expr} {ta : TE} {t : TA} {IsC : Addr → Prop}
theorem pe_methI {pl : Sem Bool} (he : PE X o ta) (F : Cal X.prog X.w X.K X.mg X.base CX k f ps sp) (hc : ∀ C, IsC C → Cls X.K C ∧ Meth X.K C m f) (hr : Room k X.A) (hx : Passes CX X E) (ha : PA X (e :: es) t)
    (hst : starEach (e :: es) X.env = (false, eval e X.env) :: starEach es X.env := by rfl) (hpl : (backTo pos (starEach es X.env)).any (·.1) = false := by rfl)
    (ht : eval (.Call (.Attribute o m apos) (e :: es) [] pos) X.env = (do
      let ov ← eval o X.env
      standAt apos.atName
      let (f, first) ← holding [ov] (getMethod ov m pl)
      callWith pos f first (backTo pos (starEach (e :: es) X.env)) (backToKw pos (keywordEach [] X.env))) := by rfl) :
    PE X (.Call (.Attribute o m apos) (e :: es) [] pos) (tMethI IsC m sp E ta t) := by
  obtain ⟨fd, F, hk, hb⟩ := F
  refine ⟨fun pins s σ H Q I h => ?_⟩
  have first := he.run pins s σ H _ I h
  refine PySem.W.methodCall_KW (pl := pl) (thn first ?_) ht
  rintro u s1 ⟨x, H1, I1, rx, a, C, dx, fs, rfl, ic, ea, l, q⟩
  cases rx
  obtain ⟨c1, c2⟩ := hc C ic
  refine getmeth_ok I1 ea c1 c2 l (PySem.W.callWith_K (first := [.ref a]) (h₀ := X.base) I.ok.mod.kin hk (thn (ha.run pos pins s1 σ H1 _ I1 q) ?_) hst hpl)
  rintro us s2 ⟨vs, H2, I2, r, q2⟩
  exact ⟨I2.kIn, run_fn (us := .ref a :: us) (vs := .ref a :: vs) F hr hb .nil hx I2 (.cons rfl r) (by rw [List.append_nil]; exact q2)⟩
theorem pe_methI0 {pl : Sem Bool} (he : PE X o ta) (F : Cal X.prog X.w X.K X.mg X.base CX k f ps sp) (hc : ∀ C, IsC C → Cls X.K C ∧ Meth X.K C m f) (hr : Room k X.A) (hx : Passes CX X E)
    (ht : eval (.Call (.Attribute o m apos) [] [] pos) X.env = (do
      let ov ← eval o X.env
      standAt apos.atName
      let (f, first) ← holding [ov] (getMethod ov m pl)
      callWith pos f first (backTo pos (starEach [] X.env)) (backToKw pos (keywordEach [] X.env))) := by rfl) :
    PE X (.Call (.Attribute o m apos) [] [] pos) (tMethI IsC m sp E ta tNil) := by
  obtain ⟨fd, F, hk, hb⟩ := F
  refine ⟨fun pins s σ H Q I h => ?_⟩
  have first := he.run pins s σ H _ I h
  refine PySem.W.methodCall_KW (pl := pl) (thn first ?_) ht
  rintro u s1 ⟨x, H1, I1, rx, a, C, dx, fs, rfl, ic, ea, l, q⟩
  cases rx
  obtain ⟨c1, c2⟩ := hc C ic
  exact getmeth_ok I1 ea c1 c2 l (PySem.W.callWith_K0 (first := [.ref a]) I1.kIn hk (run_fn (us := [.ref a]) (vs := [.ref a]) F hr hb .nil hx I1 (.cons rfl .nil) q))
end
end Sw
set_option Elab.async false
set_option linter.all false
set_option maxRecDepth 100000
set_option maxHeartbeats 2000000
/-! One lemma for every loop of a comprehension: of one source, of the outer or the inner of two, of a dict's. -/
namespace Sw
open PySem PySem.Spec PyProof.Rows L2 He
theorem loop_it {J : It} {n : Nat} {G : Hp → Prop} {Y : Nat → Hp → V → Hp → Prop} (w : Walk J n G Y) {Done : Hp → Prop} {Turn : (Hp → Prop) → V → Hp → Prop} {H0 : Hp} (Pv : Nat → Hp → Prop) (h0 : Pv 0 H0) (hG : ∀ i H, i ≤ n → Pv i H → G H)
    (hs : ∀ i x H H', i < n → Pv i H → Y i H x H' → Turn (Pv (i + 1)) x H') (hd : ∀ H, Pv n H → Done H) :
    ∃ W : Nat → Nat → Hp → Prop, (∃ m, W 0 m H0) ∧ ∀ i m H, W i m H → (J.stop i H ∧ Done H) ∨ (J.go i H ∧ ∃ Nx : Hp → Prop, (∀ H', Nx H' → ∃ m', m' < m ∧ W (i + 1) m' H') ∧ ∀ x H', J.yld i H x H' → Turn Nx x H') := by
  refine ⟨fun i m H => i ≤ n ∧ Pv i H ∧ m + i = n, ⟨n, Nat.zero_le _, h0, rfl⟩, fun i m H ⟨hi, p, hm⟩ => ?_⟩
  have g := hG i H hi p
  rcases Nat.lt_or_ge i n with hlt | hge
  · exact .inr ⟨w.goes i H hlt g, Pv (i + 1), fun H' p' => ⟨m - 1, by omega, hlt, p', by omega⟩, fun x H' y => hs i x H H' hlt p (w.yields i H x H' hlt g y)⟩
  · obtain rfl : i = n := by omega
    exact .inl ⟨w.stops H g, hd H p⟩
/-- i & (2 ** k - 1) -/
def rAndM : R2 := fun x y H Q => ∃ (i : Int) (k : Nat), x = .int i ∧ y = .int (2 ^ k - 1) ∧ Q (.int (i % 2 ^ k)) H
theorem op_andN {X : Cx} : OpR X (binaryOp .BitAnd) rAndM := op_andM
end Sw
set_option Elab.async false
set_option linter.all false
set_option maxRecDepth 100000
set_option maxHeartbeats 2000000
/-! x = {k: v for .. in ..}: the name is stored while the comprehension's own frame still stands. -/
namespace Sw
open PySem PySem.Spec PyProof.Rows L2 He
section
variable {X : Cx} {kx vx tg iter : Expr} {ifs : List Expr} {scope : Scope} {own : List (Str × Nat)} {pos py spos : Pos} {i : Nat} {y : Str} {wi : TI} {g : TG} {tt : TT} {tk tv : TE}
theorem swap_dc {gs : List Comprehension} {l : Nat} {env : Env} (fn : env.scope.kind = .function) (loc : env.scope.names.lookup y = some .local) (row : (py.line == pos.line) = true)
    (other : (scope.names.any fun (n, k) => n == y && (k == .local || k == .cell)) = false) : swapsWith (.DictComp kx vx gs scope pos) (some (.Name y py)) l env = pure true := by
  have e1 : env.blockKind = .function := by simp only [Env.blockKind, fn]; decide
  have e2 : env.kindOf y = some .local := loc
  unfold swapsWith
  simp only [e1, e2, other, Expr.pos, row]
  rfl
theorem ps_setDc (calm : X.calm = true) (nod : X.N.Nodup) (at_ : X.N[i]? = some y) (loc : X.env.scope.names.lookup y = some .local) (sw : swapsWith (.DictComp kx vx [⟨tg, iter, ifs, 0⟩] scope pos) (some (.Name y py)) spos.line X.env = pure true)
    (src : PI X tg iter wi) (blk : BlkOk X.N X.env.scope scope own)
    (tgt : ∀ (s : Shared) (H : Hp) (C : Addr) (cl : List (Str × Addr)) (fp : List Addr), PG (X.blk s H scope (compEnvC scope cl C X.env) fp) tg g) (tests : ∀ (s : Shared) (H : Hp) (C : Addr) (cl : List (Str × Addr)) (fp : List Addr), PTs (X.blk s H scope (compEnvC scope cl C X.env) fp) ifs tt)
    (key : ∀ (s : Shared) (H : Hp) (C : Addr) (cl : List (Str × Addr)) (fp : List Addr), PE (X.blk s H scope (compEnvC scope cl C X.env) fp) kx tk) (val : ∀ (s : Shared) (H : Hp) (C : Addr) (cl : List (Str × Addr)) (fp : List Addr), PE (X.blk s H scope (compEnvC scope cl C X.env) fp) vx tv)
    (folds : ∀ x, foldedSetIterable iter X.env x = pure x := by intro _; rfl) : PS X (.Assign [.Name y py] (.DictComp kx vx [⟨tg, iter, ifs, 0⟩] scope pos) spos) (tAsg (tDc wi g tt tk tv (own.map (·.2))) (gName i)) := by
  refine ⟨fun pins s σ H D I h => ?_⟩
  have whole : wpAny (model X.prog X.w) X.A (comprehension (.DictComp kx vx [⟨tg, iter, ifs, 0⟩] scope pos) scope X.env (firstIterPos [⟨tg, iter, ifs, 0⟩] pos) newDict false (eval iter X.env) (some (assign (.Name y py) X.env))) (fun _ s' => SP X pins D .next s') X.xe s := by
    refine dc_core (Q := fun x H1 => D.nx (σ.set i (some x)) H1) calm nod I src blk tgt tests key val folds h fun R C s1 m H1 J q ns fp => ?_
    obtain ⟨p0, p1, p2, p3, p4, p5⟩ := fp
    refine wpAny_assign_Name (store_ok2 (v := V.ref R) J nod at_ (.inl loc) rfl (fun s2 J2 ⟨a, sb, wh⟩ => ?_) (.inr loc))
    refine ⟨m, ns.sameBut sb ?_, fun h3 sb3 => ⟨_, H1, J2.turned (t' := s2.toks) (fun b o hb e => (sb3.2 b hb).trans e) p0 p1 p3 p4 p5, q⟩⟩
    rcases wh with z | z
    · rw [z]; exact p1
    · exact fun e => p4 y a z e.symm
  rw [exec_Assign_Name_used _ _ _ _ sw]
  exact wpAny_bind (wpAny_standAt (wpAny_bind (wpAny_bind (thn whole fun _ s' done => wpAny_pure (wpAny_pure done)))))
end
end Sw
set_option Elab.async false
set_option linter.all false
set_option maxRecDepth 100000
set_option maxHeartbeats 2000000
/-! Readings, one layer at a time: what the walk_at "rd" of my texts is made of. -/
namespace Sw
open PySem PySem.Spec PyProof.Rows L2 He
section
variable {K : PySem.W.Frag} {σ : L2.St} {H H' : Hp} {Q : VK} {D : Ends} {ta tb tc te : TE} {tt tu : TT} {t1 t2 : TS} {v x y : V} {i j : Int} {es : TA}
/-- what follows, not yet worked out -/
def Kt (Q : VK) (v : V) (H : Hp) : Prop := Q v H
theorem rd_kt (q : Q v H) : Kt Q v H := q
theorem Same.use {b : Addr} {o : HO} (s : Same H H') (h : H b = some o) : H' b = some o := s b o h
theorem rd_var {n : Nat} (h : σ[n]? = some (some v)) (q : Q v H) : tVar n σ H Q := ⟨v, h, q⟩
theorem rd_c (q : Q v H) : tC v σ H Q := q
theorem rd_op {r : R2} (q : ta σ H fun x H1 => tb σ H1 fun y H2 => r x y H2 Q) : tOp r ta tb σ H Q := q
theorem rd_un {r : V → Hp → VK → Prop} (q : ta σ H fun x H1 => r x H1 Q) : tUn r ta σ H Q := q
theorem rd_I0 {g : Int → Int → V} (q : Q (g i j) H) : rI0 g (.int i) (.int j) H Q := ⟨i, j, rfl, rfl, q⟩
theorem rd_I {C : Int → Int → Prop} {g : Int → Int → V} (c : C i j) (q : Q (g i j) H) : rI C g (.int i) (.int j) H Q := ⟨i, j, rfl, rfl, c, q⟩
theorem rd_U {g : Int → V} (q : Q (g i) H) : rU g (.int i) H Q := ⟨i, rfl, q⟩
theorem rd_eq (s : scal x y = true) (q : Q (.bl (decide (x = y))) H) : rEq x y H Q := ⟨s, q⟩
theorem rd_ne (s : scal x y = true) (q : Q (.bl (!decide (x = y))) H) : rNe x y H Q := ⟨s, q⟩
theorem rd_test {Q : Bool → Hp → Prop} (q : ta σ H fun x H' => ∃ k, x = .bl k ∧ Q k H') : tTest ta σ H Q := q
theorem rd_B {Q : Bool → Hp → Prop} (q : ta σ H fun x H' => ∃ k, x = .bl k ∧ Q k H') : tB ta σ H Q := q
theorem rd_bl {k : Bool} {R : Bool → Prop} (q : R k) : ∃ k', V.bl k = .bl k' ∧ R k' := ⟨k, rfl, q⟩
theorem rd_and {Q : Bool → Hp → Prop} (q : tt σ H fun c H1 => if c = true then tu σ H1 Q else Q false H1) : tAnd tt tu σ H Q := q
theorem rd_or {Q : Bool → Hp → Prop} (q : tt σ H fun c H1 => if c = true then Q true H1 else tu σ H1 Q) : tOr tt tu σ H Q := q
theorem rd_not {Q : Bool → Hp → Prop} (q : tt σ H fun c H1 => Q (!c) H1) : tNot tt σ H Q := q
theorem rd_andV (q : ta σ H fun x H1 => ∃ c, x = .bl c ∧ if c = true then tb σ H1 Q else Q (.bl false) H1) : tAndV ta tb σ H Q := q
theorem rd_orV (q : ta σ H fun x H1 => ∃ c, x = .bl c ∧ if c = true then Q (.bl true) H1 else tb σ H1 Q) : tOrV ta tb σ H Q := q
theorem rd_notV (q : ta σ H fun x H1 => ∃ c, x = .bl c ∧ Q (.bl (!c)) H1) : tNotV ta σ H Q := q
theorem rd_if (q : tt σ H fun c H1 => if c = true then ta σ H1 Q else tb σ H1 Q) : tIf tt ta tb σ H Q := q
theorem rd_seq {nx bk ct : L2.St → Hp → Prop} {rt : VK} (q : t1 { nx := t2 { nx := nx, rt := rt, bk := bk, ct := ct }, rt := rt, bk := bk, ct := ct } σ H) : tSeq t1 t2 { nx := nx, rt := rt, bk := bk, ct := ct } σ H := q
theorem rd_next {nx bk ct : L2.St → Hp → Prop} {rt : VK} (q : nx σ H) : tNext { nx := nx, rt := rt, bk := bk, ct := ct } σ H := q
theorem rd_brk {nx bk ct : L2.St → Hp → Prop} {rt : VK} (q : bk σ H) : tBreak { nx := nx, rt := rt, bk := bk, ct := ct } σ H := q
theorem rd_cont {nx bk ct : L2.St → Hp → Prop} {rt : VK} (q : ct σ H) : tCont { nx := nx, rt := rt, bk := bk, ct := ct } σ H := q
theorem rd_drop {nx bk ct : L2.St → Hp → Prop} {rt : VK} (q : te σ H fun _ H1 => nx σ H1) : tDrop te { nx := nx, rt := rt, bk := bk, ct := ct } σ H := q
theorem rd_ret {nx bk ct : L2.St → Hp → Prop} {rt : VK} (q : te σ H rt) : tRet te { nx := nx, rt := rt, bk := bk, ct := ct } σ H := q
theorem rd_retN {nx bk ct : L2.St → Hp → Prop} {rt : VK} (q : rt .non H) : tRetN { nx := nx, rt := rt, bk := bk, ct := ct } σ H := q
theorem rd_ifS (q : tt σ H fun b H1 => if b = true then t1 D σ H1 else t2 D σ H1) : tIfS tt t1 t2 D σ H := q
theorem rd_asg {g : TG} {nx bk ct : L2.St → Hp → Prop} {rt : VK} (q : te σ H fun x H1 => g x σ H1 nx) : tAsg te g { nx := nx, rt := rt, bk := bk, ct := ct } σ H := q
theorem rd_gName {n : Nat} {R : L2.St → Hp → Prop} (q : R (σ.set n (some v)) H) : gName n v σ H R := q
theorem rd_nil {R : List V → Hp → Prop} (q : R [] H) : tNil σ H R := q
theorem rd_cons {R : List V → Hp → Prop} (q : ta σ H fun x H1 => es σ H1 fun xs H2 => R (x :: xs) H2) : tCons ta es σ H R := q
theorem rd_call {sp : Sp} {dvs : List V} {E : XK} (q : es σ H fun vs H1 => sp (vs ++ dvs) H1 Q E) : tCall sp dvs E es σ H Q := q
theorem rd_make {C : Addr} {sp : Sp} {dvs : List V} {E : XK} (q : es σ H fun vs H1 => ∀ x dx, H1 x = none → H1 dx = none → dx ≠ x → sp (.ref x :: (vs ++ dvs)) (upd (upd H1 dx (.own x)) x (.ins C dx [])) (fun v H2 => v = .non ∧ Kt Q (.ref x) H2) E) : tMake C sp dvs E es σ H Q := q
theorem rd_CB {r : List V → Hp → VK → Prop} (q : es σ H fun vs H1 => r vs H1 Q) : tCB r es σ H Q := q
theorem rd_ixL {p : Addr} {xs : List V} (h : SqL K H p xs) (a : atI xs i = some v) (q : Q v H) : rIxL K (.ref p) (.int i) H Q := ⟨p, xs, i, v, rfl, rfl, h, a, q⟩
theorem rd_ixT {p : Addr} {xs : List V} (h : SqT K H p xs) (a : atI xs i = some v) (q : Q v H) : rIxT K (.ref p) (.int i) H Q := ⟨p, xs, i, v, rfl, rfl, h, a, q⟩
/-- a new object, its heap a letter -/
theorem rd_new {o : HO} (k : ∀ p H', H p = none → Same H H' → H' p = some o → Q (.ref p) H') : ∀ p, H p = none → Kt Q (.ref p) (upd H p o) :=
  fun p hp => k p _ hp (fun b u e => by rw [upd_ne (ne_of_none e hp)]; exact e) upd_same
theorem rd_tup (q : es σ H fun xs H1 => xs.length ≤ sizeLine ∧ ∀ p, H1 p = none → Kt Q (.ref p) (upd H1 p (.tup xs))) : tTup es σ H Q := q
theorem rd_lst (q : es σ H fun xs H1 => xs.length ≤ sizeLine ∧ ∀ p, H1 p = none → Kt Q (.ref p) (upd H1 p (.lst xs))) : tLst es σ H Q := q
theorem rd_dget (q : ta σ H fun x H1 => tb σ H1 fun y H2 => ∃ a v, x = .ref a ∧ DGet H2 a y (some v) ∧ Q v H2) : tDGet ta tb σ H Q := q
theorem rd_dget' {a : Addr} {kvs : List (Key × V)} {k : Key} {y : V} (e : H a = some (.dK kvs)) (hy : y = kV k) (hv : valV kvs k = some v) (q : Q v H) : ∃ a' v, V.ref a = .ref a' ∧ DGet H a' y (some v) ∧ Q v H := ⟨a, v, rfl, by subst hy; rw [← hv]; exact .inl ⟨kvs, k, .inl e, rfl, rfl⟩, q⟩
/-- int(n), n an int -/
theorem rd_for {wi : TI} {g : TG} (q : wi σ H fun J H1 => ∃ W : Nat → Nat → L2.St → Hp → Prop, (∃ m, W 0 m σ H1) ∧ ∀ i m σ H, W i m σ H →
  (J.stop i H ∧ D.nx σ H) ∨ (J.go i H ∧ ∃ N : L2.St → Hp → Prop, (∀ σ' H', N σ' H' → ∃ m', m' < m ∧ W (i + 1) m' σ' H') ∧ ∀ x H', J.yld i H x H' → g x σ H' fun σ2 H2 => t1 { D with nx := N, ct := N, bk := D.nx } σ2 H2)) : tFor wi g t1 D σ H := q
end
end Sw
namespace Sw
open PySem PySem.Spec PyProof.Rows L2 He
section
variable {K : PySem.W.Frag} {H : Hp}
theorem rd_int1 {n : Int} {R : Int → Prop} {B : Prop} (q : R n) : (∃ i, [V.int n] = [V.int i] ∧ R i) ∨ B := .inl ⟨n, rfl, q⟩
theorem rd_1I {n : Int} {R : Int → Prop} (q : R n) : ∃ i, [V.int n] = [V.int i] ∧ R i := ⟨n, rfl, q⟩
theorem rd_2I {a b : Int} {R : Int → Int → Prop} (q : R a b) : ∃ i j, [V.int a, V.int b] = [V.int i, V.int j] ∧ R i j := ⟨a, b, rfl, q⟩
theorem rd_len {p : Addr} {xs : List V} {R : Nat → Prop} (h : SqL K H p xs ∨ SqT K H p xs) (q : R xs.length) : ∃ p' ys, [V.ref p] = [V.ref p'] ∧ (SqL K H p' ys ∨ SqT K H p' ys) ∧ R ys.length := ⟨p, xs, rfl, h, q⟩
theorem rd_iv {n : Int} {R : Int → Prop} (q : R n) : ∃ i, V.int n = V.int i ∧ R i := ⟨n, rfl, q⟩
theorem rd_sz {n : Nat} {A : Prop} (h : n ≤ 1000000) (q : A) : n ≤ sizeLine ∧ A := ⟨by rw [sizeLine_eq]; omega, q⟩
theorem rd_fix {z w : V} {σ : L2.St} {n : Nat} (h : σ[n]? = some (some z)) (e : z = w) : σ[n]? = some (some w) := by rw [h, e]
end
end Sw
namespace Sw
open PySem PySem.Spec PyProof.Rows L2 He
section
variable {K : PySem.W.Frag} {σ : L2.St} {H H' : Hp} {Q : VK} {D : Ends} {ta tb tc te : TE} {tt tu : TT} {t1 t2 : TS} {v x y : V} {i j : Int} {es : TA}
theorem SameBut.use {b st : Addr} {o : HO} (s : ∀ b o, b ≠ st → H b = some o → H' b = some o) (n : b ≠ st) (h : H b = some o) : H' b = some o := s b o n h
theorem rd_consV {n : Nat} {R : List V → Hp → Prop} (h : σ[n]? = some (some v)) (q : es σ H fun xs H2 => R (v :: xs) H2) : tCons (tVar n) es σ H R := ⟨v, h, q⟩
theorem rd_consC {R : List V → Hp → Prop} (q : es σ H fun xs H2 => R (v :: xs) H2) : tCons (tC v) es σ H R := q
theorem rd_sl {r : V → Option Int → Option Int → Hp → VK → Prop} {tl th : TO} (q : te σ H fun x H1 => tl σ H1 fun l H2 => th σ H2 fun u H3 => r x l u H3 Q) : tSl r te tl th σ H Q := q
theorem rd_nopart {R : Option Int → Hp → Prop} (q : R none H) : tNoPart σ H R := q
theorem rd_part {R : Option Int → Hp → Prop} (q : te σ H fun x H1 => ∃ i, x = .int i ∧ R (some i) H1) : tPart te σ H R := q
theorem rd_slL {a : Addr} {xs : List V} {lo hi : Option Int} (h : SqL K H a xs) (q : ∀ p, H p = none → Kt Q (.ref p) (upd H p (.lst (cutV xs lo hi)))) : rSlL K (.ref a) lo hi H Q := ⟨a, xs, rfl, h, q⟩
theorem rd_cat {a b : Addr} {xs ys : List V} (h1 : H a = some (.lst xs)) (h2 : H b = some (.lst ys)) (n : xs.length + ys.length ≤ 1000000) (q : ∀ p, H p = none → Kt Q (.ref p) (upd H p (.lst (xs ++ ys)))) : rCat (.ref a) (.ref b) H Q := ⟨a, b, xs, ys, rfl, rfl, h1, h2, by rw [sizeLine_eq]; omega, q⟩
theorem rd_rng1 {R : It → Hp → Prop} (q : es σ H fun vs H1 => ∃ j : Int, vs = [.int j] ∧ -(2 ^ 62) ≤ j ∧ j < 2 ^ 62 ∧ R (Itr 0 j.toNat) H1) : iRng1 es σ H R := q
theorem rd_rng1' {n : Int} {R : It → Hp → Prop} (b : -(2 ^ 62) ≤ n ∧ n < 2 ^ 62) (q : R (Itr 0 n.toNat) H) : ∃ j : Int, [V.int n] = [.int j] ∧ -(2 ^ 62) ≤ j ∧ j < 2 ^ 62 ∧ R (Itr 0 j.toNat) H := ⟨n, rfl, b.1, b.2, q⟩
theorem rd_ilist {R : It → Hp → Prop} (q : te σ H fun x H1 => ∃ a, x = .ref a ∧ (∃ xs, SqL K H1 a xs) ∧ R (Itl K a) H1) : iList K te σ H R := q
theorem rd_ilist' {a : Addr} {xs : List V} {R : Addr → Prop} (h : SqL K H a xs) (q : R a) : ∃ a', V.ref a = .ref a' ∧ (∃ xs, SqL K H a' xs) ∧ R a' := ⟨a, rfl, ⟨xs, h⟩, q⟩
theorem rd_itup {R : It → Hp → Prop} (q : te σ H fun x H1 => ∃ a, x = .ref a ∧ (∃ xs, SqT K H1 a xs) ∧ R (Itt K a) H1) : iTup K te σ H R := q
theorem rd_itup' {a : Addr} {xs : List V} {R : Addr → Prop} (h : SqT K H a xs) (q : R a) : ∃ a', V.ref a = .ref a' ∧ (∃ xs, SqT K H a' xs) ∧ R a' := ⟨a, rfl, ⟨xs, h⟩, q⟩
theorem rd_lc {wi : TI} {g : TG} {vs : List Nat} (q : wi σ H fun J H1 => ∀ D, H1 D = none → ∃ W : Nat → Nat → Hp → Prop, (∃ m, W 0 m (upd H1 D (.lst []))) ∧ ∀ i m H, W i m H →
  (J.stop i H ∧ Kt Q (.ref D) H) ∨ (J.go i H ∧ ∃ Nx : Hp → Prop, (∀ H', Nx H' → ∃ m', m' < m ∧ W (i + 1) m' H') ∧ ∀ x H', J.yld i H x H' → g x (wipe σ vs) H' fun σ2 H2 => wipe σ2 vs = wipe σ vs ∧ tt σ2 H2 fun b H3 =>
    if b = true then te σ2 H3 fun y H4 => ∃ acc, H4 D = some (.lst acc) ∧ acc.length < sizeLine ∧ Nx (upd H4 D (.lst (acc ++ [y]))) else Nx H3)) : tLc wi g tt te vs σ H Q := q
theorem rd_yes {R : Bool → Hp → Prop} (q : R true H) : tYes σ H R := q
theorem rd_bm {T : String} {r : V → List V → Hp → VK → Prop} (q : ta σ H fun x H1 => tyV K T x H1 ∧ es σ H1 fun xs H2 => r x xs H2 Q) : tBM K T r ta es σ H Q := q
theorem rd_ty {p : Addr} {xs : List V} {A : Prop} (h : H p = some (.lst xs)) (q : A) : tyV K "list" (.ref p) H ∧ A := ⟨.inl ⟨rfl, _, .inl (.inl h)⟩, q⟩
theorem rd_append {l : Addr} {xs : List V} {y : V} (h : H l = some (.lst xs)) (n : xs.length < 1000000) (q : Q .non (upd H l (.lst (xs ++ [y])))) : rAppend (.ref l) [y] H Q := ⟨l, xs, y, rfl, rfl, h, by rw [sizeLine_eq]; omega, q⟩
end
end Sw
namespace Sw
open PySem PySem.Spec PyProof.Rows L2 He
section
variable {σ : L2.St} {H : Hp} {t1 t2 : TS}
/-- what follows, by a name -/
theorem rd_seqN {nx bk ct : L2.St → Hp → Prop} {rt : VK} (q : ∀ N, N = t2 { nx := nx, rt := rt, bk := bk, ct := ct } → t1 { nx := N, rt := rt, bk := bk, ct := ct } σ H) : tSeq t1 t2 { nx := nx, rt := rt, bk := bk, ct := ct } σ H := q _ rfl
theorem rd_unN {N N' : L2.St → Hp → Prop} (h : N = N') (q : N' σ H) : N σ H := by rw [h]; exact q
end
end Sw
namespace Sw
open PySem PySem.Spec PyProof.Rows L2 He
theorem rd_ite1 {A B : Prop} (q : A) : if true = true then A else B := by rw [if_pos rfl]; exact q
theorem rd_ite0 {A B : Prop} (q : B) : if false = true then A else B := by rw [if_neg (by decide)]; exact q
theorem nth_ne {zs : List Str} (nd : zs.Nodup) {i j : Nat} {a b : Str} (h : i < j) (hi : zs[i]? = some a) (hj : zs[j]? = some b) : a ≠ b := fun e => by
  obtain ⟨hi', ei⟩ := List.getElem?_eq_some_iff.mp hi
  obtain ⟨hj', ej⟩ := List.getElem?_eq_some_iff.mp hj
  exact (List.pairwise_iff_getElem.mp nd i j hi' hj' h) (by rw [ei, ej, e])
theorem list10 {zs : List Str} (h : zs.length = 10) : ∃ a b c d e f g i j k, zs = [a, b, c, d, e, f, g, i, j, k] := by
  match zs, h with
  | [a, b, c, d, e, f, g, i, j, k], _ => exact ⟨_, _, _, _, _, _, _, _, _, _, rfl⟩
end Sw
namespace Sw
theorem rd_b62 {n : Int} {A : Prop} (h : -(2 ^ 62) ≤ n ∧ n < 2 ^ 62) (q : A) : -(2 ^ 62) ≤ n ∧ n < 2 ^ 62 ∧ A := ⟨h.1, h.2, q⟩
end Sw
namespace Sw
open PySem PySem.Spec PyProof.Rows L2 He
theorem rd_dput {σ : L2.St} {H : Hp} {td ty tv : TE} {nx bk ct : L2.St → Hp → Prop} {rt : VK} (q : tv σ H fun v H1 => td σ H1 fun x H2 => ty σ H2 fun y H3 => ∃ a H4, x = .ref a ∧ DPut H3 a y v H4 ∧ nx σ H4) : sDPut td ty tv { nx := nx, rt := rt, bk := bk, ct := ct } σ H := q
end Sw
namespace Sw
theorem rd_iteN1 {A B : Prop} (q : B) : if (!true) = true then A else B := by rw [if_neg (by decide)]; exact q
theorem rd_iteN0 {A B : Prop} (q : A) : if (!false) = true then A else B := by rw [if_pos (by decide)]; exact q
end Sw
namespace Sw
open PySem PySem.Spec PyProof.Rows L2 He
theorem rd_methI {IsC : Addr → Prop} {m : Str} {sp : Sp} {E : XK} {ta : TE} {es : TA} {σ : L2.St} {H : Hp} {Q : VK} (q : ta σ H fun x H1 => ∃ a C dx fs, x = .ref a ∧ IsC C ∧ H1 a = some (.ins C dx fs) ∧ fs.lookup m = none ∧ es σ H1 fun vs H2 => sp (.ref a :: vs) H2 Q E) : tMethI IsC m sp E ta es σ H Q := q
end Sw
namespace Sw
theorem rd_iteT {p : Prop} [Decidable p] {A B : Prop} (h : p) (q : A) : if decide p = true then A else B := by rw [if_pos (decide_eq_true h)]; exact q
theorem rd_iteF {p : Prop} [Decidable p] {A B : Prop} (h : ¬ p) (q : B) : if decide p = true then A else B := by rw [if_neg (by rw [decide_eq_false h]; decide)]; exact q
theorem rd_iteNT {p : Prop} [Decidable p] {A B : Prop} (h : p) (q : B) : if (!decide p) = true then A else B := by rw [if_neg (by rw [decide_eq_true h]; decide)]; exact q
theorem rd_iteNF {p : Prop} [Decidable p] {A B : Prop} (h : ¬ p) (q : A) : if (!decide p) = true then A else B := by rw [if_pos (by rw [decide_eq_false h]; rfl)]; exact q
end Sw
namespace Sw
open PySem PySem.Spec PyProof.Rows L2 He
theorem rd_lclist {K : PySem.W.Frag} {a : Addr} {xs : List V} {g : TG} {tt : TT} {te : TE} {vs : List Nat} {σ : L2.St} {H1 : Hp} {Q : VK} (Pv : Addr → Nat → Hp → Prop) (h : ∀ D, H1 D = none → Pv D 0 (upd H1 D (.lst [])) ∧ (∀ i H, i ≤ xs.length → Pv D i H → SqL K H a xs) ∧
    (∀ i x H, xs[i]? = some x → Pv D i H → g x (wipe σ vs) H fun σ2 H2 => wipe σ2 vs = wipe σ vs ∧ tt σ2 H2 fun b H3 =>
      if b = true then te σ2 H3 fun y H4 => ∃ acc, H4 D = some (.lst acc) ∧ acc.length < sizeLine ∧ Pv D (i + 1) (upd H4 D (.lst (acc ++ [y]))) else Pv D (i + 1) H3) ∧ (∀ H, Pv D xs.length H → Q (.ref D) H)) :
    ∀ D, H1 D = none → ∃ W : Nat → Nat → Hp → Prop, (∃ m, W 0 m (upd H1 D (.lst []))) ∧ ∀ i m H, W i m H →
      ((Itl K a).stop i H ∧ Kt Q (.ref D) H) ∨ ((Itl K a).go i H ∧ ∃ Nx : Hp → Prop, (∀ H', Nx H' → ∃ m', m' < m ∧ W (i + 1) m' H') ∧ ∀ x H', (Itl K a).yld i H x H' → g x (wipe σ vs) H' fun σ2 H2 => wipe σ2 vs = wipe σ vs ∧ tt σ2 H2 fun b H3 =>
        if b = true then te σ2 H3 fun y H4 => ∃ acc, H4 D = some (.lst acc) ∧ acc.length < sizeLine ∧ Nx (upd H4 D (.lst (acc ++ [y]))) else Nx H3) := fun D hD =>
  lc_list (Pv D) (h D hD).1 (h D hD).2.1 (h D hD).2.2.1 (h D hD).2.2.2
end Sw
namespace Sw
open PySem PySem.Spec PyProof.Rows L2 He
theorem rd_range {lo : Int} {n : Nat} {g : TG} {tt : TT} {te : TE} {vs : List Nat} {σ : L2.St} {H1 : Hp} {Q : VK} (Pv : Addr → Nat → Hp → Prop) (h : ∀ D, H1 D = none → Pv D 0 (upd H1 D (.lst [])) ∧
    (∀ i H, i < n → Pv D i H → g (.int (lo + i)) (wipe σ vs) H fun σ2 H2 => wipe σ2 vs = wipe σ vs ∧ tt σ2 H2 fun b H3 =>
      if b = true then te σ2 H3 fun y H4 => ∃ acc, H4 D = some (.lst acc) ∧ acc.length < sizeLine ∧ Pv D (i + 1) (upd H4 D (.lst (acc ++ [y]))) else Pv D (i + 1) H3) ∧ (∀ H, Pv D n H → Q (.ref D) H)) :
    ∀ D, H1 D = none → ∃ W : Nat → Nat → Hp → Prop, (∃ m, W 0 m (upd H1 D (.lst []))) ∧ ∀ i m H, W i m H →
      ((Itr lo n).stop i H ∧ Kt Q (.ref D) H) ∨ ((Itr lo n).go i H ∧ ∃ Nx : Hp → Prop, (∀ H', Nx H' → ∃ m', m' < m ∧ W (i + 1) m' H') ∧ ∀ x H', (Itr lo n).yld i H x H' → g x (wipe σ vs) H' fun σ2 H2 => wipe σ2 vs = wipe σ vs ∧ tt σ2 H2 fun b H3 =>
        if b = true then te σ2 H3 fun y H4 => ∃ acc, H4 D = some (.lst acc) ∧ acc.length < sizeLine ∧ Nx (upd H4 D (.lst (acc ++ [y]))) else Nx H3) := fun D hD =>
  lc_range (Pv D) (h D hD).1 (h D hD).2.1 (h D hD).2.2
end Sw
namespace Sw
open PySem PySem.Spec PyProof.Rows L2 He
theorem rd_lenQ {K : PySem.W.Frag} {H : Hp} {Q : VK} {p : Addr} {xs : List V} (h : SqL K H p xs ∨ SqT K H p xs) (q : Q (.int xs.length) H) : ∃ p' ys, [V.ref p] = [V.ref p'] ∧ (SqL K H p' ys ∨ SqT K H p' ys) ∧ Q (.int ys.length) H := ⟨p, xs, rfl, h, q⟩
end Sw
namespace Sw
open PySem PySem.Spec PyProof.Rows L2 He
/-! calls of built-ins by named readings -/
def rLenK (K : PySem.W.Frag) : List V → Hp → VK → Prop := fun xs H Q => ∃ p ys, xs = [.ref p] ∧ (SqL K H p ys ∨ SqT K H p ys) ∧ Q (.int ys.length) H
theorem call_lenK {X : Cx} : CallR X (.builtin "len") (rLenK X.K) := call_len_seq
theorem rd_lenK {K : PySem.W.Frag} {H : Hp} {Q : VK} {p : Addr} {xs : List V} (h : SqL K H p xs ∨ SqT K H p xs) (q : Q (.int xs.length) H) : rLenK K [.ref p] H Q := ⟨p, xs, rfl, h, q⟩
def rDictK : List V → Hp → VK → Prop := fun xs H Q => ∃ (a : Addr) (kvs : List (Key × V)), xs = [.ref a] ∧ Rd H a (.dK kvs) ∧ ∀ p, H p = none → Kt Q (.ref p) (upd H p (.dK kvs))
theorem call_dictK {X : Cx} : CallR X (.type "dict") rDictK := call_dictD
theorem rd_dictK {H : Hp} {Q : VK} {a : Addr} {kvs : List (Key × V)} (h : H a = some (.dK kvs)) (q : ∀ p, H p = none → Kt Q (.ref p) (upd H p (.dK kvs))) : rDictK [.ref a] H Q := ⟨a, kvs, rfl, .inl h, q⟩
theorem rd_cut {t u : TS} {nx bk ct : L2.St → Hp → Prop} {rt : VK} {σ : L2.St} {H : Hp} (Mid : L2.St → Hp → Prop) (h : t { nx := Mid, rt := rt, bk := bk, ct := ct } σ H) (q : ∀ σ' H', Mid σ' H' → u { nx := nx, rt := rt, bk := bk, ct := ct } σ' H') : C8.tCut t u { nx := nx, rt := rt, bk := bk, ct := ct } σ H := ⟨Mid, h, q⟩
end Sw
set_option Elab.async false
set_option linter.all false
set_option maxRecDepth 100000
set_option maxHeartbeats 2000000
namespace Sw
open PySem PySem.Spec PyProof.Rows L2 He
/-! ### a def called with a star -/
def tCallS (K : PySem.W.Frag) (sp : Sp) (E : XK) (te : TE) : TE := fun σ H Q => te σ H fun y H1 => ∃ a xs, y = V.ref a ∧ (SqT K H1 a xs ∨ SqL K H1 a xs) ∧ sp (xs ++ []) H1 Q E
theorem pe_callSC {X : Cx} {CX : CXT} {k : Nat} {f : Addr} {ps : List Str} {sp : Sp} {E : XK} {x : Str} {p sp_ pos : Pos} {e : Expr} {te : TE} (F : Cal X.prog X.w X.K X.mg X.base CX k f ps sp) (hr : Room k X.A) (hg : Gl X x) (hm : X.mg x = some (.ref f)) (hx : Passes CX X E)
    (ha : PE X e te) (hdb : (x == ("__debug__" : Str)) = false := by decide) (he : starEach [.Starred e sp_] X.env = [(true, eval e X.env)] := by rfl) :
    PE X (.Call (.Name x p) [.Starred e sp_] [] pos) (tCallS X.K sp E te) := by
  obtain ⟨fd, F, hk, hb⟩ := F
  exact StX.pe_callS1 (F.raw hb .nil) hr hk hg hm hx ha hdb he
/-- int(x) of an int or a bool -/
abbrev rInt1 : List V → Hp → VK → Prop := fun xs H Q => (∃ i, xs = [.int i] ∧ Q (.int i) H) ∨ ∃ k, xs = [.bl k] ∧ Q (.int (if k then 1 else 0)) H
theorem rd_dgetS {a : Addr} {kvs : List (Key × V)} {z : Str} {v : V} {H : Hp} {Q : VK} (e : H a = some (.dK kvs)) (hv : valV kvs (.inr z) = some v) (q : Q v H) : ∃ a' v', V.ref a = .ref a' ∧ DGet H a' (.str z) (some v') ∧ Q v' H :=
  ⟨a, v, rfl, by rw [← hv]; exact .inl ⟨kvs, .inr z, .inl e, rfl, rfl⟩, q⟩
theorem rd_1B {k : Bool} {R : Bool → Prop} {A : Prop} (q : R k) : A ∨ ∃ k', [V.bl k] = [V.bl k'] ∧ R k' := .inr ⟨k, rfl, q⟩
end Sw
set_option Elab.async false
set_option linter.all false
set_option maxRecDepth 100000
set_option maxHeartbeats 4000000
namespace Sw
open PySem PySem.Spec PyProof.Rows L2 L2H
/-- behind C(v) of such an error class: its dict, all else as it was -/
theorem err_made {K : PySem.W.Frag} {C : Addr} {v : V} {H : Hp} {W : XK} {E : XK} (T : ErrC K C) (k : ∀ H' d, Same H H' → H d = none → H' d = some (.xd [("value", v)]) → W (.ref C) (some d) H') :
    ∀ a, H a = none → spEInit K [.ref a, v] (upd H a (exo a C none)) (fun r H2 => r = .non ∧ ∃ (d : Addr) (fs : List (Str × V)), H2 a = some (exo a C (some d)) ∧ H2 d = some (exd d fs) ∧ H d = none ∧ W (.ref C) (some d) (upd (del H2 a) d (.xd fs))) E := by
  intro a ha
  refine ⟨a, C, v, rfl, upd_same, T, fun dx h1 h2 => ⟨rfl, dx, _, upd_same, by rw [upd_ne h2, upd_same], by rw [upd_ne h2] at h1; exact h1, ?_⟩⟩
  rw [upd_ne h2] at h1
  refine k _ dx (fun b o e => ?_) h1 upd_same
  rw [upd_ne (ne_of_none e h1), del_ne (ne_of_none e ha), upd_ne (ne_of_none e ha), upd_ne (ne_of_none e h1), upd_ne (ne_of_none e ha)]
  exact e
/-- e.f of the exception that is handled, its class being told by the reading -/
def tXfE (K : PySem.W.Frag) (a : Addr) (cls : Value) (d : Option Addr) (f : Str) (te : TE) : TE := fun σ H Q => te σ H fun x H1 => x = .ref a ∧ ∃ (C dd : Addr) (fs : List (Str × V)) (v : V), cls = .ref C ∧ XfC K C ∧ PySem.W.findIn K (.ref C) f = some none ∧ d = some dd ∧ H1 dd = some (.xd fs) ∧ fs.lookup f = some v ∧ Q v H1
theorem pe_xfE {X : Cx} {a : Addr} {oe : Obj} {cls : Value} {d : Option Addr} {pn : List (Addr × Obj)} {e : Expr} {te : TE} {pos : Pos} {n : Str}
    (hz : Zc cls d oe) (hf : ∃ vs, oe.data = .fields vs) (he : PE (X.suite a ((a, oe) :: pn)) e te) (hb : attributeBase e n X.env (eval e X.env) = eval e X.env := by rfl) :
    PE (X.suite a ((a, oe) :: pn)) (.Attribute e n pos) (tXfE X.K a cls d n te) := by
  refine ⟨fun pins s σ H Q I h => ?_⟩
  refine attr_of hb (thn (he.run pins s σ H _ I h) fun u s1 hh => ?_)
  obtain ⟨x, H1, I1, rx, ex, C, dd, fs, v, ec, T, hno, ed, ea, l, q⟩ := hh
  subst ex
  obtain rfl : u = Value.ref a := rx
  subst ec
  subst ed
  obtain ⟨ha, _⟩ := I1.pin (a, oe) (List.mem_append_left _ List.mem_cons_self)
  obtain ⟨vs, hd⟩ := hf
  have hx : ObjOk X.prog X.w H1 s1.heap dd (.xd fs) := I1.hok dd _ ea
  obtain ⟨mA, hns, hr⟩ := hx
  obtain ⟨od, ho, hl⟩ := lookIn_ns hns
  obtain ⟨u, hu, ru⟩ := RelO.some_of (v := v) (o := mA n) (by rw [← l]; exact hr n)
  have J : PySem.W.InstAt s1.heap a oe C (some od) := ⟨ha, hz.1, by unfold PySem.W.notCls; rw [hd] <;> rfl, by rw [hz.2]; exact ho⟩
  exact HandSPX.exc_get I1.kIn J T.ga T.gg T.exC (PySem.W.findObj_own T.hdC hno rfl (by rw [hl, hu])) (handed_of ru) ⟨v, H1, I1.tok _, ru, q⟩
/-- two promises of one def -/
theorem fnok_or {P : Program} {w : World} {K : PySem.W.Frag} {mg : Str → Option Value} {base : Heap} {CX : CXT} {k : Nat} {f : Addr} {fd : FuncData} {ps : List Str} {sp sp' : Sp} (F : FnOk P w K mg base CX k f fd ps sp) (F' : FnOk P w K mg base CX k f fd ps sp') :
    FnOk P w K mg base CX k f fd ps (fun vs H Q E => sp vs H Q E ∨ sp' vs H Q E) :=
  ⟨fun vs H Q E h => h.elim (F.len vs H Q E) (F'.len vs H Q E), fun A outer s H args us vs Q E hr he hb hv h => h.elim (F.run A outer s H args us vs Q E hr he hb hv) (F'.run A outer s H args us vs Q E hr he hb hv)⟩
/-! ### == of a thing with itself, an own __eq__ -/
def DSame : Eqv := fun x y _ => x = y ∧ (flatV x = true ∨ ∃ a, x = .ref a)
theorem mon_same : Mon DSame := fun _ _ _ _ _ d => d
theorem eqV_self {x : V} (h : flatV x = true) : eqV x x = true := by
  cases x <;> first | rfl | (exact decide_eq_true rfl) | (cases h)
theorem eqG_same {X : Cx} : EqG X 0 DSame := by
  intro A pins s σ H x y u v sb I rx ry d
  obtain ⟨rfl, f | ⟨a, rfl⟩⟩ := d
  · exact eqG_flat A pins s σ H x x u v sb I rx ry ⟨f, f, eqV_self f⟩
  · cases rx
    cases ry
    exact SeqAt.EqAt.same (A := A) (s := s) (.ref a) X.prog X.w X.xe _ ⟨rfl, H, I, Ext.rfl'⟩
theorem prs_same {xs : List V} {H : Hp} (h : ∀ x ∈ xs, flatV x = true ∨ ∃ a, x = .ref a) : Prs DSame xs xs H := ⟨rfl, fun i x y h1 h2 => by
  rw [h1] at h2
  injection h2 with h2
  exact ⟨h2, h x (List.mem_of_getElem? h1)⟩⟩
theorem rd_dnewK {σ : L2.St} {H : Hp} {Q : VK} (q : ∀ p, H p = none → Kt Q (.ref p) (upd H p (.dK []))) : tDNewK σ H Q := q
section
variable {σ : L2.St} {H : Hp} {Q : VK} {td ty tx : TE}
theorem rd_dget2 (q : td σ H fun x H1 => ∃ a, x = .ref a ∧ IsD H1 a ∧ ty σ H1 fun y H2 => tx σ H2 fun z H3 => ∃ o, DGet H3 a y o ∧ Q (o.getD z) H3) : tDGet2 td ty tx σ H Q := q
theorem rd_isd {a : Addr} {kvs : List (Key × V)} {R : Addr → Prop} (h : H a = some (.dK kvs)) (q : R a) : ∃ a', V.ref a = .ref a' ∧ IsD H a' ∧ R a' := ⟨a, rfl, .inl ⟨_, .inl h⟩, q⟩
theorem rd_dgo {a : Addr} {kvs : List (Key × V)} {z : Str} {d : V} (h : H a = some (.dK kvs)) (q : Q ((valV kvs (.inr z)).getD d) H) : ∃ o, DGet H a (.str z) o ∧ Q (o.getD d) H := ⟨_, .inl ⟨_, .inr z, .inl h, rfl, rfl⟩, q⟩
theorem rd_din (q : ty σ H fun y H1 => td σ H1 fun x H2 => ∃ a o, x = .ref a ∧ DGet H2 a y o ∧ Q (.bl o.isSome) H2) : tDIn ty td σ H Q := q
theorem rd_dino {a : Addr} {kvs : List (Key × V)} {z : Str} {R : Bool → Prop} (h : H a = some (.dK kvs)) (q : R (valV kvs (.inr z)).isSome) : ∃ a' o, V.ref a = .ref a' ∧ DGet H a' (.str z) o ∧ R o.isSome := ⟨a, _, rfl, .inl ⟨_, .inr z, .inl h, rfl, rfl⟩, q⟩
theorem rd_dpop1 (q : td σ H fun x H1 => ∃ a, x = .ref a ∧ IsD H1 a ∧ ty σ H1 fun y H2 => ∃ kvs k v, H2 a = some (.dK kvs) ∧ y = kV k ∧ valV kvs k = some v ∧ Q v (upd H2 a (.dK (dropK kvs k)))) : tDPop1 td ty σ H Q := q
end
end Sw
set_option Elab.async false
set_option linter.all false
set_option maxRecDepth 100000
set_option maxHeartbeats 8000000
namespace KW
open PySem PySem.Spec PyProof.Rows L2 He Sw L2H
section
variable {P : Program} {w : World} {K : PySem.W.Frag} {mg : Str → Option Value} {base : Heap}
/-! ### the errors -/
theorem scSE : FnScope ["self", "value"] ["self", "value"] (defScope s_SameError___init__) := ⟨rfl, rfl, rfl, by decide +kernel, rfl, by decide +kernel, by decide +kernel⟩
theorem ok_SE {fd : FuncData} (T : Txt K mg) (F : FnM K "SameError" "SameError.__init__" s_SameError___init__ [.non] fd) : FnOk P w K mg base CX0 1 (ma K (ga K "SameError") "__init__") fd ["self", "value"] (spEInit K) := by
  refine F.ok scSE spEInit_len (fun cdv A outer s H vs Q E hr h => ?_)
  obtain ⟨a, C, v, rfl, ha, TC, k⟩ := h
  refine ⟨_, pss_cons (ps_expr (pe_veinit rfl (T.f "ValueError") T.veI (pa_cons (pv 0) (pa_cons (pe_exn (pv 0)) pa_nil)))) (pss_one (ps_ost (pv 0) (pv 1))), ?_⟩
  obtain ⟨z, hz⟩ := TC.n
  refine ⟨_, rfl, _, rfl, a, C, z, rfl, ha, TC.e, hz, a, C, _, rfl, (by show 1 ≤ 1000; decide), TC.o, ha, ?_⟩
  exact ⟨_, rfl, _, rfl, a, C, rfl, TC.o, TC.nv, .inl ⟨ha, fun dx h1 h2 => k dx h1 h2⟩⟩
theorem binds_SE {fd : FuncData} (F : FnM K "SameError" "SameError.__init__" s_SameError___init__ [.non] fd) : Binds K fd ["self", "value"] [] := by
  obtain ⟨ds, hv, hb⟩ := F.binds1 (ps := ["self", "value"]) 2 1 (by simp) rfl (fun _ _ _ _ _ _ _ us its hu hi => match us, hu, its, hi with | [_, _], _, [_], _ => ⟨_, rfl, rfl⟩)
  cases hv
  exact hb
theorem f_SE (T : Txt K mg) : ∃ fd, FnM K "SameError" "SameError.__init__" s_SameError___init__ [.non] fd := T.dd 0 _ rfl
theorem c_SE (T : Txt K mg) : Cal P w K mg base CX0 1 (ma K (ga K "SameError") "__init__") ["self", "value"] (spEInit K) := by
  obtain ⟨fd, F⟩ := f_SE T
  exact ⟨fd, ok_SE T F, F.kp, binds_SE F⟩
theorem sc_BadWidth___init__ : FnScope ["self", "value"] ["self", "value"] (defScope s_BadWidth___init__) := ⟨rfl, rfl, rfl, by decide +kernel, rfl, by decide +kernel, by decide +kernel⟩
theorem ok_BadWidth___init__ (T : Txt K mg) : Cal P w K mg base CX0 2 (ma K (ga K "BadWidth") "__init__") ["self", "value"] (spEInit K) := by
  obtain ⟨fd, F⟩ := T.f_BadWidth___init__
  refine ⟨fd, ?_, F.kp, F.bindsN fun _ _ _ _ _ _ us hl => match us, hl with | [_, _], _ => rfl⟩
  refine F.ok sc_BadWidth___init__ spEInit_len (fun cdv A outer s H vs Q E hr h => ?_)
  obtain ⟨a, C, v, rfl, ha, TC, k⟩ := h
  refine ⟨_, pss_one (ps_expr (pe_clfnC (x := "SameError") (c_SE T) T.seI (hr.mono (by omega)) rfl (T.g "SameError") pass0 (pa_cons (pv 0) (pa_cons (pv 1) pa_nil)))), ?_⟩
  exact ⟨_, rfl, _, rfl, a, C, v, rfl, ha, TC, k⟩
theorem sc_BadFormula___init__ : FnScope ["self", "value"] ["self", "value"] (defScope s_BadFormula___init__) := ⟨rfl, rfl, rfl, by decide +kernel, rfl, by decide +kernel, by decide +kernel⟩
theorem ok_BadFormula___init__ (T : Txt K mg) : Cal P w K mg base CX0 2 (ma K (ga K "BadFormula") "__init__") ["self", "value"] (spEInit K) := by
  obtain ⟨fd, F⟩ := T.f_BadFormula___init__
  refine ⟨fd, ?_, F.kp, F.bindsN fun _ _ _ _ _ _ us hl => match us, hl with | [_, _], _ => rfl⟩
  refine F.ok sc_BadFormula___init__ spEInit_len (fun cdv A outer s H vs Q E hr h => ?_)
  obtain ⟨a, C, v, rfl, ha, TC, k⟩ := h
  refine ⟨_, pss_one (ps_expr (pe_clfnC (x := "SameError") (c_SE T) T.seI (hr.mono (by omega)) rfl (T.g "SameError") pass0 (pa_cons (pv 0) (pa_cons (pv 1) pa_nil)))), ?_⟩
  exact ⟨_, rfl, _, rfl, a, C, v, rfl, ha, TC, k⟩
theorem sc_BadValue___init__ : FnScope ["self", "value"] ["self", "value"] (defScope s_BadValue___init__) := ⟨rfl, rfl, rfl, by decide +kernel, rfl, by decide +kernel, by decide +kernel⟩
theorem ok_BadValue___init__ (T : Txt K mg) : Cal P w K mg base CX0 2 (ma K (ga K "BadValue") "__init__") ["self", "value"] (spEInit K) := by
  obtain ⟨fd, F⟩ := T.f_BadValue___init__
  refine ⟨fd, ?_, F.kp, F.bindsN fun _ _ _ _ _ _ us hl => match us, hl with | [_, _], _ => rfl⟩
  refine F.ok sc_BadValue___init__ spEInit_len (fun cdv A outer s H vs Q E hr h => ?_)
  obtain ⟨a, C, v, rfl, ha, TC, k⟩ := h
  refine ⟨_, pss_one (ps_expr (pe_clfnC (x := "SameError") (c_SE T) T.seI (hr.mono (by omega)) rfl (T.g "SameError") pass0 (pa_cons (pv 0) (pa_cons (pv 1) pa_nil)))), ?_⟩
  exact ⟨_, rfl, _, rfl, a, C, v, rfl, ha, TC, k⟩
def words : List Str := ["name", "width", "number", "bound", "formula", "value", "many", "long"]
def spClass (K : PySem.W.Frag) : Addr × Obj → Sp := fun p vs H Q _ => ∃ (D d : Addr) (fs : List (Str × V)) (idx : Nat) (wd : Str), vs = [.ref p.1] ∧ Zc (.ref D) (some d) p.2 ∧ (∃ ws, p.2.data = .fields ws) ∧ ExcC K D ∧ H d = some (.xd fs) ∧
  (∀ j y, kinds[j]? = some y → PySem.W.kitOne K (.ref D) (.ref (ga K y)) = some (decide (j = idx))) ∧ PySem.W.kitOne K (.ref D) (.type "ValueError") = some true ∧ words[idx]? = some wd ∧ ∀ H', Same H H' → Q (.str wd) H'
theorem scClass : FnScope ["_law_e", "_law_kinds", "_law_words", "_law_found", "_law_k"] ["_law_e"] (defScope s__law_class) := ⟨rfl, rfl, rfl, by decide +kernel, rfl, by decide +kernel, by decide +kernel⟩
theorem ok_class {fd : FuncData} (T : Txt K mg) (F : FnG K "_law_class" s__law_class fd) : FnE P w K mg base CX0 1 (ga K "_law_class") fd ["_law_e"] (spClass K) := by
  obtain ⟨oc, od, dV, kV, doc, pm, an, cdv, ct, osl, rfl, lk, hcd, _, _⟩ := F.ex
  refine fn_ofE lk hcd scClass (fun p vs H Q E h => ?_) (fun p A outer s H vs Q E hot hr h => ?_)
  · obtain ⟨D, d, fs, idx, wd, rfl, _⟩ := h
    rfl
  obtain ⟨D, d, fs, idx, wd, rfl, hz, hf, TD, hd, hk, hv, hw, k⟩ := h
  have nd := scClass.nd
  have hc : HotC (cxH CX0 P w K mg base ["_law_e", "_law_kinds", "_law_words", "_law_found", "_law_k"] "_law_class" (defScope s__law_class) (ga K "_law_class") cdv A outer s H E p).nox := ⟨p, ⟨hot.1, hot.2⟩, List.mem_cons_self⟩
  have hp : p ∈ (cxH CX0 P w K mg base ["_law_e", "_law_kinds", "_law_words", "_law_found", "_law_k"] "_law_class" (defScope s__law_class) (ga K "_law_class") cdv A outer s H E p).nox.pn := List.mem_cons_self
  refine ⟨_, PSs.nox (pss_cons (ps_set (i := 1) nd rfl (Or.inr rfl) (pe_lst (pa_cons (pe_callB (call_isX TD hp hz hf) rfl (T.f "isinstance") (by decide +kernel) (pa_cons (pv 0) (pa_cons (pe_glob (v := .ref (ga K "BadName")) rfl (T.g "BadName") rfl) pa_nil)))
      (pa_cons (pe_callB (call_isX TD hp hz hf) rfl (T.f "isinstance") (by decide +kernel) (pa_cons (pv 0) (pa_cons (pe_glob (v := .ref (ga K "BadWidth")) rfl (T.g "BadWidth") rfl) pa_nil)))
      (pa_cons (pe_callB (call_isX TD hp hz hf) rfl (T.f "isinstance") (by decide +kernel) (pa_cons (pv 0) (pa_cons (pe_glob (v := .ref (ga K "BadNumber")) rfl (T.g "BadNumber") rfl) pa_nil)))
      (pa_cons (pe_callB (call_isX TD hp hz hf) rfl (T.f "isinstance") (by decide +kernel) (pa_cons (pv 0) (pa_cons (pe_glob (v := .ref (ga K "BadBound")) rfl (T.g "BadBound") rfl) pa_nil))) pa_nil))))))
    (pss_cons (ps_set (i := 1) nd rfl (Or.inr rfl) (pe_op op_cat (pv 1) (pe_lst (pa_cons (pe_callB (call_isX TD hp hz hf) rfl (T.f "isinstance") (by decide +kernel) (pa_cons (pv 0) (pa_cons (pe_glob (v := .ref (ga K "BadFormula")) rfl (T.g "BadFormula") rfl) pa_nil)))
      (pa_cons (pe_callB (call_isX TD hp hz hf) rfl (T.f "isinstance") (by decide +kernel) (pa_cons (pv 0) (pa_cons (pe_glob (v := .ref (ga K "BadValue")) rfl (T.g "BadValue") rfl) pa_nil)))
      (pa_cons (pe_callB (call_isX TD hp hz hf) rfl (T.f "isinstance") (by decide +kernel) (pa_cons (pv 0) (pa_cons (pe_glob (v := .ref (ga K "TooMany")) rfl (T.g "TooMany") rfl) pa_nil)))
      (pa_cons (pe_callB (call_isX TD hp hz hf) rfl (T.f "isinstance") (by decide +kernel) (pa_cons (pv 0) (pa_cons (pe_glob (v := .ref (ga K "TooLong")) rfl (T.g "TooLong") rfl) pa_nil))) pa_nil)))))))
    (pss_cons (ps_set (i := 2) nd rfl (Or.inr rfl) (pe_lst (pa_cons pe_str (pa_cons pe_str (pa_cons pe_str (pa_cons pe_str (pa_cons pe_str (pa_cons pe_str (pa_cons pe_str (pa_cons pe_str pa_nil))))))))))
    (pss_cons (ps_setLcH (i := 3) (own := [("_law_k", 4)]) (n := 8) (lo := 0) (g := gName 4) (tt := tTest (tOp (rIxL K) (tVar 1) (tVar 4))) (te := tOp (rIxL K) (tVar 2) (tVar 4)) hc nd rfl rfl (sw_true rfl rfl rfl (by decide +kernel)) (pi_range1H rfl (T.f "range") (pa_cons pe_int pa_nil))
        (fun σ H R q => ⟨8, rfl, by decide, by decide, q⟩) (blkOk_by (N := ["_law_e", "_law_kinds", "_law_words", "_law_found", "_law_k"]) (sc := defScope s__law_class) (by decide +kernel)) (fun _ _ _ _ _ => pg_name (i := 4) nd rfl (Or.inl rfl))
        (fun _ _ _ _ _ => pts_one (pt_val (pe_ix ix_list (pv 1) (pv 4) (fun _ _ => rfl)))) (fun _ _ _ _ _ => pe_ix ix_list (pv 2) (pv 4) (fun _ _ => rfl)))
    (pss_cons (ps_if (PW.pt (pw_or (pt_cmpR op_ne (pe_callB call_len_seq rfl (T.f "len") (by decide +kernel) (pa_cons (pv 3) pa_nil)) pe_int (nomark _))
      (pw_or1 (pt_not (pt_val (pe_callB (call_isX TD hp hz hf) rfl (T.f "isinstance") (by decide +kernel) (pa_cons (pv 0) (pa_cons (pe_bltn (v := .ty "ValueError") rfl (T.f "ValueError") (by decide +kernel) rfl) pa_nil))))))))
      (pss_one (ps_ret pe_str)) pss_nil)
    (pss_one (ps_ret (pe_ix ix_list (pv 3) pe_int (fun _ _ => rfl))))))))), ?_⟩
  have idx8 : idx < 8 := (List.getElem?_eq_some_iff.mp hw).1
  have HS : ∀ {H' : Hp}, Same H H' → H' d = some (.xd fs) := fun s' => s' _ _ hd
  -- the first kinds
  refine ⟨_, rfl, V.ref (ga K "BadName"), .ref (ga K "BadName"), _, fs, rfl, fun _ h => h, hk 0 "BadName" rfl, hd, ?_⟩
  refine ⟨_, rfl, V.ref (ga K "BadWidth"), .ref (ga K "BadWidth"), _, fs, rfl, fun _ h => h, hk 1 "BadWidth" rfl, hd, ?_⟩
  refine ⟨_, rfl, V.ref (ga K "BadNumber"), .ref (ga K "BadNumber"), _, fs, rfl, fun _ h => h, hk 2 "BadNumber" rfl, hd, ?_⟩
  refine ⟨_, rfl, V.ref (ga K "BadBound"), .ref (ga K "BadBound"), _, fs, rfl, fun _ h => h, hk 3 "BadBound" rfl, hd, ?_⟩
  refine ⟨by show 4 ≤ sizeLine; rw [sizeLine_eq]; decide, fun A1 f1 => ?_⟩
  generalize hX1 : upd H A1 _ = H1
  have s1 : Same H H1 := fun b o e => by rw [← hX1, upd_ne (ne_of_none e f1)]; exact e
  have e1 : H1 A1 = some (.lst [.bl (decide (0 = idx)), .bl (decide (1 = idx)), .bl (decide (2 = idx)), .bl (decide (3 = idx))]) := by rw [← hX1, upd_same]
  clear hX1
  -- the others
  refine ⟨_, rfl, ?_⟩
  refine ⟨_, rfl, V.ref (ga K "BadFormula"), .ref (ga K "BadFormula"), _, fs, rfl, fun _ h => h, hk 4 "BadFormula" rfl, HS s1, ?_⟩
  refine ⟨_, rfl, V.ref (ga K "BadValue"), .ref (ga K "BadValue"), _, fs, rfl, fun _ h => h, hk 5 "BadValue" rfl, HS s1, ?_⟩
  refine ⟨_, rfl, V.ref (ga K "TooMany"), .ref (ga K "TooMany"), _, fs, rfl, fun _ h => h, hk 6 "TooMany" rfl, HS s1, ?_⟩
  refine ⟨_, rfl, V.ref (ga K "TooLong"), .ref (ga K "TooLong"), _, fs, rfl, fun _ h => h, hk 7 "TooLong" rfl, HS s1, ?_⟩
  refine ⟨by show 4 ≤ sizeLine; rw [sizeLine_eq]; decide, fun A2 f2 => ?_⟩
  generalize hX2 : upd H1 A2 _ = H2
  have s2 : Same H1 H2 := fun b o e => by rw [← hX2, upd_ne (ne_of_none e f2)]; exact e
  have e2 : H2 A2 = some (.lst [.bl (decide (4 = idx)), .bl (decide (5 = idx)), .bl (decide (6 = idx)), .bl (decide (7 = idx))]) := by rw [← hX2, upd_same]
  clear hX2
  refine ⟨A1, A2, _, _, rfl, rfl, s2 _ _ e1, e2, by show 8 ≤ sizeLine; rw [sizeLine_eq]; decide, fun A3 f3 => ?_⟩
  generalize hX3 : upd H2 A3 _ = H3
  have s3 : Same H2 H3 := fun b o e => by rw [← hX3, upd_ne (ne_of_none e f3)]; exact e
  have e3 : H3 A3 = some (.lst [.bl (decide (0 = idx)), .bl (decide (1 = idx)), .bl (decide (2 = idx)), .bl (decide (3 = idx)), .bl (decide (4 = idx)), .bl (decide (5 = idx)), .bl (decide (6 = idx)), .bl (decide (7 = idx))]) := by rw [← hX3, upd_same]; rfl
  clear hX3
  refine ⟨by show 8 ≤ sizeLine; rw [sizeLine_eq]; decide, fun A4 f4 => ?_⟩
  generalize hX4 : upd H3 A4 _ = H4
  have s4 : Same H3 H4 := fun b o e => by rw [← hX4, upd_ne (ne_of_none e f4)]; exact e
  have e4 : H4 A4 = some (.lst (words.map V.str)) := by rw [← hX4, upd_same]; rfl
  clear hX4
  have e3' := s4 _ _ e3
  have s04 : Same H H4 := ((s1.trans s2).trans s3).trans s4
  clear e1 e2 e3 f1 f2 f3 f4
  have hat : ∀ i, i < 8 → atI [V.bl (decide (0 = idx)), .bl (decide (1 = idx)), .bl (decide (2 = idx)), .bl (decide (3 = idx)), .bl (decide (4 = idx)), .bl (decide (5 = idx)), .bl (decide (6 = idx)), .bl (decide (7 = idx))] (0 + (i : Nat)) = some (.bl (decide (i = idx))) := fun i hi =>
    match i, hi with
    | 0, _ | 1, _ | 2, _ | 3, _ | 4, _ | 5, _ | 6, _ | 7, _ => rfl
    | n + 8, h => absurd h (by omega)
  have hwd : atI (words.map V.str) (0 + (idx : Nat)) = some (V.str wd) := by
    rw [Int.zero_add]
    exact atI_nat (by rw [List.getElem?_map, hw]; rfl)
  -- the word
  intro D5 f5
  have up5 : ∀ {H' : Hp} {o : HO}, Same H4 H' → Same H4 (upd H' D5 o) := fun {H' o} s' b o' e => by rw [upd_ne (ne_of_none e f5)]; exact s' _ _ e
  refine ⟨fun i H' => H' D5 = some (.lst (if i ≤ idx then [] else [.str wd])) ∧ Same H4 H', ⟨by rw [upd_same, if_pos (Nat.zero_le _)], up5 (Same.refl H4)⟩, fun i H' hi ⟨hD, sD⟩ => ?_, fun H5 ⟨hD, s5⟩ => ?_⟩
  · refine ⟨rfl, _, rfl, _, rfl, A3, _, _, _, rfl, rfl, SqL.of (sD _ _ e3'), hat i hi, _, rfl, ?_⟩
    refine ite2 (fun h => ?_) (fun h => ?_)
    · have e : i = idx := of_decide_eq_true h
      subst e
      refine ⟨_, rfl, _, rfl, A4, _, _, _, rfl, rfl, SqL.of (sD _ _ e4), hwd, [], ?_, ?_, ?_, up5 sD⟩
      · rw [hD, if_pos (Nat.le_refl _)]
      · show 0 < sizeLine
        rw [sizeLine_eq]
        decide
      · rw [upd_same, if_neg (by omega)]
        rfl
    · have ne : i ≠ idx := fun e => h (decide_eq_true e)
      refine ⟨?_, sD⟩
      rw [hD]
      by_cases c : i ≤ idx
      · rw [if_pos c, if_pos (by omega)]
      · rw [if_neg c, if_neg (by omega)]
  rw [if_neg (by omega)] at hD
  refine ⟨_, rfl, D5, _, rfl, .inl (SqL.of hD), rfl, _, rfl, ?_⟩
  refine ⟨_, rfl, V.ty "ValueError", .type "ValueError", _, fs, rfl, fun _ h => h, hv, HS (s04.trans s5), _, rfl, ?_⟩
  refine ⟨_, rfl, D5, _, _, _, rfl, rfl, SqL.of hD, rfl, k H5 (s04.trans s5)⟩
/-! ### _law_equal, of a thing with itself -/
def spEqual : Sp := fun vs H Q _ => ∃ (v : V) (n : String), vs = [v, v] ∧ Th H v n ∧ Q (.bl true) H
theorem scEqual : FnScope ["_law_one", "_law_other"] ["_law_one", "_law_other"] (defScope s__law_equal) := ⟨rfl, rfl, rfl, by decide +kernel, rfl, by decide +kernel, by decide +kernel⟩
/-- a thing is equal to itself -/
theorem Th.eq {H : Hp} {v : V} {n : String} {Q : VK} (t : Th H v n) (q : Q (.bl true) H) : (rEq v v H Q ∨ rEqV K v v H Q) ∨ rEqD K v v H Q := by
  cases t with
  | non => exact .inl (.inl ⟨rfl, by rw [decide_eq_true rfl]; exact q⟩)
  | bl b => exact .inl (.inl ⟨rfl, by rw [decide_eq_true rfl]; exact q⟩)
  | int i => exact .inl (.inl ⟨rfl, by rw [decide_eq_true rfl]; exact q⟩)
  | str z h => exact .inl (.inl ⟨rfl, by rw [decide_eq_true rfl]; exact q⟩)
  | tup a e => exact .inr ⟨_, _, .tup (SqT.of e) (.cons (.str _) .nil), .tup (SqT.of e) (.cons (.str _) .nil), by decide +kernel, by decide +kernel, by
      rw [show PyData.eqv (.tuple [.str "x"]) (.tuple [.str "x"]) = true by decide +kernel]
      exact q⟩
  | lst a e => exact .inl (.inr ⟨1, by decide, .inl ⟨a, a, _, _, rfl, rfl, SqL.of e, SqL.of e, .cons (.inl ⟨rfl, rfl⟩) .nil⟩, q⟩)
  | ls8 a e => exact .inl (.inr ⟨1, by decide, .inl ⟨a, a, _, _, rfl, rfl, SqL.of e, SqL.of e, .cons (.inl ⟨rfl, rfl⟩) .nil⟩, q⟩)
  | dct a e => exact .inl (.inr ⟨1, by decide, .inr ⟨a, a, _, _, rfl, rfl, e, e, rfl, fun p hp => by
      have ep : p = (.inr "x", .int 1) := by simpa using hp
      subst ep
      exact ⟨_, rfl, .inl ⟨rfl, rfl⟩⟩⟩, q⟩)
theorem ok_equal {fd : FuncData} (T : Txt K mg) (F : FnG K "_law_equal" s__law_equal fd) : FnOk P w K mg base CX0 1 (ga K "_law_equal") fd ["_law_one", "_law_other"] spEqual := by
  refine F.ok scEqual (fun vs H Q E h => ?_) (fun cdv A outer s H vs Q E hr h => ?_)
  · obtain ⟨v, n, rfl, _⟩ := h
    rfl
  obtain ⟨v, n, rfl, t, k⟩ := h
  refine ⟨_, PSs.nox (pss_cons (ps_if (PW.pt (pw_or (pt_val (pe_callB call_isi rfl (T.f "isinstance") (by decide +kernel) (pa_cons (pv 0) (pa_cons (pe_bltn (v := .ty "bool") rfl (T.f "bool") (by decide +kernel) rfl) pa_nil))))
      (pw_or1 (pt_val (pe_callB call_isi rfl (T.f "isinstance") (by decide +kernel) (pa_cons (pv 1) (pa_cons (pe_bltn (v := .ty "bool") rfl (T.f "bool") (by decide +kernel) rfl) pa_nil)))))))
      (pss_one (ps_ret (pe_and (pe_callB call_isi rfl (T.f "isinstance") (by decide +kernel) (pa_cons (pv 0) (pa_cons (pe_bltn (v := .ty "bool") rfl (T.f "bool") (by decide +kernel) rfl) pa_nil)))
        (pe_and (pe_callB call_isi rfl (T.f "isinstance") (by decide +kernel) (pa_cons (pv 1) (pa_cons (pe_bltn (v := .ty "bool") rfl (T.f "bool") (by decide +kernel) rfl) pa_nil)))
          (pe_one (pe_cmpR ((op_eq.or (op_eqV hr.units)).or (op_eqD hr.units)) (pv 0) (pv 1) (nomark _))))))) pss_nil)
    (pss_one (ps_ret (pe_cmpR ((op_eq.or (op_eqV hr.units)).or (op_eqD hr.units)) (pv 0) (pv 1) (nomark _))))), ?_⟩
  have fin : ∀ {Q' : VK}, Q' (.bl true) H → (rEq v v H Q' ∨ rEqV K v v H Q') ∨ rEqD K v v H Q' := fun q => t.eq q
  refine ⟨_, rfl, v, .ty "bool", .type n, .type "bool", _, rfl, .ty _, t.ty, t.kBool, _, rfl, ?_⟩
  refine ite2 (fun h => ?_) (fun h => ?_)
  · refine ite2 (fun _ => ?_) (fun h2 => absurd rfl h2)
    refine ⟨_, rfl, v, .ty "bool", .type n, .type "bool", _, rfl, .ty _, t.ty, t.kBool, _, rfl, ?_⟩
    refine ite2 (fun _ => ?_) (fun h2 => absurd h h2)
    refine ⟨_, rfl, v, .ty "bool", .type n, .type "bool", _, rfl, .ty _, t.ty, t.kBool, _, rfl, ?_⟩
    refine ite2 (fun _ => ?_) (fun h2 => absurd h h2)
    exact ⟨_, rfl, _, rfl, fin k⟩
  · refine ⟨_, rfl, v, .ty "bool", .type n, .type "bool", _, rfl, .ty _, t.ty, t.kBool, _, rfl, ?_⟩
    refine ite2 (fun h2 => absurd h2 h) (fun _ => ?_)
    exact ⟨_, rfl, _, rfl, fin k⟩

end
end KW
set_option Elab.async false
set_option linter.all false
set_option maxRecDepth 100000
set_option maxHeartbeats 8000000
namespace KW
open PySem PySem.Spec PyProof.Rows L2 He Sw L2H
section
variable {P : Program} {w : World} {K : PySem.W.Frag} {mg : Str → Option Value} {base : Heap}
theorem binds_SE1 {fd : FuncData} (F : FnM K "SameError" "SameError.__init__" s_SameError___init__ [.non] fd) : ∃ ds, Vals [V.non] ds ∧ Binds K fd ["self", "value"] ds :=
  F.binds1 (ps := ["self", "value"]) 1 0 (by simp) rfl (fun _ _ _ _ _ _ _ us its hu hi => match us, hu, its, hi with | [_], _, [_], _ => ⟨_, rfl, rfl⟩)
def spEInit0 (K : PySem.W.Frag) : Sp := fun vs H Q _ => ∃ (a C : Addr), vs = [.ref a] ∧ H a = some (exo a C none) ∧ ErrC K C ∧ ∀ dx, H dx = none → dx ≠ a → Q .non (upd (upd H dx (exd dx [("value", .non)])) a (exo a C (some dx)))
theorem sc_TooLong___init__ : FnScope ["self"] ["self"] (defScope s_TooLong___init__) := ⟨rfl, rfl, rfl, by decide +kernel, rfl, by decide +kernel, by decide +kernel⟩
theorem ok_TooLong___init__ (T : Txt K mg) : Cal P w K mg base CX0 2 (ma K (ga K "TooLong") "__init__") ["self"] (spEInit0 K) := by
  obtain ⟨fd, F⟩ := T.f_TooLong___init__
  obtain ⟨fdS, FS⟩ := f_SE T
  obtain ⟨ds, hv, hb⟩ := binds_SE1 FS
  refine ⟨fd, ?_, F.kp, F.bindsN fun _ _ _ _ _ _ us hl => match us, hl with | [_], _ => rfl⟩
  refine F.ok sc_TooLong___init__ (fun vs H Q E h => ?_) (fun cdv A outer s H vs Q E hr h => ?_)
  · obtain ⟨a, C, rfl, _⟩ := h
    rfl
  obtain ⟨a, C, rfl, ha, TC, k⟩ := h
  refine ⟨_, PSs.nox (pss_one (ps_expr (pe_clfn (x := "SameError") rfl (T.g "SameError") T.seI (ok_SE T FS) hr FS.kp hb hv pass0 (pa_cons (pv 0) pa_nil)))), ?_⟩
  exact ⟨_, rfl, a, C, .non, rfl, ha, TC, k⟩
theorem err_made0 {C : Addr} {H : Hp} {W : XK} {E : XK} (T : ErrC K C) (k : ∀ H' d, Same H H' → H d = none → H' d = some (.xd [("value", .non)]) → W (.ref C) (some d) H') :
    ∀ a, H a = none → spEInit0 K [.ref a] (upd H a (exo a C none)) (fun r H2 => r = .non ∧ ∃ (d : Addr) (fs : List (Str × V)), H2 a = some (exo a C (some d)) ∧ H2 d = some (exd d fs) ∧ H d = none ∧ W (.ref C) (some d) (upd (del H2 a) d (.xd fs))) E := by
  intro a ha
  refine ⟨a, C, rfl, upd_same, T, fun dx h1 h2 => ⟨rfl, dx, _, upd_same, by rw [upd_ne h2, upd_same], by rw [upd_ne h2] at h1; exact h1, ?_⟩⟩
  rw [upd_ne h2] at h1
  refine k _ dx (fun b o e => ?_) h1 upd_same
  rw [upd_ne (ne_of_none e h1), del_ne (ne_of_none e ha), upd_ne (ne_of_none e ha), upd_ne (ne_of_none e h1), upd_ne (ne_of_none e ha)]
  exact e
/-- C is raised with the value v -/
def RaisesC (K : PySem.W.Frag) (C : Str) (H : Hp) (v : V) (E : XK) : Prop := ∀ H' d, Same H H' → H d = none → H' d = some (.xd [("value", v)]) → E (.ref (ga K C)) (some d) H'
theorem RaisesC.same {C : Str} {H H' : Hp} {v : V} {E : XK} (h : RaisesC K C H v E) (s : Same H H') : RaisesC K C H' v E := fun H2 d s2 hd e => h H2 d (s.trans s2) (none_back s hd) e
theorem pe_alt {X : Cx} {e : Expr} {t t' : TE} (a : PE X e t) (b : PE X e t') : PE X e (fun σ H Q => t σ H Q ∨ t' σ H Q) := ⟨fun pins s σ H Q I h => h.elim (a.run pins s σ H Q I) (b.run pins s σ H Q I)⟩
/-! ### has_call -/
def Fo.hc : Fo → Bool
  | .num _ => false
  | .nam _ => false
  | .neg f => f.hc
  | .shl f _ => f.hc
  | .bin _ f g => f.hc || g.hc
  | .sum _ _ f => f.hc
  | .call _ _ => true
theorem Fo.NC.hc : ∀ {f : Fo}, f.NC → f.hc = false
  | .num _, _ => rfl
  | .nam _, _ => rfl
  | .neg f, h => by simp only [Fo.NC] at h; simp only [Fo.hc]; exact Fo.NC.hc h
  | .shl f _, h => by simp only [Fo.NC] at h; simp only [Fo.hc]; exact Fo.NC.hc h
  | .bin _ f g, h => by simp only [Fo.NC] at h; simp only [Fo.hc, Fo.NC.hc h.1, Fo.NC.hc h.2]; rfl
  | .sum _ _ f, h => by simp only [Fo.NC] at h; simp only [Fo.hc]; exact Fo.NC.hc h.2
  | .call _ _, h => h.no.elim
theorem Fo.kind_callC (f : Fo) : (∃ z fs, f = .call z fs) ∨ (decide (V.str f.kind = V.str "call") = false ∧ f.hc = (f.kids.map Fo.hc).any id ∧ f.kids.length ≤ 2) := by
  cases f with
  | num n => exact .inr ⟨show decide (V.str "number" = V.str "call") = false by decide +kernel, by simp [Fo.hc, Fo.kids], by simp [Fo.kids]⟩
  | nam z => exact .inr ⟨show decide (V.str "name" = V.str "call") = false by decide +kernel, by simp [Fo.hc, Fo.kids], by simp [Fo.kids]⟩
  | neg a => exact .inr ⟨show decide (V.str "negative" = V.str "call") = false by decide +kernel, by simp [Fo.hc, Fo.kids], by simp [Fo.kids]⟩
  | shl a n => exact .inr ⟨show decide (V.str "shift" = V.str "call") = false by decide +kernel, by simp [Fo.hc, Fo.kids], by simp [Fo.kids]⟩
  | sum i b a => exact .inr ⟨show decide (V.str "sum" = V.str "call") = false by decide +kernel, by simp [Fo.hc, Fo.kids], by simp [Fo.kids]⟩
  | bin o a b => exact .inr ⟨by cases o <;> first | exact (show decide (V.str "plus" = V.str "call") = false by decide +kernel) | exact (show decide (V.str "minus" = V.str "call") = false by decide +kernel) | exact (show decide (V.str "times" = V.str "call") = false by decide +kernel), by simp [Fo.hc, Fo.kids], by simp [Fo.kids]⟩
  | call z fs => exact .inl ⟨z, fs, rfl⟩
def spHas (K : PySem.W.Frag) (n : Nat) : Sp := fun vs H Q _ => ∃ (f : Fo) (a : Addr), vs = [.ref a] ∧ f.depth ≤ n ∧ FoAt K H f a ∧ ∀ H', Same H H' → Q (.bl f.hc) H'
theorem sc_has_call : FnScope ["formula", "one"] ["formula"] (defScope s_has_call) := ⟨rfl, rfl, rfl, by decide +kernel, rfl, by decide +kernel, by decide +kernel⟩
theorem ok_has_call (T : Txt K mg) : ∀ n, Cal P w K mg base CX0 (n + 2) (ga K "has_call") ["formula"] (spHas K n)
  | 0 => by
    obtain ⟨fd, F⟩ := T.f_has_call
    refine ⟨fd, ⟨fun vs H Q E h => ?_, fun A outer s H args us vs Q E _ _ _ _ h => ?_⟩, F.kp, F.bindsN fun _ _ _ _ _ _ us hl => match us, hl with | [_], _ => rfl⟩
    · obtain ⟨_, _, rfl, _⟩ := h
      rfl
    · obtain ⟨_, _, _, h, _⟩ := h
      exact absurd h (Nat.not_le_of_lt (Fo.depth_pos _))
  | n + 1 => by
    have GX := ok_has_call T n
    obtain ⟨fd, F⟩ := T.f_has_call
    refine ⟨fd, ?_, F.kp, F.bindsN fun _ _ _ _ _ _ us hl => match us, hl with | [_], _ => rfl⟩
    refine F.ok sc_has_call (fun vs H Q E h => ?_) (fun cdv A outer s H vs Q E hr h => ?_)
    · obtain ⟨_, _, rfl, _⟩ := h
      rfl
    have nod := sc_has_call.nd
    have hu := hu_of hr
    refine ⟨_, PSs.nox (pss_one (ps_ret (pe_or (pe_cmpR op_eq (pe_fld (pv 0) rfl) pe_str (nomark _)) (pe_one (pe_callB (cr_any rfl) rfl (T.f "any") (by decide +kernel) (pa_cons (pe_lc (own := [("one", 1)]) (te := (tCall (spHas K n) [] E0 (tCons (tVar 1) tNil))) (g := (gName 1)) (tt := tYes) rfl nod (pi_tup (pe_callC (ok_inner_formulas T) (hr.mono (by omega)) rfl (T.g "inner_formulas") pass0 (pa_cons (pv 0) pa_nil))) (blkOk_by (N := ["formula", "one"]) (sc := defScope s_has_call) (by decide +kernel)) (fun _ _ _ _ _ => (pg_name (i := 1) nod rfl (Or.inl rfl))) (fun _ _ _ _ _ => pts_nil) (fun _ _ _ _ _ => (pe_callC GX (hr.mono (by omega)) rfl (T.g "has_call") pass0 (pa_cons (pv 1) pa_nil)))) pa_nil)))))), ?_⟩
    obtain ⟨f, a, rfl, hn, hf, q⟩ := h
    obtain ⟨dx, t, th, xs, ha, et, sh, fk⟩ := hf.opened
    have I := T.ins _ f.cls_mem
    have nk := I.no "kind" (by decide +kernel)
    refine ⟨_, rfl, a, _, dx, _, .str f.kind, rfl, ha, I.cl, nk, rfl, rfl, _, rfl, ?_⟩
    rcases f.kind_callC with ⟨z, fs, rfl⟩ | ⟨hnc, hkc, lk⟩
    · refine ite2 (fun _ => ?_) (fun h => absurd (show decide (V.str "call" = V.str "call") = true by decide +kernel) h)
      exact q H (Same.refl _)
    refine ite2 (fun n => Bool.noConfusion (hnc.symm.trans n)) (fun _ => ?_)
    refine ⟨_, rfl, f, a, rfl, hf, fun u H0 ys s0 eu fk0 => ⟨u, rfl, ⟨_, SqT.of eu⟩, fun D hD => ?_⟩⟩
    have ly := fk0.len
    have up0 : ∀ {H' : Hp} {o : HO}, Same H0 H' → Same H0 (upd H' D o) := fun {H' o} s' b o' e => by rw [upd_ne (ne_of_none e hD)]; exact s' _ _ e
    refine lc_tup (K := K) (a := u) (xs := ys.map V.ref) (fun j H' => Same H0 H' ∧ H' D = some (.lst (((f.kids.take j).map Fo.hc).map V.bl))) ⟨up0 (Same.refl _), upd_same⟩ (fun j H' _ ⟨s, _⟩ => SqT.of (s _ _ eu)) (fun j x H' hx ⟨s, eD⟩ => ?_) (fun H' ⟨s, eD⟩ => ?_)
    · obtain ⟨y, hy, rfl⟩ := map_at hx
      obtain ⟨g, hgi, hgt⟩ := fk0.get hy
      have hg := List.mem_of_getElem? hgi
      have gd := Fo.kid_depth hg
      refine ⟨rfl, _, rfl, g, y, rfl, by omega, hgt.same s, fun H2 s2 => ⟨_, s2 _ _ eD, ?_, up0 (s.trans s2), ?_⟩⟩
      · rw [List.length_map, List.length_map, List.length_take]
        exact tlt (by omega)
      · rw [upd_same, take_at hgi, List.map_append, List.map_append]; rfl
    · rw [List.length_map, ly, List.take_length] at eD
      refine ⟨D, _, rfl, SqL.of eD, ?_⟩
      rw [← hkc]
      exact q H' (s0.trans s)
/-! ### check_callless, degrees -/
/-- what has no degrees -/
def BadT (K : PySem.W.Frag) (H : Hp) (v : V) : Prop := (∃ n, Th H v n) ∨ ∃ f a, v = .ref a ∧ FoAt K H f a ∧ f.depth ≤ 40 ∧ f.hc = true
theorem BadT.same {H H' : Hp} {v : V} (h : BadT K H v) (s : Same H H') : BadT K H' v := h.elim (fun ⟨n, t⟩ => .inl ⟨n, t.same s⟩) fun ⟨f, a, e, hf, r⟩ => .inr ⟨f, a, e, hf.same s, r⟩
theorem Th.thT {H : Hp} {v : V} {n : String} (t : Th H v n) : n ∈ thTys := by cases t <;> decide
def RaisesF (K : PySem.W.Frag) (H : Hp) (v : V) (E : XK) : Prop := ∀ H' d, Same H H' → H d = none → H' d = some (.xd [("value", v)]) → E (.ref (ga K "BadFormula")) (some d) H'
theorem RaisesF.same {H H' : Hp} {v : V} {E : XK} (h : RaisesF K H v E) (s : Same H H') : RaisesF K H' v E := fun H2 d s2 hd e => h H2 d (s.trans s2) (none_back s hd) e
def spCkCall (K : PySem.W.Frag) : Sp := fun vs H Q _ => ∃ (f : Fo) (a : Addr), vs = [.ref a] ∧ f.depth ≤ 40 ∧ f.NC ∧ FoAt K H f a ∧ ∀ H', Same H H' → Q .non H'
theorem sc_check_callless : FnScope ["thing"] ["thing"] (defScope s_check_callless) := ⟨rfl, rfl, rfl, by decide +kernel, rfl, by decide +kernel, by decide +kernel⟩
theorem ok_check_callless (T : Txt K mg) : Cal P w K mg base CX0 (43) (ga K "check_callless") ["thing"] (spCkCall K) := by
  obtain ⟨fd, F⟩ := T.f_check_callless
  refine ⟨fd, ?_, F.kp, F.bindsN fun _ _ _ _ _ _ us hl => match us, hl with | [_], _ => rfl⟩
  refine F.ok sc_check_callless (fun vs H Q E h => ?_) (fun cdv A outer s H vs Q E hr h => ?_)
  · obtain ⟨_, _, rfl, _⟩ := h
    rfl
  have nod := sc_check_callless.nd
  have hu := hu_of hr
  refine ⟨_, PSs.nox (pss_one (ps_if (PW.pt (pw_or (pt_not (pt_val (pe_callB call_isi rfl (T.f "isinstance") (by decide +kernel) (pa_cons (pv 0) (pa_cons (pe_glob (v := .ref (ga K "Formula")) rfl (T.g "Formula") rfl) pa_nil))))) (pw_or1 (pt_val (pe_callC (ok_has_call T 40) (hr.mono (by omega)) rfl (T.g "has_call") pass0 (pa_cons (pv 0) pa_nil))))))
    (pss_one ps_never)
    pss_nil)), ?_⟩
  obtain ⟨f, a, rfl, hd, nc, hf, q⟩ := h
  obtain ⟨dx, fs, e⟩ := hf.ins
  have I := T.ins _ f.cls_mem
  refine ⟨_, rfl, .ref a, _, _, _, true, rfl, .own _, .base (.ins e I.cl I.ha I.hn I.ht I.hm), kitF T f.cls_mem, _, rfl, ?_⟩
  refine ite2 (fun h => absurd h (by decide)) (fun _ => ?_)
  refine ⟨_, rfl, f, a, rfl, hd, hf, fun H' s => ⟨_, rfl, ?_⟩⟩
  rw [nc.hc]
  exact ite2 (fun h => Bool.noConfusion (show false = true from h)) (fun _ => q _ s)
def spBadC (K : PySem.W.Frag) : Sp := fun vs H Q E => ∃ v, vs = [v] ∧ BadT K H v ∧ RaisesF K H v E
theorem scE_check_callless : FnScope ["thing"] ["thing"] (defScope s_check_callless) := ⟨rfl, rfl, rfl, by decide +kernel, rfl, by decide +kernel, by decide +kernel⟩
theorem okE_check_callless (T : Txt K mg) : Cal P w K mg base (L2N.CX P w) (45) (ga K "check_callless") ["thing"] (spBadC K) := by
  obtain ⟨fd, F⟩ := T.f_check_callless
  obtain ⟨fdB_BadFormula, GB_BadFormula, kB_BadFormula, bB_BadFormula⟩ := ok_BadFormula___init__ (P := P) (w := w) (base := base) T
  have TB_BadFormula := T.err "BadFormula" (by decide +kernel)
  refine ⟨fd, ?_, F.kp, F.bindsN fun _ _ _ _ _ _ us hl => match us, hl with | [_], _ => rfl⟩
  refine F.ok scE_check_callless (fun vs H Q E h => ?_) (fun cdv A outer s H vs Q E hr h => ?_)
  · obtain ⟨_, rfl, _⟩ := h
    rfl
  have nod := scE_check_callless.nd
  have hu := hu_of hr
  refine ⟨_, (pss_one (ps_if (PW.pt (pw_or (pt_not (pt_val (pe_callB call_isi rfl (T.f "isinstance") (by decide +kernel) (pa_cons (pv 0) (pa_cons (pe_glob (v := .ref (ga K "Formula")) rfl (T.g "Formula") rfl) pa_nil))))) (pw_or1 (pt_val (pe_callC (ok_has_call T 40) (hr.mono (by omega)) rfl (T.g "has_call") pass0 (pa_cons (pv 0) pa_nil))))))
    (pss_one (L2N.ps_raise rfl (L2N.takes_of rfl rfl rfl rfl) (pmkN_oex (x := "BadFormula") TB_BadFormula.o TB_BadFormula.ini TB_BadFormula.inT GB_BadFormula (hr.mono (by omega)) bB_BadFormula .nil pass0 rfl (T.g "BadFormula") (pa_cons (pv 0) pa_nil))))
    pss_nil)), ?_⟩
  obtain ⟨v, rfl, hb, r⟩ := h
  rcases hb with ⟨n, t⟩ | ⟨f, a, rfl, hf, fd', hc⟩
  · refine ⟨_, rfl, v, _, _, _, false, rfl, .own _, t.ty, T.thF n t.thT, _, rfl, ?_⟩
    refine ite2 (fun _ => ?_) (fun h => absurd (show (!false) = true from rfl) h)
    refine ite2 (fun _ => ?_) (fun h => absurd rfl h)
    exact ⟨_, rfl, by show 1 ≤ 1000; decide, err_made TB_BadFormula fun H2 d s2 hd hx => r H2 d s2 hd hx⟩
  · obtain ⟨dx, fs, e⟩ := hf.ins
    have I := T.ins _ f.cls_mem
    refine ⟨_, rfl, .ref a, _, _, _, true, rfl, .own _, .base (.ins e I.cl I.ha I.hn I.ht I.hm), kitF T f.cls_mem, _, rfl, ?_⟩
    refine ite2 (fun h => absurd h (by decide)) (fun _ => ?_)
    refine ⟨_, rfl, f, a, rfl, fd', hf, fun H' s => ⟨_, rfl, ?_⟩⟩
    rw [hc]
    refine ite2 (fun _ => ?_) (fun h => absurd rfl h)
    exact ⟨_, rfl, by show 1 ≤ 1000; decide, err_made TB_BadFormula fun H2 d s2 hd hx => r H2 d (s.trans s2) (none_back s hd) hx⟩

end
end KW
set_option Elab.async false
set_option linter.all false
set_option maxRecDepth 100000
set_option maxHeartbeats 8000000
namespace KW
open PySem PySem.Spec PyProof.Rows L2 He Sw L2H
section
variable {P : Program} {w : World} {K : PySem.W.Frag} {mg : Str → Option Value} {base : Heap}
def IsF (K : PySem.W.Frag) (C : Addr) : Prop := ∃ c ∈ clsL, C = ga K c
theorem Txt.mths (T : Txt K mg) {m : Str} (h : m ∈ (["__eq__", "input_names"] : List Str)) : ∀ C, IsF K C → Cls K C ∧ Meth K C m (ma K (ga K "Formula") m) := fun C hC => by
  obtain ⟨c, hc, rfl⟩ := hC
  exact ⟨(T.ins c hc).cl, ⟨(T.mth c hc m h).1, (T.mth c hc m h).2.1, (T.mth c hc m h).2.2⟩⟩
theorem two_le {w : Nat} (h : w ≤ 64) : (2 : Int) ^ w ≤ 2 ^ 64 := by
  have h2 : (2 : Nat) ^ w ≤ 2 ^ 64 := Nat.pow_le_pow_right (by decide) h
  rw [← PySem.W.kbt_cast w, ← PySem.W.kbt_cast 64]
  exact Int.ofNat_le.mpr h2
theorem two_pos (w : Nat) : (0 : Int) < 2 ^ w := Int.pow_pos (by decide)
theorem shl1 (w : Nat) : (1 : Int) * 2 ^ ((w : Int).toNat) = 2 ^ w := by rw [Int.one_mul, Int.toNat_natCast]
def spIsWord : Sp := fun vs H Q _ => ∃ (i : Int) (w : Nat), vs = [.int i, .int w] ∧ 0 ≤ i ∧ i < 2 ^ w ∧ w ≤ 64 ∧ Q (.bl true) H
theorem sc_is_word : FnScope ["thing", "width"] ["thing", "width"] (defScope s_is_word) := ⟨rfl, rfl, rfl, by decide +kernel, rfl, by decide +kernel, by decide +kernel⟩
theorem ok_is_word (T : Txt K mg) : Cal P w K mg base CX0 (2) (ga K "is_word") ["thing", "width"] spIsWord := by
  obtain ⟨fd, F⟩ := T.f_is_word
  refine ⟨fd, ?_, F.kp, F.bindsN fun _ _ _ _ _ _ us hl => match us, hl with | [_, _], _ => rfl⟩
  refine F.ok sc_is_word (fun vs H Q E h => ?_) (fun cdv A outer s H vs Q E hr h => ?_)
  · obtain ⟨_, _, rfl, _⟩ := h
    rfl
  have nod := sc_is_word.nd
  have hu := hu_of hr
  refine ⟨_, PSs.nox (pss_one (ps_ret (pe_and (pe_callC (c_is_integer T) (hr.mono (by omega)) rfl (T.g "is_integer") pass0 (pa_cons (pv 0) pa_nil)) (pe_one (pe_chain op_le op_lt pe_int (pv 0) (pe_op op_shl pe_int (pv 1))))))), ?_⟩
  obtain ⟨i, w, rfl, i0, i1, w1, q⟩ := h
  refine ⟨_, rfl, _, _, rfl, .int i, _, rfl, ?_⟩
  refine ite2 (fun _ => ?_) (fun h => absurd rfl h)
  refine ⟨_, rfl, _, _, rfl, rfl, _, rfl, ?_⟩
  refine ite2 (fun h => ?_) (fun h => absurd (decide_eq_true i0) h)
  refine ⟨_, rfl, _, _, rfl, rfl, ⟨by omega, by omega, by decide⟩, _, _, rfl, rfl, ?_⟩
  rw [shl1]
  show Q (V.bl (decide (i < 2 ^ w))) H
  rw [decide_eq_true i1]
  exact q
def spCkWidth : Sp := fun vs H Q _ => ∃ w : Nat, vs = [.int w] ∧ 1 ≤ w ∧ w ≤ 64 ∧ Q .non H
theorem sc_check_width : FnScope ["thing"] ["thing"] (defScope s_check_width) := ⟨rfl, rfl, rfl, by decide +kernel, rfl, by decide +kernel, by decide +kernel⟩
theorem ok_check_width (T : Txt K mg) : Cal P w K mg base CX0 (2) (ga K "check_width") ["thing"] spCkWidth := by
  obtain ⟨fd, F⟩ := T.f_check_width
  refine ⟨fd, ?_, F.kp, F.bindsN fun _ _ _ _ _ _ us hl => match us, hl with | [_], _ => rfl⟩
  refine F.ok sc_check_width (fun vs H Q E h => ?_) (fun cdv A outer s H vs Q E hr h => ?_)
  · obtain ⟨_, rfl, _⟩ := h
    rfl
  have nod := sc_check_width.nd
  have hu := hu_of hr
  refine ⟨_, PSs.nox (pss_one (ps_if (PW.pt (pw_or (pt_not (pt_val (pe_callC (c_is_integer T) (hr.mono (by omega)) rfl (T.g "is_integer") pass0 (pa_cons (pv 0) pa_nil)))) (pw_or1 (pt_not (pt_chain op_le op_le pe_int (pv 0) (pe_gi (n := 64) rfl T.mWid))))))
    (pss_one ps_never)
    pss_nil)), ?_⟩
  obtain ⟨w, rfl, w0, w1, q⟩ := h
  refine ⟨_, rfl, _, _, rfl, .int _, _, rfl, ?_⟩
  refine ite2 (fun h => Bool.noConfusion (show false = true from h)) (fun _ => ?_)
  refine ⟨_, rfl, _, _, rfl, rfl, _, rfl, ?_⟩
  refine ite2 (fun h => ?_) (fun h => absurd (decide_eq_true (by omega)) h)
  refine ⟨_, _, rfl, rfl, _, rfl, ?_⟩
  refine ite2 (fun h => ?_) (fun _ => q)
  have h : (!decide ((w : Int) ≤ 64)) = true := h
  rw [decide_eq_true (by omega)] at h
  cases h
def spCkVals : Sp := fun vs H Q _ => ∃ (l vd : Addr) (zs : List Str) (w : Nat) (kvs : List (Key × V)) (e : Str → Int), vs = [.ref l, .int w, .ref vd] ∧ H l = some (.lst (zs.map V.str)) ∧ H vd = some (.dK kvs) ∧ (∀ z ∈ zs, valV kvs (.inr z) = some (.int (e z))) ∧ Wd (2 ^ w) e zs ∧ w ≤ 64 ∧ Q .non H
theorem sc_check_values : FnScope ["names", "width", "values", "name"] ["names", "width", "values"] (defScope s_check_values) := ⟨rfl, rfl, rfl, by decide +kernel, rfl, by decide +kernel, by decide +kernel⟩
theorem ok_check_values (T : Txt K mg) : Cal P w K mg base CX0 (3) (ga K "check_values") ["names", "width", "values"] spCkVals := by
  obtain ⟨fd, F⟩ := T.f_check_values
  refine ⟨fd, ?_, F.kp, F.bindsN fun _ _ _ _ _ _ us hl => match us, hl with | [_, _, _], _ => rfl⟩
  refine F.ok sc_check_values (fun vs H Q E h => ?_) (fun cdv A outer s H vs Q E hr h => ?_)
  · obtain ⟨_, _, _, _, _, _, rfl, _⟩ := h
    rfl
  have nod := sc_check_values.nd
  have hu := hu_of hr
  refine ⟨_, PSs.nox (pss_one (ps_for PassesOwn.never rfl (pi_list (pv 0)) (pg_name (i := 3) nod rfl (Or.inl rfl))
    (pss_one (ps_if (PW.pt (pw_or (pt_not (pt_val (pe_callB call_isi rfl (T.f "isinstance") (by decide +kernel) (pa_cons (pv 2) (pa_cons (pe_bltn (v := .ty "dict") rfl (T.f "dict") (by decide +kernel) rfl) pa_nil))))) (pw_or1 (pt_not (pt_val (pe_callC (ok_is_word T) (hr.mono (by omega)) rfl (T.g "is_word") pass0 (pa_cons (pe_dget1 hu (pv 2) (pv 3) ⟨rfl, rfl, rfl, rfl⟩) (pa_cons (pv 1) pa_nil))))))))
      (pss_one ps_never)
      pss_nil)))), ?_⟩
  obtain ⟨l, vd, zs, w, kvs, e, rfl, el, ed, hv, hw, w1, q⟩ := h
  refine ⟨_, rfl, l, rfl, ⟨_, SqL.of el⟩, for_list (xs := zs.map V.str) (fun _ σ H' => (∃ v, σ = [some (.ref l), some (.int w), some (.ref vd), v]) ∧ H' = H) ⟨⟨none, rfl⟩, rfl⟩ (fun i σ H' _ ⟨_, eH⟩ => by rw [eH]; exact SqL.of el) ?_ ?_⟩
  · rintro i x σ H' hx ⟨⟨v, rfl⟩, rfl⟩
    obtain ⟨z, hz, rfl⟩ := map_at hx
    have hzm := List.mem_of_getElem? hz
    refine ⟨_, rfl, .ref vd, _, _, .type "dict", true, rfl, .ty _, .base (.dK ed), kit_ty (show kitB _ _ = some true by decide +kernel), _, rfl, ?_⟩
    refine ite2 (fun h => Bool.noConfusion (show false = true from h)) (fun _ => ?_)
    refine ⟨_, rfl, _, rfl, .inl ⟨kvs, .inl ed⟩, _, rfl, _, .inl ⟨kvs, .inr z, .inl ed, rfl, (hv z hzm).symm⟩, ?_⟩
    refine ⟨_, rfl, e z, w, rfl, (hw z hzm).1, (hw z hzm).2, w1, _, rfl, ?_⟩
    exact ite2 (fun h => Bool.noConfusion (show false = true from h)) (fun _ => ⟨⟨_, rfl⟩, rfl⟩)
  · rintro σ H' ⟨⟨v, rfl⟩, rfl⟩
    exact q
end
end KW
set_option Elab.async false
set_option linter.all false
set_option maxRecDepth 100000
set_option maxHeartbeats 8000000
namespace KW
open PySem PySem.Spec PyProof.Rows L2 He Sw L2H
section
variable {P : Program} {w : World} {K : PySem.W.Frag} {mg : Str → Option Value} {base : Heap}
/-! ### cases_of_turns -/
/-- the dict tells, for each of zs, a list of its words in the rows es -/
def CasesAt (H : Hp) (kvs : List (Key × V)) (es : List (Str → Int)) (zs : List Str) : Prop := ∀ z ∈ zs, ∃ p, valV kvs (.inr z) = some (.ref p) ∧ H p = some (.lst (es.map fun e => V.int (e z)))
theorem CasesAt.same {H H' : Hp} {kvs : List (Key × V)} {es : List (Str → Int)} {zs : List Str} (h : CasesAt H kvs es zs) (s : Same H H') : CasesAt H' kvs es zs := fun z hz => by
  obtain ⟨p, h1, h2⟩ := h z hz
  exact ⟨p, h1, s _ _ h2⟩
theorem CasesAt.sub {H : Hp} {kvs : List (Key × V)} {es : List (Str → Int)} {zs ys : List Str} (h : CasesAt H kvs es zs) (s : ∀ z ∈ ys, z ∈ zs) : CasesAt H kvs es ys := fun z hz => h z (s z hz)
def col (s : Int) (i : Str) (b : Fo) (z : Str) (es : List (Str → Int)) : List V := (rowsOf s i b es).map fun e => V.int (e z)
def colT (s : Int) (i : Str) (b : Fo) (z : Str) (e : Str → Int) : List V := (turnsOf s i b e).map fun e => V.int (e z)
theorem col_snoc {s : Int} {i : Str} {b : Fo} {z : Str} {es : List (Str → Int)} {e : Str → Int} : col s i b z (es ++ [e]) = col s i b z es ++ colT s i b z e := by
  simp [col, colT, rowsOf, List.flatMap_append]
theorem colT_len {s : Int} {i : Str} {b : Fo} {z : Str} {e : Str → Int} : (colT s i b z e).length = (b.val s e).toNat := by simp [colT, turnsOf]
theorem col_len {s : Int} {i : Str} {b : Fo} {z : Str} {es : List (Str → Int)} : (col s i b z es).length = (rowsOf s i b es).length := by simp [col]
theorem colT_at {s : Int} {i : Str} {b : Fo} {z : Str} {e : Str → Int} {t : Nat} (h : t < (b.val s e).toNat) : (colT s i b z e)[t]? = some (V.int (updE e i (t : Int) z)) := by
  simp [colT, turnsOf, List.getElem?_map, List.getElem?_range h]
theorem rows_take {s : Int} {i : Str} {b : Fo} {es : List (Str → Int)} (j : Nat) : (rowsOf s i b (es.take j)).length ≤ (rowsOf s i b es).length := by
  have : rowsOf s i b es = rowsOf s i b (es.take j) ++ rowsOf s i b (es.drop j) := by
    rw [rowsOf, rowsOf, rowsOf, ← List.flatMap_append, List.take_append_drop]
  rw [this, List.length_append]
  omega
theorem rows_one {s : Int} {i : Str} {b : Fo} {es : List (Str → Int)} {j : Nat} {e : Str → Int} (h : es[j]? = some e) : (rowsOf s i b (es.take j)).length + (b.val s e).toNat ≤ (rowsOf s i b es).length := by
  have h1 := rows_take (s := s) (i := i) (b := b) (es := es) (j + 1)
  rw [take_at h, rowsOf, List.flatMap_append, List.length_append] at h1
  simp only [List.flatMap_cons, List.flatMap_nil, List.append_nil] at h1
  have : (turnsOf s i b e).length = (b.val s e).toNat := by simp [turnsOf]
  rw [this] at h1
  exact h1
def spCases (K : PySem.W.Frag) : Sp := fun vs H Q _ => ∃ (i : Str) (b f : Fo) (a cd bl : Addr) (s : Int) (kvs : List (Key × V)) (es : List (Str → Int)), vs = [.ref a, .ref cd, .ref bl] ∧ FoAt K H (.sum i b f) a ∧ f.Ok ∧ f.Fits ∧ f.Few ∧
  H cd = some (.dK kvs) ∧ CasesAt H kvs es (Fo.sum i b f).free ∧ H bl = some (.lst (es.map fun e => V.int (b.val s e))) ∧ (∀ e ∈ es, 0 ≤ b.val s e) ∧ (rowsOf s i b es).length ≤ 20000 ∧ es.length ≤ 20000 ∧
  ∀ nd H' kvs', Same H H' → H' nd = some (.dK kvs') → CasesAt H' kvs' (rowsOf s i b es) f.free → Q (.ref nd) H'
theorem val_put {kvs : List (Key × V)} {k k' : Key} {v : V} : valV (putK kvs k v) k' = if k' = k then some v else valV kvs k' := valV_put kvs k k' v
theorem putK_length (kvs : List (Key × V)) (k : Key) (v : V) : (putK kvs k v).length ≤ kvs.length + 1 := by
  unfold putK
  split <;> simp
theorem sc_cases_of_turns : FnScope ["formula", "cases", "bounds", "index", "_", "body", "found", "name", "bound", "turn", "word"] ["formula", "cases", "bounds"] (defScope s_cases_of_turns) := ⟨rfl, rfl, rfl, by decide +kernel, rfl, by decide +kernel, by decide +kernel⟩
theorem ok_cases_of_turns (T : Txt K mg) : Cal P w K mg base CX0 (88) (ga K "cases_of_turns") ["formula", "cases", "bounds"] (spCases K) := by
  obtain ⟨fd, F⟩ := T.f_cases_of_turns
  refine ⟨fd, ?_, F.kp, F.bindsN fun _ _ _ _ _ _ us hl => match us, hl with | [_, _, _], _ => rfl⟩
  refine F.ok sc_cases_of_turns (fun vs H Q E h => ?_) (fun cdv A outer s H vs Q E hr h => ?_)
  · obtain ⟨_, _, _, _, _, _, _, _, _, rfl, _⟩ := h
    rfl
  have nod := sc_cases_of_turns.nd
  have hu := hu_of hr
  refine ⟨_, PSs.nox (pss_cons (ps_asg (pe_fld (pv 0) rfl) (pg_tup rfl (pgs_cons (pg_name (i := 3) nod rfl (Or.inl rfl)) (pgs_cons (pg_name (i := 4) nod rfl (Or.inl rfl)) (pgs_cons (pg_name (i := 5) nod rfl (Or.inl rfl)) pgs_nil)))))
  (pss_cons (ps_set (i := 6) nod rfl (Or.inl rfl) pe_dnewK)
  (pss_cons (ps_for PassesOwn.never rfl (pi_list (pe_methI0 (IsC := IsF K) (pv 5) (ok_Formula_input_names T) (T.mths (by decide +kernel)) (hr.mono (by omega)) pass0)) (pg_name (i := 7) nod rfl (Or.inl rfl))
    (pss_one (ps_if (pt_cmpR op_eq (pv 7) (pv 3) (nomark _))
      (pss_one (ps_dput hu (pv 6) (pv 7) (pe_lc2 (own := [("bound", 8), ("turn", 9)]) (vs1 := [9]) (g := gName 8) (tt := tYes) (wi1 := (iRng1 (tCons (tVar 8) tNil))) (g1 := gName 9) (tt1 := tYes) (te := (tVar 9)) rfl nod (pi_list (pv 2)) (blkOk_by (N := ["formula", "cases", "bounds", "index", "_", "body", "found", "name", "bound", "turn", "word"]) (sc := defScope s_cases_of_turns) (by decide +kernel)) (by decide) (fun _ _ _ _ _ => (pg_name (i := 8) nod rfl (Or.inl rfl))) (fun _ _ _ _ _ => pts_nil) (fun _ _ _ _ _ => (pi_range1 rfl (T.f "range") (pa_cons (pv 8) pa_nil))) (fun _ _ _ _ _ => (pg_name (i := 9) nod rfl (Or.inl rfl))) (fun _ _ _ _ _ => pts_nil) (fun _ _ _ _ _ => (pv 9))) rfl))
      (pss_one (ps_dput hu (pv 6) (pv 7) (pe_lc2 (own := [("word", 10), ("bound", 8), ("_", 4)]) (vs1 := [4]) (g := (gTup K 2 (gCons (gName 10) (gCons (gName 8) gNil)))) (tt := tYes) (wi1 := (iRng1 (tCons (tVar 8) tNil))) (g1 := gName 4) (tt1 := tYes) (te := (tVar 10)) rfl nod (pi_zip rfl (T.f "zip") (pa_cons (pe_dget hu (pv 1) (pv 7) (fun _ _ => rfl)) (pa_cons (pv 2) pa_nil))) (blkOk_by (N := ["formula", "cases", "bounds", "index", "_", "body", "found", "name", "bound", "turn", "word"]) (sc := defScope s_cases_of_turns) (by decide +kernel)) (by decide) (fun _ _ _ _ _ => (pg_tup rfl (pgs_cons (pg_name (i := 10) nod rfl (Or.inl rfl)) (pgs_cons (pg_name (i := 8) nod rfl (Or.inl rfl)) pgs_nil)))) (fun _ _ _ _ _ => pts_nil) (fun _ _ _ _ _ => (pi_range1 rfl (T.f "range") (pa_cons (pv 8) pa_nil))) (fun _ _ _ _ _ => (pg_name (i := 4) nod rfl (Or.inl rfl))) (fun _ _ _ _ _ => pts_nil) (fun _ _ _ _ _ => (pv 10))) rfl)))))
  (pss_one (ps_ret (pv 6)))))), ?_⟩
  obtain ⟨i, b, f, a, cd, bl, s, kvs, es, rfl, hf, ok, fit, hp, ecd, cas, ebl, pos, lr, le, q⟩ := h
  obtain ⟨dx, t, th, xs, ha, et, sh, fk⟩ := hf.opened
  cases sh with
  | sum _ _ _ y x hb =>
  have hx : FoAt K H f x := by
    simp only [Fo.kids, FoAts] at fk
    obtain ⟨x', ys, e1, q1, e2⟩ := fk
    rw [e2] at e1
    injection e1 with e1
    rw [e1]; exact q1
  have I := T.ins "Sum" (by decide +kernel)
  have nt := I.no "things" (by decide +kernel)
  refine ⟨_, rfl, a, _, dx, _, _, rfl, ha, I.cl, nt, rfl, t, _, rfl, SqT.of et, rfl, _, _, rfl, _, _, rfl, _, _, rfl, rfl, ?_⟩
  refine fun nd hnd => ?_
  have s1 := upd_new (o := .dK []) hnd
  have end1 : (upd H nd (.dK [])) nd = some (.dK []) := upd_same
  generalize upd H nd (.dK []) = H1 at s1 end1
  obtain ⟨dxx, tx, thx, xsx, eax, _, _, _⟩ := hx.opened
  refine ⟨_, rfl, x, ga K f.cls, dxx, _, rfl, ⟨_, f.cls_mem, rfl⟩, s1 _ _ eax, rfl, f, x, rfl, ok, fit, hx.same s1, Fo.few false ok hp, fun nl H2 ys s2 n2 as2 e2 => ⟨nl, rfl, ⟨_, SqL.of e2⟩, ?_⟩⟩
  have s02 := s1.trans s2
  have nn : nl ≠ nd := fun z => by rw [z, end1] at n2; cases n2
  have ll := Fo.few false ok hp ys as2.2.1 as2.2.2
  refine for_list (xs := ys.map V.str) (fun j σ H' => ∃ v kvj, σ = [some (.ref a), some (.ref cd), some (.ref bl), some (.str i), some (.ref y), some (.ref x), some (.ref nd), v, none, none, none] ∧ SameBut nd H2 H' ∧ H' nd = some (.dK kvj) ∧ kvj.length ≤ j ∧ CasesAt H' kvj (rowsOf s i b es) (ys.take j))
    ⟨none, [], rfl, SameBut.refl, s2 _ _ end1, Nat.zero_le _, fun z hz => by simp at hz⟩ (fun j σ H' _ ⟨v, kvj, _, B, _⟩ => SqL.of (B _ _ nn e2)) ?_ ?_
  · rintro j x' σ H3 hx' ⟨v, kvj, rfl, B3, e3, l3, c3⟩
    obtain ⟨z, hz, rfl⟩ := map_at hx'
    have hzm := List.mem_of_getElem? hz
    have jl : j < ys.length := (List.getElem?_eq_some_iff.mp hz).1
    have same3 : ∀ {p : Addr} {o : HO}, H p = some o → H3 p = some o := fun {p o} e => B3 p o (fun z => by rw [z, hnd] at e; cases e) (s02 _ _ e)
    -- the list of its words is laid in the dict
    have put : ∀ (D : Addr) (H4 : Hp), Same H3 H4 → H3 D = none → H4 D = some (.lst (col s i b z es)) → ∃ kvj', (DPut H4 nd (kV (.inr z)) (.ref D) (upd H4 nd (.dK kvj'))) ∧ SameBut nd H2 (upd H4 nd (.dK kvj')) ∧ (upd H4 nd (.dK kvj')) nd = some (.dK kvj') ∧ kvj'.length ≤ j + 1 ∧ CasesAt (upd H4 nd (.dK kvj')) kvj' (rowsOf s i b es) (ys.take (j + 1)) := fun D H4 s4 n4 e4 => by
      have end4 := s4 _ _ e3
      have nD : D ≠ nd := fun z => by rw [z, e3] at n4; cases n4
      refine ⟨putK kvj (.inr z) (.ref D), DPut.k end4 (tlt (by omega)), (B3.trans (SameBut.of s4)).trans sameBut_upd, upd_same, ?_, ?_⟩
      · have := putK_length kvj (.inr z) (.ref D); omega
      · intro z' hz'
        by_cases c : z' = z
        · refine ⟨D, ?_, ?_⟩
          · rw [val_put, if_pos (by rw [c])]
          · rw [upd_ne nD, e4, c]; rfl
        · rw [take_at hz] at hz'
          obtain ⟨p, h1, h2⟩ := c3 z' (by
            rcases List.mem_append.mp hz' with h | h
            · exact h
            · exact absurd (List.mem_singleton.mp h) c)
          have np : p ≠ nd := fun z => by rw [z, e3] at h2; cases h2
          exact ⟨p, by rw [val_put, if_neg (fun h => c (by injection h))]; exact h1, by rw [upd_ne np]; exact s4 _ _ h2⟩
    refine ⟨_, rfl, _, rfl, rfl, _, rfl, ?_⟩
    refine ite2 (fun c => ?_) (fun c => ?_)
    · have c : z = i := by
        have c := of_decide_eq_true c
        injection c
      subst c
      refine ⟨_, rfl, bl, rfl, ⟨_, SqL.of (same3 ebl)⟩, fun D hD => ?_⟩
      have up0 : ∀ {H' : Hp} {o : HO}, Same H3 H' → Same H3 (upd H' D o) := fun {H' o} s' b o' e => by rw [upd_ne (ne_of_none e hD)]; exact s' _ _ e
      refine loop_it (walk_list (K := K) (a := bl) (xs := es.map fun e => V.int (b.val s e))) (fun k H' => Same H3 H' ∧ H' D = some (.lst (col s z b z (es.take k)))) ⟨up0 (Same.refl _), upd_same⟩ (fun k H' _ ⟨s', _⟩ => SqL.of (s' _ _ (same3 ebl))) (fun k x' H4 H4' hk ⟨s4, e4⟩ ⟨hH, hxk⟩ => ?_) (fun H4 ⟨s4, e4⟩ => ?_)
      · subst hH
        obtain ⟨e, hek, rfl⟩ := map_at hxk
        have hem := List.mem_of_getElem? hek
        have hb0 := pos e hem
        have r1 := rows_one (s := s) (i := z) (b := b) hek
        refine ⟨rfl, _, rfl, _, rfl, by omega, by omega, ?_⟩
        refine loop_it (walk_range (lo := 0) (n := (b.val s e).toNat)) (fun t H' => Same H3 H' ∧ H' D = some (.lst (col s z b z (es.take k) ++ (colT s z b z e).take t))) ⟨s4, by rw [List.take_zero, List.append_nil]; exact e4⟩ (fun _ _ _ _ => trivial) (fun t x' H5 H5' htt ⟨s5, e5⟩ ⟨hH, hxt⟩ => ?_) (fun H5 ⟨s5, e5⟩ => ?_)
        · subst hH hxt
          have ct := colT_at (s := s) (i := z) (b := b) (z := z) (e := e) htt
          rw [updE_same] at ct
          refine ⟨rfl, _, rfl, _, e5, ?_, up0 s5, ?_⟩
          · have := col_len (s := s) (i := z) (b := b) (z := z) (es := es.take k)
            have := List.length_take (i := t) (l := colT s z b z e)
            rw [List.length_append]
            exact tlt (by omega)
          · rw [upd_same, take_at ct, List.append_assoc]
            simp only [Int.zero_add]
        · refine ⟨s5, ?_⟩
          rw [e5, take_at hek, col_snoc, ← colT_len (s := s) (i := z) (b := b) (z := z) (e := e), List.take_length]
      · rw [List.length_map, List.take_length] at e4
        obtain ⟨kvj', p1, p2, p3, p4, p5⟩ := put D H4 s4 hD e4
        exact ⟨_, rfl, _, rfl, nd, _, rfl, p1, _, kvj', rfl, p2, p3, p4, p5⟩
    · have c : z ≠ i := fun h => c (by rw [h]; exact decide_eq_true rfl)
      have hzf := (as2.2.2 z).mp hzm
      obtain ⟨pz, hv1, hv2⟩ := cas z (by simp only [Fo.free]; exact List.mem_append_left _ (List.mem_filter.mpr ⟨hzf, by rw [decide_eq_false c]; rfl⟩))
      refine ⟨_, rfl, _, rfl, cd, .ref pz, rfl, .inl ⟨kvs, .inr z, .inl (same3 ecd), rfl, hv1.symm⟩, _, rfl, pz, bl, _, _, rfl, SqL.of (same3 hv2), SqL.of (same3 ebl), fun D hD => ?_⟩
      have up0 : ∀ {H' : Hp} {o : HO}, Same H3 H' → Same H3 (upd H' D o) := fun {H' o} s' b o' e => by rw [upd_ne (ne_of_none e hD)]; exact s' _ _ e
      refine loop_it (walk_zip (K := K) (a := pz) (b := bl) (xs := es.map fun e => V.int (e z)) (ys := es.map fun e => V.int (b.val s e)) (n := es.length) (by simp)) (fun k H' => Same H3 H' ∧ H' D = some (.lst (col s i b z (es.take k)))) ⟨up0 (Same.refl _), upd_same⟩ (fun k H' _ ⟨s', _⟩ => ⟨SqL.of (s' _ _ (same3 hv2)), SqL.of (s' _ _ (same3 ebl))⟩) (fun k x' H4 H4' hk ⟨s4, e4⟩ ⟨Tp, v1, v2, hx4, hT, hH, hv1', hv2'⟩ => ?_) (fun H4 ⟨s4, e4⟩ => ?_)
      · subst hH hx4
        obtain ⟨e, hek, rfl⟩ := map_at hv1'
        obtain ⟨e', hek', rfl⟩ := map_at hv2'
        rw [hek] at hek'
        injection hek' with hek'
        subst hek'
        have hem := List.mem_of_getElem? hek
        have hb0 := pos e hem
        have r1 := rows_one (s := s) (i := i) (b := b) hek
        have sT := upd_new (o := .tup [V.int (e z), V.int (b.val s e)]) hT
        refine ⟨Tp, _, rfl, SqT.of upd_same, rfl, _, _, rfl, _, _, rfl, rfl, rfl, _, rfl, _, rfl, by omega, by omega, ?_⟩
        have s4' := s4.trans sT
        have e4' := sT _ _ e4
        refine loop_it (walk_range (lo := 0) (n := (b.val s e).toNat)) (fun t H' => Same H3 H' ∧ H' D = some (.lst (col s i b z (es.take k) ++ (colT s i b z e).take t))) ⟨s4', by rw [List.take_zero, List.append_nil]; exact e4'⟩ (fun _ _ _ _ => trivial) (fun t x' H5 H5' htt ⟨s5, e5⟩ ⟨hH, hxt⟩ => ?_) (fun H5 ⟨s5, e5⟩ => ?_)
        · subst hH hxt
          have ct := colT_at (s := s) (i := i) (b := b) (z := z) (e := e) htt
          rw [updE_ne c] at ct
          refine ⟨rfl, _, rfl, _, e5, ?_, up0 s5, ?_⟩
          · have := col_len (s := s) (i := i) (b := b) (z := z) (es := es.take k)
            have := List.length_take (i := t) (l := colT s i b z e)
            rw [List.length_append]
            exact tlt (by omega)
          · rw [upd_same, take_at ct, List.append_assoc]
        · refine ⟨s5, ?_⟩
          rw [e5, take_at hek, col_snoc, ← colT_len (s := s) (i := i) (b := b) (z := z) (e := e), List.take_length]
      · rw [List.take_length] at e4
        obtain ⟨kvj', p1, p2, p3, p4, p5⟩ := put D H4 s4 hD e4
        exact ⟨_, rfl, _, rfl, nd, _, rfl, p1, _, kvj', rfl, p2, p3, p4, p5⟩
  · rintro σ H3 ⟨v, kvj, rfl, B3, e3, l3, c3⟩
    rw [List.length_map, List.take_length] at c3
    have s03 : Same H H3 := fun p o e => B3 p o (fun z => by rw [z, hnd] at e; cases e) (s02 _ _ e)
    exact ⟨_, rfl, q nd H3 kvj s03 e3 (c3.sub fun z hz => (as2.2.2 z).mpr hz)⟩

end
end KW
set_option Elab.async false
set_option linter.all false
set_option maxRecDepth 100000
set_option maxHeartbeats 8000000
namespace KW
open PySem PySem.Spec PyProof.Rows L2 He Sw L2H
section
variable {P : Program} {w : World} {K : PySem.W.Frag} {mg : Str → Option Value} {base : Heap}
/-! ### comprehensions that turn words into words -/
theorem lc_map {α : Type} {l : Addr} {es : List α} {F G : α → V} {g : TG} {te : TE} {σ : L2.St} {vs : List Nat} {H1 : Hp} {D : Addr} {Qd : Hp → Prop} (el : H1 l = some (.lst (es.map F))) (few : es.length ≤ 20000) (hD : H1 D = none)
    (turn : ∀ e ∈ es, ∀ (H' : Hp) (k : VK), Same H1 H' → k (G e) H' → g (F e) (wipe σ vs) H' fun σ2 H2 => wipe σ2 vs = wipe σ vs ∧ te σ2 H2 k) (hd : ∀ H', Same H1 H' → H' D = some (.lst (es.map G)) → Qd H') :
    ∃ W : Nat → Nat → Hp → Prop, (∃ m, W 0 m (upd H1 D (.lst []))) ∧ ∀ i m H, W i m H →
      ((Itl K l).stop i H ∧ Qd H) ∨ ((Itl K l).go i H ∧ ∃ Nx : Hp → Prop, (∀ H', Nx H' → ∃ m', m' < m ∧ W (i + 1) m' H') ∧ ∀ x H', (Itl K l).yld i H x H' → g x (wipe σ vs) H' fun σ2 H2 => wipe σ2 vs = wipe σ vs ∧ tYes σ2 H2 fun b H3 =>
        if b = true then te σ2 H3 fun y H4 => ∃ acc, H4 D = some (.lst acc) ∧ acc.length < sizeLine ∧ Nx (upd H4 D (.lst (acc ++ [y]))) else Nx H3) := by
  have up0 : ∀ {H' : Hp} {o : HO}, Same H1 H' → Same H1 (upd H' D o) := fun {H' o} s' b o' e => by rw [upd_ne (ne_of_none e hD)]; exact s' _ _ e
  refine loop_it (walk_list (K := K) (a := l) (xs := es.map F)) (fun j H' => Same H1 H' ∧ H' D = some (.lst ((es.take j).map G))) ⟨up0 (Same.refl _), upd_same⟩ (fun j H' _ ⟨s, _⟩ => SqL.of (s _ _ el)) (fun j x H2 H3 hj ⟨s, eD⟩ ⟨hH, hx⟩ => ?_) (fun H2 ⟨s, eD⟩ => ?_)
  · subst hH
    obtain ⟨e, he, rfl⟩ := map_at hx
    refine turn e (List.mem_of_getElem? he) H3 (fun y H4 => ∃ acc, H4 D = some (.lst acc) ∧ acc.length < sizeLine ∧ (Same H1 (upd H4 D (.lst (acc ++ [y]))) ∧ (upd H4 D (.lst (acc ++ [y]))) D = some (.lst ((es.take (j + 1)).map G)))) s ⟨_, eD, ?_, up0 s, ?_⟩
    · rw [List.length_map]
      have := List.length_take (i := j) (l := es)
      exact tlt (by omega)
    · rw [upd_same, take_at he, List.map_append]; rfl
  · rw [List.length_map, List.take_length] at eD
    exact hd H2 s eD
theorem lc_zip {α : Type} {l1 l2 : Addr} {es : List α} {F1 F2 G : α → V} {g : TG} {te : TE} {σ : L2.St} {vs : List Nat} {H1 : Hp} {D : Addr} {Qd : Hp → Prop} (e1 : H1 l1 = some (.lst (es.map F1))) (e2 : H1 l2 = some (.lst (es.map F2))) (few : es.length ≤ 20000) (hD : H1 D = none)
    (turn : ∀ e ∈ es, ∀ (H' : Hp) (T : Addr) (k : VK), Same H1 H' → H' T = some (.tup [F1 e, F2 e]) → k (G e) H' → g (.ref T) (wipe σ vs) H' fun σ2 H2 => wipe σ2 vs = wipe σ vs ∧ te σ2 H2 k) (hd : ∀ H', Same H1 H' → H' D = some (.lst (es.map G)) → Qd H') :
    ∃ W : Nat → Nat → Hp → Prop, (∃ m, W 0 m (upd H1 D (.lst []))) ∧ ∀ i m H, W i m H →
      ((Itz K l1 l2).stop i H ∧ Qd H) ∨ ((Itz K l1 l2).go i H ∧ ∃ Nx : Hp → Prop, (∀ H', Nx H' → ∃ m', m' < m ∧ W (i + 1) m' H') ∧ ∀ x H', (Itz K l1 l2).yld i H x H' → g x (wipe σ vs) H' fun σ2 H2 => wipe σ2 vs = wipe σ vs ∧ tYes σ2 H2 fun b H3 =>
        if b = true then te σ2 H3 fun y H4 => ∃ acc, H4 D = some (.lst acc) ∧ acc.length < sizeLine ∧ Nx (upd H4 D (.lst (acc ++ [y]))) else Nx H3) := by
  have up0 : ∀ {H' : Hp} {o : HO}, Same H1 H' → Same H1 (upd H' D o) := fun {H' o} s' b o' e => by rw [upd_ne (ne_of_none e hD)]; exact s' _ _ e
  refine loop_it (walk_zip (K := K) (a := l1) (b := l2) (xs := es.map F1) (ys := es.map F2) (n := es.length) (by simp)) (fun j H' => Same H1 H' ∧ H' D = some (.lst ((es.take j).map G))) ⟨up0 (Same.refl _), upd_same⟩ (fun j H' _ ⟨s, _⟩ => ⟨SqL.of (s _ _ e1), SqL.of (s _ _ e2)⟩) (fun j x H2 H3 hj ⟨s, eD⟩ ⟨Tp, v1, v2, hx4, hT, hH, hv1, hv2⟩ => ?_) (fun H2 ⟨s, eD⟩ => ?_)
  · subst hH hx4
    obtain ⟨e, he, rfl⟩ := map_at hv1
    obtain ⟨e', he', rfl⟩ := map_at hv2
    rw [he] at he'
    injection he' with he'
    subst he'
    have sT := upd_new (o := .tup [F1 e, F2 e]) hT
    refine turn e (List.mem_of_getElem? he) _ Tp (fun y H4 => ∃ acc, H4 D = some (.lst acc) ∧ acc.length < sizeLine ∧ (Same H1 (upd H4 D (.lst (acc ++ [y]))) ∧ (upd H4 D (.lst (acc ++ [y]))) D = some (.lst ((es.take (j + 1)).map G)))) (s.trans sT) upd_same ⟨_, sT _ _ eD, ?_, up0 (s.trans sT), ?_⟩
    · rw [List.length_map]
      have := List.length_take (i := j) (l := es)
      exact tlt (by omega)
    · rw [upd_same, take_at he, List.map_append]; rfl
  · rw [List.take_length] at eD
    exact hd H2 s eD
/-! ### one_case -/
def spCase1 (K : PySem.W.Frag) : Sp := fun vs H Q _ => ∃ (f : Fo) (a : Addr) (vv : V) (e : Str → Int), vs = [.ref a, vv] ∧ f.Ok ∧ f.Fits ∧ f.Few ∧ FoAt K H f a ∧ (∀ z ∈ f.free, ∃ vd kvs, vv = .ref vd ∧ H vd = some (.dK kvs) ∧ valV kvs (.inr z) = some (.int (e z))) ∧
  ∀ cd H' kvs', Same H H' → H' cd = some (.dK kvs') → CasesAt H' kvs' [e] f.free → Q (.ref cd) H'
theorem sc_one_case : FnScope ["formula", "values", "name"] ["formula", "values"] (defScope s_one_case) := ⟨rfl, rfl, rfl, by decide +kernel, rfl, by decide +kernel, by decide +kernel⟩
theorem ok_one_case (T : Txt K mg) : Cal P w K mg base CX0 (87) (ga K "one_case") ["formula", "values"] (spCase1 K) := by
  obtain ⟨fd, F⟩ := T.f_one_case
  refine ⟨fd, ?_, F.kp, F.bindsN fun _ _ _ _ _ _ us hl => match us, hl with | [_, _], _ => rfl⟩
  refine F.ok sc_one_case (fun vs H Q E h => ?_) (fun cdv A outer s H vs Q E hr h => ?_)
  · obtain ⟨_, _, _, _, rfl, _⟩ := h
    rfl
  have nod := sc_one_case.nd
  have hu := hu_of hr
  refine ⟨_, PSs.nox (pss_one (ps_ret (pe_dc (own := [("name", 2)]) (tk := (tVar 2)) (tv := (tLst (tCons (tDGet (tVar 1) (tVar 2)) tNil))) (g := gName 2) (tt := tYes) rfl nod (pi_list (pe_methI0 (IsC := IsF K) (pv 0) (ok_Formula_input_names T) (T.mths (by decide +kernel)) (hr.mono (by omega)) pass0)) (blkOk_by (N := ["formula", "values", "name"]) (sc := defScope s_one_case) (by decide +kernel)) (fun _ _ _ _ _ => (pg_name (i := 2) nod rfl (Or.inl rfl))) (fun _ _ _ _ _ => pts_nil) (fun _ _ _ _ _ => (pv 2)) (fun _ _ _ _ _ => (pe_lst (pa_cons (pe_dget hu (pv 1) (pv 2) (fun _ _ => rfl)) pa_nil)))))), ?_⟩
  obtain ⟨f, a, vv, e, rfl, ok, fit, hp, hf, hv, q⟩ := h
  obtain ⟨dx, t, th, xs, ea, _, _, _⟩ := hf.opened
  refine ⟨_, rfl, a, ga K f.cls, dx, _, rfl, ⟨_, f.cls_mem, rfl⟩, ea, rfl, f, a, rfl, ok, fit, hf, Fo.few false ok hp, fun nl H1 ys s1 n1 as1 e1 => ⟨nl, rfl, ⟨_, SqL.of e1⟩, fun D hD => ?_⟩⟩
  have ll := Fo.few false ok hp ys as1.2.1 as1.2.2
  have nn : nl ≠ D := fun z => by rw [z, hD] at e1; cases e1
  have up : ∀ {H' : Hp} {o : HO}, SameBut D H1 H' → SameBut D H1 (upd H' D o) := fun s => s.trans sameBut_upd
  refine loop_it (walk_list (K := K) (a := nl) (xs := ys.map V.str)) (fun j H' => ∃ kvj, SameBut D H1 H' ∧ H' D = some (.dK kvj) ∧ kvj.length ≤ j ∧ CasesAt H' kvj [e] (ys.take j)) ⟨[], SameBut.of (upd_new hD), upd_same, Nat.zero_le _, fun z hz => by simp at hz⟩ (fun j H' _ ⟨_, s, _⟩ => SqL.of (s _ _ nn e1)) (fun j x H2 H3 hj ⟨kvj, s, eD, lj, cj⟩ ⟨hH, hx⟩ => ?_) (fun H2 ⟨kvj, s, eD, lj, cj⟩ => ?_)
  · subst hH
    obtain ⟨z, hz, rfl⟩ := map_at hx
    have hzm := List.mem_of_getElem? hz
    obtain ⟨vd, kvs, rfl, ed, hvz⟩ := hv z ((as1.2.2 z).mp hzm)
    have jl : j < ys.length := (List.getElem?_eq_some_iff.mp hz).1
    have nv : vd ≠ D := fun z => by rw [z] at ed; rw [s1 _ _ ed] at hD; cases hD
    refine ⟨rfl, _, rfl, _, rfl, _, rfl, vd, _, rfl, .inl ⟨kvs, .inr z, .inl (s _ _ nv (s1 _ _ ed)), rfl, hvz.symm⟩, tsz (by show 1 ≤ 1000000; decide), fun p hp' => ?_⟩
    have sp := upd_new (o := .lst [V.int (e z)]) hp'
    have np : p ≠ D := fun z => by rw [z, eD] at hp'; cases hp'
    refine ⟨_, .inr z, rfl, sp _ _ eD, tlt (by omega), putK kvj (.inr z) (.ref p), (s.trans (SameBut.of sp)).trans sameBut_upd, upd_same, ?_, fun z' hz' => ?_⟩
    · have := putK_length kvj (.inr z) (.ref p); omega
    · by_cases c : z' = z
      · exact ⟨p, by rw [val_put, if_pos (by rw [c])], by rw [upd_ne np, upd_same, c]; rfl⟩
      · rw [take_at hz] at hz'
        obtain ⟨p', h1, h2⟩ := cj z' (by
          rcases List.mem_append.mp hz' with h | h
          · exact h
          · exact absurd (List.mem_singleton.mp h) c)
        have np' : p' ≠ D := fun z => by rw [z, eD] at h2; cases h2
        exact ⟨p', by rw [val_put, if_neg (fun h => c (by injection h))]; exact h1, by rw [upd_ne np']; exact sp _ _ h2⟩
  · rw [List.length_map, List.take_length] at cj
    exact q D H2 kvj (fun b o e => s b o (fun z => by rw [z] at e; rw [s1 _ _ e] at hD; cases hD) (s1 _ _ e)) eD (cj.sub fun z hz => (as1.2.2 z).mpr hz)

end
end KW
set_option Elab.async false
set_option linter.all false
set_option maxRecDepth 100000
set_option maxHeartbeats 8000000
namespace KW
open PySem PySem.Spec PyProof.Rows L2 He Sw L2H
section
variable {P : Program} {w : World} {K : PySem.W.Frag} {mg : Str → Option Value} {base : Heap}
/-! ### words_at, sums_at -/
/-- what words_at is handed, and what it tells -/
structure WIn (K : PySem.W.Frag) (H : Hp) (f : Fo) (a cd : Addr) (w : Nat) (kvs : List (Key × V)) (es : List (Str → Int)) : Prop where
  ok : f.Ok
  fit : f.Fits
  p : f.Few
  at_ : FoAt K H f a
  w1 : w ≤ 64
  cd : H cd = some (.dK kvs)
  cas : CasesAt H kvs es f.free
  wd : ∀ e ∈ es, Wd (2 ^ w) e f.free
  le : es.length ≤ 20000
  lc : cntL (2 ^ w) f es ≤ 20000
theorem WIn.same {H H' : Hp} {f : Fo} {a cd : Addr} {w : Nat} {kvs : List (Key × V)} {es : List (Str → Int)} (h : WIn K H f a cd w kvs es) (s : Same H H') : WIn K H' f a cd w kvs es :=
  ⟨h.ok, h.fit, h.p, h.at_.same s, h.w1, s _ _ h.cd, h.cas.same s, h.wd, h.le, h.lc⟩
def wordsOf (w : Nat) (f : Fo) (es : List (Str → Int)) : List V := es.map fun e => V.int (f.val (2 ^ w) e)
def spWords (K : PySem.W.Frag) (n : Nat) : Sp := fun vs H Q _ => ∃ (f : Fo) (a cd : Addr) (w : Nat) (kvs : List (Key × V)) (es : List (Str → Int)), vs = [.ref a, .int w, .ref cd, .int es.length] ∧ f.depth ≤ n ∧ WIn K H f a cd w kvs es ∧
  ∀ l H', Same H H' → H' l = some (.lst (wordsOf w f es)) → Q (.ref l) H'
def spSums (K : PySem.W.Frag) (n : Nat) : Sp := fun vs H Q _ => ∃ (i : Str) (b f : Fo) (a cd : Addr) (w : Nat) (kvs : List (Key × V)) (es : List (Str → Int)), vs = [.ref a, .int w, .ref cd, .int es.length] ∧ f.depth ≤ n ∧ 1 ≤ n ∧ WIn K H (.sum i b f) a cd w kvs es ∧
  ∀ l H', Same H H' → H' l = some (.lst (wordsOf w (.sum i b f) es)) → Q (.ref l) H'
theorem cut_mid {xs : List V} {a c : Nat} (h : a + c ≤ xs.length) : cutV xs (some (a : Int)) (some ((a : Int) + (c : Int))) = (xs.drop a).take c := by
  unfold cutV
  rw [show (a : Int) + (c : Int) = ((a + c : Nat) : Int) by omega, HT.sIx_nat, HT.sIx_nat, Nat.min_eq_left h, Nat.min_eq_left (show a ≤ xs.length by omega)]
  congr 1
  omega
theorem sum_ints (f : (Str → Int) → Int) (es : List (Str → Int)) : es.map (fun e => V.int (f e)) = (es.map f).map V.int := by rw [List.map_map]; rfl
theorem ints_sum (s : Int) (b : Fo) (es : List (Str → Int)) (h : ∀ e ∈ es, 0 ≤ b.val s e) : ((es.map (b.val s)).sum : Int) = ((es.map fun e => (b.val s e).toNat).sum : Nat) := by
  induction es with
  | nil => rfl
  | cons e es ih =>
    rw [List.map_cons, List.sum_cons, List.map_cons, List.sum_cons, ih (fun q hq => h q (List.mem_cons_of_mem _ hq))]
    have := h e List.mem_cons_self
    omega
theorem Sum.parts {K : PySem.W.Frag} {H : Hp} {i : Str} {b f : Fo} {a : Addr} (h : FoAt K H (.sum i b f) a) : ∃ y x, Nd K H (.sum i b f) a [.str i, .ref y, .ref x] ∧ FoAt K H b y ∧ FoAt K H f x := by
  simp only [FoAt] at h
  exact h
theorem WIn.bound {H : Hp} {i : Str} {b f : Fo} {a cd y : Addr} {w : Nat} {kvs : List (Key × V)} {es : List (Str → Int)} (h : WIn K H (.sum i b f) a cd w kvs es) (hb : FoAt K H b y) : WIn K H b y cd w kvs es := by
  have ok := h.ok
  simp only [Fo.Ok] at ok
  obtain ⟨bp, bd⟩ := Fo.leaf_sizes ok.2.1
  exact ⟨ok.2.2.1, ⟨by omega, by omega⟩, h.p.bound, hb, h.w1, h.cd, h.cas.sub fun z hz => by simp only [Fo.free]; exact List.mem_append_right _ hz, fun e he => (h.wd e he).bound, h.le, by rw [cntL_leaf ok.2.1]; omega⟩
theorem WIn.body {H : Hp} {i : Str} {b f : Fo} {a cd x nd : Addr} {w : Nat} {kvs kvs' : List (Key × V)} {es : List (Str → Int)} (h : WIn K H (.sum i b f) a cd w kvs es) (hx : FoAt K H f x) (hd : H nd = some (.dK kvs')) (hc : CasesAt H kvs' (rowsOf (2 ^ w) i b es) f.free) : WIn K H f x nd w kvs' (rowsOf (2 ^ w) i b es) := by
  have ok := h.ok
  simp only [Fo.Ok] at ok
  have lc := h.lc
  rw [cntL_sum] at lc
  have fp := h.p
  have kp : f.parts < (Fo.sum i b f).parts := Fo.kid_parts (by simp [Fo.kids])
  refine ⟨ok.2.2.2.2.2, h.fit.kid (by simp [Fo.kids]), h.p.kid (by simp [Fo.kids]), hx, h.w1, hd, hc, fun e he => ?_, by omega, by omega⟩
  obtain ⟨e0, h0, h1⟩ := List.mem_flatMap.mp he
  obtain ⟨k, hk, rfl⟩ := List.mem_map.mp h1
  have hk := List.mem_range.mp hk
  have hw := Fo.val_word (two_pos w) b e0 (h.wd e0 h0).bound
  exact (h.wd e0 h0).sum (by omega) (by omega)
theorem WIn.kid {H : Hp} {f g : Fo} {a cd x : Addr} {w : Nat} {kvs : List (Key × V)} {es : List (Str → Int)} (h : WIn K H f a cd w kvs es) (hg : g ∈ f.kids) (hne : ∀ i b a, f ≠ .sum i b a) (hx : FoAt K H g x) (hc : cntL (2 ^ w) g es ≤ cntL (2 ^ w) f es) : WIn K H g x cd w kvs es := by
  have kp := Fo.kid_parts hg
  have fp := h.p
  refine ⟨Fo.ok_kids h.ok g hg, h.fit.kid hg, h.p.kid hg, hx, h.w1, h.cd, h.cas.sub fun z hz => ?_, fun e he => (h.wd e he).kid hg hne, h.le, Nat.le_trans hc h.lc⟩
  rw [Fo.free_kids]
  cases f with
  | sum i b a => exact absurd rfl (hne i b a)
  | num n => simp [Fo.kids] at hg
  | nam y => simp [Fo.kids] at hg
  | neg a => simp only [Fo.kids, List.mem_singleton] at hg; subst hg; simp [Fo.kids, Fo.freeL, hz]
  | shl a n => simp only [Fo.kids, List.mem_singleton] at hg; subst hg; simp [Fo.kids, Fo.freeL, hz]
  | bin o a b =>
    simp only [Fo.kids, List.mem_cons, List.not_mem_nil, or_false] at hg
    rcases hg with rfl | rfl <;> simp [Fo.kids, Fo.freeL, hz]
  | call z fs => exact fp.1.no.elim
theorem mask_eq (w : Nat) : V.int (1 * 2 ^ ((w : Int).toNat)) = V.int (2 ^ w) := by rw [shl1]
theorem words_app (w : Nat) (f : Fo) (es es' : List (Str → Int)) : wordsOf w f (es ++ es') = wordsOf w f es ++ wordsOf w f es' := by simp [wordsOf]
theorem words_drop {w : Nat} {i : Str} {b f : Fo} {es : List (Str → Int)} {j : Nat} {e : Str → Int} (h : es[j]? = some e) :
    (((wordsOf w f (rowsOf (2 ^ w) i b es)).drop (rowsOf (2 ^ w) i b (es.take j)).length).take (b.val (2 ^ w) e).toNat) = wordsOf w f (turnsOf (2 ^ w) i b e) := by
  have hj := (List.getElem?_eq_some_iff.mp h)
  obtain ⟨hlt, he⟩ := hj
  have e1 : es = es.take j ++ e :: es.drop (j + 1) := by
    rw [← he, ← List.drop_eq_getElem_cons hlt, List.take_append_drop]
  have e2 : rowsOf (2 ^ w) i b es = rowsOf (2 ^ w) i b (es.take j) ++ (turnsOf (2 ^ w) i b e ++ rowsOf (2 ^ w) i b (es.drop (j + 1))) := by
    conv => lhs; rw [e1]
    simp [rowsOf]
  have lt : (turnsOf (2 ^ w) i b e).length = (b.val (2 ^ w) e).toNat := by simp [turnsOf]
  rw [e2, words_app, words_app, List.drop_left' (by simp [wordsOf]), List.take_left' (by simp [wordsOf, lt])]
theorem turns_sum (w : Nat) (i : Str) (b f : Fo) (e : Str → Int) : ((turnsOf (2 ^ w) i b e).map (f.val (2 ^ w))).sum % 2 ^ w = (Fo.sum i b f).val (2 ^ w) e := by
  rw [Fo.val, sumN_range, turnsOf, List.map_map]
  rfl
theorem sc_sums_at : FnScope ["formula", "width", "cases", "many", "bounds", "body", "words", "found", "at", "bound"] ["formula", "width", "cases", "many"] (defScope s_sums_at) := ⟨rfl, rfl, rfl, by decide +kernel, rfl, by decide +kernel, by decide +kernel⟩
theorem ok_sums_at (T : Txt K mg) {n n' : Nat} (CW : Cal P w K mg base CX0 n' (ga K "words_at") ["formula", "width", "cases", "many"] (spWords K n)) (h88 : 88 ≤ n') : Cal P w K mg base CX0 (n' + 1) (ga K "sums_at") ["formula", "width", "cases", "many"] (spSums K n) := by
  obtain ⟨fd, F⟩ := T.f_sums_at
  refine ⟨fd, ?_, F.kp, F.bindsN fun _ _ _ _ _ _ us hl => match us, hl with | [_, _, _, _], _ => rfl⟩
  refine F.ok sc_sums_at (fun vs H Q E h => ?_) (fun cdv A outer s H vs Q E hr h => ?_)
  · obtain ⟨_, _, _, _, _, _, _, _, rfl, _⟩ := h
    rfl
  have nod := sc_sums_at.nd
  have hu := hu_of hr
  refine ⟨_, PSs.nox (pss_cons (ps_set (i := 4) nod rfl (Or.inl rfl) (pe_callC CW (hr.mono (by omega)) rfl (T.g "words_at") pass0 (pa_cons (pe_ix ix_tup (pe_fld (pv 0) rfl) pe_int (fun _ _ => rfl)) (pa_cons (pv 1) (pa_cons (pv 2) (pa_cons (pv 3) pa_nil))))))
  (pss_cons (ps_set (i := 5) nod rfl (Or.inl rfl) (pe_ix ix_tup (pe_fld (pv 0) rfl) pe_int (fun _ _ => rfl)))
  (pss_cons (ps_set (i := 6) nod rfl (Or.inl rfl) (pe_callC CW (hr.mono (by omega)) rfl (T.g "words_at") pass0 (pa_cons (pv 5) (pa_cons (pv 1) (pa_cons (pe_callC (ok_cases_of_turns T) (hr.mono (by omega)) rfl (T.g "cases_of_turns") pass0 (pa_cons (pv 0) (pa_cons (pv 2) (pa_cons (pv 4) pa_nil)))) (pa_cons (pe_callB (cr_sum rfl) rfl (T.f "sum") (by decide +kernel) (pa_cons (pv 4) pa_nil)) pa_nil))))))
  (pss_cons (ps_set (i := 7) nod rfl (Or.inl rfl) (pe_lst pa_nil))
  (pss_cons (ps_set (i := 8) nod rfl (Or.inl rfl) pe_int)
  (pss_cons (ps_for PassesOwn.never rfl (pi_list (pv 4)) (pg_name (i := 9) nod rfl (Or.inl rfl))
    (pss_cons (ps_expr (pe_bm PySem.F.plainAttrs_list PySem.F.slot_list_append PySem.F.type_list_append mt_append (pv 7) (pa_cons (pe_op op_andN (pe_callB (cr_sum rfl) rfl (T.f "sum") (by decide +kernel) (pa_cons (pe_slice sl_list (pv 6) (po_some (pv 8)) (po_some (pe_op op_add (pv 8) (pv 9)))) pa_nil)) (pe_op op_sub (pe_op op_shl pe_int (pv 1)) pe_int)) pa_nil)))
    (pss_one (ps_set (i := 8) nod rfl (Or.inl rfl) (pe_op op_add (pv 8) (pv 9))))))
  (pss_one (ps_ret (pv 7))))))))), ?_⟩
  obtain ⟨i, b, f, a, cd, w, kvs, es, rfl, hd, n1, I, q⟩ := h
  obtain ⟨y, x, ⟨dx, t, ha, et⟩, hb, hx⟩ := Sum.parts I.at_
  have ok := I.ok
  simp only [Fo.Ok] at ok
  obtain ⟨bp, bd⟩ := Fo.leaf_sizes ok.2.1
  have IT := T.ins "Sum" (by decide +kernel)
  have nt := IT.no "things" (by decide +kernel)
  have pos : ∀ e ∈ es, 0 ≤ b.val (2 ^ w) e := fun e he => (Fo.val_word (two_pos w) b e (I.wd e he).bound).1
  have lcc := I.lc
  rw [cntL_sum] at lcc
  refine ⟨_, rfl, a, _, dx, _, _, rfl, ha, IT.cl, nt, rfl, t, _, _, .ref y, rfl, rfl, SqT.of et, rfl, _, rfl, _, rfl, _, rfl, b, y, cd, w, kvs, es, rfl, by omega, I.bound hb, fun bl H1 s1 ebl => ?_⟩
  refine ⟨_, rfl, a, _, dx, _, _, rfl, s1 _ _ ha, IT.cl, nt, rfl, t, _, _, .ref x, rfl, rfl, SqT.of (s1 _ _ et), rfl, ?_⟩
  refine ⟨_, rfl, _, rfl, _, rfl, _, rfl, _, rfl, i, b, f, a, cd, bl, 2 ^ w, kvs, es, rfl, (I.same s1).at_, ok.2.2.2.2.2, I.fit.kid (by simp [Fo.kids]), I.p.kid (by simp [Fo.kids]), (I.same s1).cd, (I.same s1).cas, ebl, pos, by omega, I.le, fun nd H2 kvs' s2 ed c2 => ?_⟩
  have s02 := s1.trans s2
  refine ⟨_, rfl, bl, es.map (b.val (2 ^ w)), rfl, by rw [← sum_ints]; exact SqL.of (s2 _ _ ebl), ?_⟩
  have IB := (I.same s02).body (hx.same s02) ed c2
  refine ⟨f, x, nd, w, kvs', rowsOf (2 ^ w) i b es, by rw [ints_sum _ _ _ pos, rows_len]; rfl, hd, IB, fun wl H3 s3 ewl => ?_⟩
  have s03 := s02.trans s3
  refine ⟨tsz (by show 0 ≤ 1000000; decide), fun fl hfl => ?_⟩
  have s4 := upd_new (o := .lst []) hfl
  have efl : (upd H3 fl (.lst [])) fl = some (.lst []) := upd_same
  have hfl0 : H fl = none := none_back s03 hfl
  have nwl : wl ≠ fl := fun z => by rw [z, hfl] at ewl; cases ewl
  have ebl3 := (s2.trans s3) _ _ ebl
  have nbl : bl ≠ fl := fun z => by rw [z, hfl] at ebl3; cases ebl3
  have ebl4 := s4 _ _ ebl3
  have ewl4 := s4 _ _ ewl
  have hback : ∀ H', SameBut fl (upd H3 fl (.lst [])) H' → Same H H' := fun H' B p o e => B p o (fun z => by rw [z, hfl0] at e; cases e) (s4 _ _ (s03 _ _ e))
  generalize upd H3 fl (.lst []) = H4 at efl ebl4 ewl4 hback
  have le := I.le
  have w1 := I.w1
  refine ⟨_, rfl, bl, rfl, ⟨_, SqL.of ebl4⟩, for_list (xs := es.map fun e => V.int (b.val (2 ^ w) e)) (fun j σ H' => ∃ v, σ = [some (.ref a), some (.int w), some (.ref cd), some (.int es.length), some (.ref bl), some (.ref x), some (.ref wl), some (.ref fl), some (.int ((rowsOf (2 ^ w) i b (es.take j)).length : Nat)), v] ∧ SameBut fl H4 H' ∧ H' fl = some (.lst (wordsOf w (.sum i b f) (es.take j))))
    ⟨none, rfl, SameBut.refl, efl⟩ (fun j σ H' _ ⟨v, _, B, _⟩ => SqL.of (B _ _ nbl ebl4)) ?_ ?_⟩
  · rintro j x' σ H5 hx' ⟨v, rfl, B5, e5⟩
    obtain ⟨e, hek, rfl⟩ := map_at hx'
    have hb0 := pos e (List.mem_of_getElem? hek)
    have r1 := rows_one (s := 2 ^ w) (i := i) (b := b) hek
    have wlen : (wordsOf w f (rowsOf (2 ^ w) i b es)).length = (rowsOf (2 ^ w) i b es).length := by simp [wordsOf]
    have ecut : cutV (wordsOf w f (rowsOf (2 ^ w) i b es)) (some (((rowsOf (2 ^ w) i b (es.take j)).length : Nat) : Int)) (some ((((rowsOf (2 ^ w) i b (es.take j)).length : Nat) : Int) + b.val (2 ^ w) e)) = ((turnsOf (2 ^ w) i b e).map (f.val (2 ^ w))).map V.int := by
      have h := cut_mid (xs := wordsOf w f (rowsOf (2 ^ w) i b es)) (a := (rowsOf (2 ^ w) i b (es.take j)).length) (c := (b.val (2 ^ w) e).toNat) (by omega)
      rw [Int.toNat_of_nonneg hb0] at h
      rw [h, words_drop hek, wordsOf, sum_ints]
    refine ⟨_, rfl, .inl ⟨rfl, _, SqL.of e5⟩, _, rfl, _, rfl, _, rfl, _, rfl, _, rfl, _, _, rfl, rfl, _, rfl, wl, _, rfl, SqL.of (B5 _ _ nwl ewl4), fun p hp => ?_⟩
    have sp := upd_new (o := .lst (cutV (wordsOf w f (rowsOf (2 ^ w) i b es)) (some (((rowsOf (2 ^ w) i b (es.take j)).length : Nat) : Int)) (some ((((rowsOf (2 ^ w) i b (es.take j)).length : Nat) : Int) + b.val (2 ^ w) e)))) hp
    have ep : (upd H5 p (.lst (cutV (wordsOf w f (rowsOf (2 ^ w) i b es)) (some (((rowsOf (2 ^ w) i b (es.take j)).length : Nat) : Int)) (some ((((rowsOf (2 ^ w) i b (es.take j)).length : Nat) : Int) + b.val (2 ^ w) e))))) p = some (.lst (((turnsOf (2 ^ w) i b e).map (f.val (2 ^ w))).map V.int)) := by rw [upd_same, ecut]
    refine ⟨p, _, rfl, SqL.of ep, _, rfl, 1, w, rfl, rfl, ⟨by omega, by omega, by decide⟩, 2 ^ w, 1, mask_eq w, rfl, _, w, rfl, rfl, fl, _, _, rfl, rfl, sp _ _ e5, tlt (by simp [wordsOf]; omega), ?_⟩
    refine ⟨_, rfl, _, rfl, _, _, rfl, rfl, some (.int (b.val (2 ^ w) e)), ?_, (B5.trans (SameBut.of sp)).trans sameBut_upd, ?_⟩
    · have e2 : (rowsOf (2 ^ w) i b (es.take (j + 1))).length = (rowsOf (2 ^ w) i b (es.take j)).length + (b.val (2 ^ w) e).toNat := by
        rw [take_at hek, rowsOf, List.flatMap_append, List.length_append]
        simp [rowsOf, turnsOf]
      rw [e2, Int.natCast_add, Int.toNat_of_nonneg hb0]
      rfl
    · rw [upd_same, take_at hek, words_app, turns_sum]
      rfl
  · rintro σ H5 ⟨v, rfl, B5, e5⟩
    rw [List.length_map, List.take_length] at e5
    exact ⟨_, rfl, q fl H5 (hback H5 B5) e5⟩
theorem sc_words_at : FnScope ["formula", "width", "cases", "many", "mask", "words", "others", "word", "other"] ["formula", "width", "cases", "many"] (defScope s_words_at) := ⟨rfl, rfl, rfl, by decide +kernel, rfl, by decide +kernel, by decide +kernel⟩
theorem ok_words_at (T : Txt K mg) : ∀ n, Cal P w K mg base CX0 (2*n+90) (ga K "words_at") ["formula", "width", "cases", "many"] (spWords K n)
  | 0 => by
    obtain ⟨fd, F⟩ := T.f_words_at
    refine ⟨fd, ⟨fun vs H Q E h => ?_, fun A outer s H args us vs Q E _ _ _ _ h => ?_⟩, F.kp, F.bindsN fun _ _ _ _ _ _ us hl => match us, hl with | [_, _, _, _], _ => rfl⟩
    · obtain ⟨_, _, _, _, _, _, rfl, _⟩ := h
      rfl
    · obtain ⟨_, _, _, _, _, _, _, h, _⟩ := h
      exact absurd h (Nat.not_le_of_lt (Fo.depth_pos _))
  | n + 1 => by
    have GX := ok_words_at T n
    obtain ⟨fd, F⟩ := T.f_words_at
    refine ⟨fd, ?_, F.kp, F.bindsN fun _ _ _ _ _ _ us hl => match us, hl with | [_, _, _, _], _ => rfl⟩
    refine F.ok sc_words_at (fun vs H Q E h => ?_) (fun cdv A outer s H vs Q E hr h => ?_)
    · obtain ⟨_, _, _, _, _, _, rfl, _⟩ := h
      rfl
    have nod := sc_words_at.nd
    have hu := hu_of hr
    refine ⟨_, PSs.nox (pss_cons (ps_set (i := 4) nod rfl (Or.inr rfl) (pe_op op_sub (pe_op op_shl pe_int (pv 1)) pe_int))
    (pss_cons (ps_if (pt_cmpR op_eq (pe_fld (pv 0) rfl) pe_str (nomark _))
      (pss_one (ps_ret (pe_op op_rep (pe_lst (pa_cons (pe_op op_andN (pe_ix ix_tup (pe_fld (pv 0) rfl) pe_int (fun _ _ => rfl)) (pv 4)) pa_nil)) (pv 3))))
      pss_nil)
    (pss_cons (ps_if (pt_cmpR op_eq (pe_fld (pv 0) rfl) pe_str (nomark _))
      (pss_one (ps_ret (pe_dget hu (pv 2) (pe_ix ix_tup (pe_fld (pv 0) rfl) pe_int (fun _ _ => rfl)) (fun _ _ => rfl))))
      pss_nil)
    (pss_cons (ps_if (pt_cmpR op_eq (pe_fld (pv 0) rfl) pe_str (nomark _))
      (pss_one (ps_ret (pe_callC (ok_sums_at T GX (by omega)) (hr.mono (by omega)) rfl (T.g "sums_at") pass0 (pa_cons (pv 0) (pa_cons (pv 1) (pa_cons (pv 2) (pa_cons (pv 3) pa_nil)))))))
      pss_nil)
    (pss_cons (ps_set (i := 5) nod rfl (Or.inl rfl) (pe_callC GX (hr.mono (by omega)) rfl (T.g "words_at") pass0 (pa_cons (pe_ix ix_tup (pe_fld (pv 0) rfl) pe_int (fun _ _ => rfl)) (pa_cons (pv 1) (pa_cons (pv 2) (pa_cons (pv 3) pa_nil))))))
    (pss_cons (ps_if (pt_cmpR op_eq (pe_fld (pv 0) rfl) pe_str (nomark _))
      (pss_one (ps_ret (pe_lc (own := [("word", 7)]) (te := (tOp rAndM (tUn (rU fun i => .int (-i)) (tVar 7)) (tVar 4))) (g := (gName 7)) (tt := tYes) rfl nod (pi_list (pv 5)) (blkOk_by (N := ["formula", "width", "cases", "many", "mask", "words", "others", "word", "other"]) (sc := defScope s_words_at) (by decide +kernel)) (fun _ _ _ _ _ => (pg_name (i := 7) nod rfl (Or.inl rfl))) (fun _ _ _ _ _ => pts_nil) (fun _ _ _ _ _ => (pe_op op_andN (pe_un un_neg (pv 7)) (pv 4))))))
      pss_nil)
    (pss_cons (ps_if (pt_cmpR op_eq (pe_fld (pv 0) rfl) pe_str (nomark _))
      (pss_one (ps_ret (pe_lc (own := [("word", 7)]) (te := (tOp rAndM (tOp (rI CPow fun i j => .int (i * 2 ^ j.toNat)) (tVar 7) (tOp (rIxT K) (tFld K (tVar 0) "things") (tC (.int 1)))) (tVar 4))) (g := (gName 7)) (tt := tYes) rfl nod (pi_list (pv 5)) (blkOk_by (N := ["formula", "width", "cases", "many", "mask", "words", "others", "word", "other"]) (sc := defScope s_words_at) (by decide +kernel)) (fun _ _ _ _ _ => (pg_name (i := 7) nod rfl (Or.inl rfl))) (fun _ _ _ _ _ => pts_nil) (fun _ _ _ _ _ => (pe_op op_andN (pe_op op_shl (pv 7) (pe_ix ix_tup (pe_fld (pv 0) rfl) pe_int (fun _ _ => rfl))) (pv 4))))))
      pss_nil)
    (pss_cons (ps_set (i := 6) nod rfl (Or.inl rfl) (pe_callC GX (hr.mono (by omega)) rfl (T.g "words_at") pass0 (pa_cons (pe_ix ix_tup (pe_fld (pv 0) rfl) pe_int (fun _ _ => rfl)) (pa_cons (pv 1) (pa_cons (pv 2) (pa_cons (pv 3) pa_nil))))))
    (pss_cons (ps_if (pt_cmpR op_eq (pe_fld (pv 0) rfl) pe_str (nomark _))
      (pss_one (ps_ret (pe_lc (own := [("word", 7), ("other", 8)]) (te := (tOp rAndM (tOp (rI0 fun i j => .int (i + j)) (tVar 7) (tVar 8)) (tVar 4))) (g := (gTup K 2 (gCons (gName 7) (gCons (gName 8) gNil)))) (tt := tYes) rfl nod (pi_zip rfl (T.f "zip") (pa_cons (pv 5) (pa_cons (pv 6) pa_nil))) (blkOk_by (N := ["formula", "width", "cases", "many", "mask", "words", "others", "word", "other"]) (sc := defScope s_words_at) (by decide +kernel)) (fun _ _ _ _ _ => (pg_tup rfl (pgs_cons (pg_name (i := 7) nod rfl (Or.inl rfl)) (pgs_cons (pg_name (i := 8) nod rfl (Or.inl rfl)) pgs_nil)))) (fun _ _ _ _ _ => pts_nil) (fun _ _ _ _ _ => (pe_op op_andN (pe_op op_add (pv 7) (pv 8)) (pv 4))))))
      pss_nil)
    (pss_cons (ps_if (pt_cmpR op_eq (pe_fld (pv 0) rfl) pe_str (nomark _))
      (pss_one (ps_ret (pe_lc (own := [("word", 7), ("other", 8)]) (te := (tOp rAndM (tOp (rI0 fun i j => .int (i - j)) (tVar 7) (tVar 8)) (tVar 4))) (g := (gTup K 2 (gCons (gName 7) (gCons (gName 8) gNil)))) (tt := tYes) rfl nod (pi_zip rfl (T.f "zip") (pa_cons (pv 5) (pa_cons (pv 6) pa_nil))) (blkOk_by (N := ["formula", "width", "cases", "many", "mask", "words", "others", "word", "other"]) (sc := defScope s_words_at) (by decide +kernel)) (fun _ _ _ _ _ => (pg_tup rfl (pgs_cons (pg_name (i := 7) nod rfl (Or.inl rfl)) (pgs_cons (pg_name (i := 8) nod rfl (Or.inl rfl)) pgs_nil)))) (fun _ _ _ _ _ => pts_nil) (fun _ _ _ _ _ => (pe_op op_andN (pe_op op_sub (pv 7) (pv 8)) (pv 4))))))
      pss_nil)
    (pss_one (ps_ret (pe_lc (own := [("word", 7), ("other", 8)]) (te := (tOp rAndM (tOp (rI CMul fun i j => .int (i * j)) (tVar 7) (tVar 8)) (tVar 4))) (g := (gTup K 2 (gCons (gName 7) (gCons (gName 8) gNil)))) (tt := tYes) rfl nod (pi_zip rfl (T.f "zip") (pa_cons (pv 5) (pa_cons (pv 6) pa_nil))) (blkOk_by (N := ["formula", "width", "cases", "many", "mask", "words", "others", "word", "other"]) (sc := defScope s_words_at) (by decide +kernel)) (fun _ _ _ _ _ => (pg_tup rfl (pgs_cons (pg_name (i := 7) nod rfl (Or.inl rfl)) (pgs_cons (pg_name (i := 8) nod rfl (Or.inl rfl)) pgs_nil)))) (fun _ _ _ _ _ => pts_nil) (fun _ _ _ _ _ => (pe_op op_andN (pe_op op_mul (pv 7) (pv 8)) (pv 4)))))))))))))))), ?_⟩
    obtain ⟨f, a, cd, w, kvs, es, rfl, hn, I, q⟩ := h
    obtain ⟨dx, t, th, xs, ha, et, sh, fk⟩ := I.at_.opened
    have IT := T.ins _ f.cls_mem
    have nk := IT.no "kind" (by decide +kernel)
    have nt := IT.no "things" (by decide +kernel)
    have w1 := I.w1
    have le := I.le
    have lc := I.lc
    refine ⟨_, rfl, 1, w, rfl, rfl, ⟨by omega, by omega, by decide⟩, 2 ^ w, 1, mask_eq w, rfl, ?_⟩
    have p64 := two_le w1
    have word : ∀ g ∈ f.kids, (∀ i b a, f ≠ .sum i b a) → ∀ e ∈ es, 0 ≤ g.val (2 ^ w) e ∧ g.val (2 ^ w) e < 2 ^ 64 := fun g hg hne e he => by
      obtain ⟨h1, h2⟩ := Fo.val_word (two_pos w) g e ((I.wd e he).kid hg hne)
      exact ⟨h1, by omega⟩
    have one : ∀ {g x}, FoAts K H [g] [x] → FoAt K H g x := fun {g x} h => by
      simp only [FoAts] at h
      obtain ⟨x', ys, e1, q1, e2⟩ := h
      rw [e2] at e1
      injection e1 with e1
      rw [e1]; exact q1
    cases sh with
    | num m =>
      refine ⟨_, rfl, a, _, dx, _, .str "number", rfl, ha, IT.cl, nk, rfl, rfl, _, rfl, ite2 (fun _ => ?_) (fun h => absurd (by decide +kernel) h)⟩
      refine ⟨_, rfl, a, _, dx, _, _, rfl, ha, IT.cl, nt, rfl, t, _, _, .int m, rfl, rfl, SqT.of et, rfl, _, rfl, m, w, rfl, rfl, tsz (by show 1 ≤ 1000000; decide), fun p hp => ?_⟩
      have sp := upd_new (o := .lst [V.int (m % 2 ^ w)]) hp
      refine ⟨_, rfl, p, _, _, rfl, rfl, upd_same, by omega, by omega, ?_, fun l hl => q l _ (sp.trans (upd_new hl)) ?_⟩
      · rw [Int.toNat_natCast, List.length_singleton, Nat.one_mul]; exact tsz (by omega)
      · rw [upd_same, Int.toNat_natCast]
        congr 2
        have : ∀ es : List (Str → Int), (List.replicate es.length [V.int (m % 2 ^ w)]).flatten = wordsOf w (.num m) es := fun es => by
          induction es with
          | nil => rfl
          | cons e es ih => rw [List.length_cons, List.replicate_succ, List.flatten_cons, ih]; rfl
        exact this es
    | nam z =>
      refine ⟨_, rfl, a, _, dx, _, .str "name", rfl, ha, IT.cl, nk, rfl, rfl, _, rfl, ite2 (fun h => absurd h (by decide +kernel)) (fun _ => ?_)⟩
      refine ⟨_, rfl, a, _, dx, _, .str "name", rfl, ha, IT.cl, nk, rfl, rfl, _, rfl, ite2 (fun _ => ?_) (fun h => absurd (by decide +kernel) h)⟩
      obtain ⟨p, h1, h2⟩ := I.cas z (by simp [Fo.free])
      exact ⟨_, rfl, _, rfl, a, _, dx, _, _, rfl, ha, IT.cl, nt, rfl, t, _, _, .str z, rfl, rfl, SqT.of et, rfl, cd, .ref p, rfl, .inl ⟨kvs, .inr z, .inl I.cd, rfl, h1.symm⟩, q p H (Same.refl _) h2⟩
    | call z fs u _ e => exact I.p.1.no.elim
    | sum i b g y x hb =>
      refine ⟨_, rfl, a, _, dx, _, .str "sum", rfl, ha, IT.cl, nk, rfl, rfl, _, rfl, ite2 (fun h => absurd h (by decide +kernel)) (fun _ => ?_)⟩
      refine ⟨_, rfl, a, _, dx, _, .str "sum", rfl, ha, IT.cl, nk, rfl, rfl, _, rfl, ite2 (fun h => absurd h (by decide +kernel)) (fun _ => ?_)⟩
      refine ⟨_, rfl, a, _, dx, _, .str "sum", rfl, ha, IT.cl, nk, rfl, rfl, _, rfl, ite2 (fun _ => ?_) (fun h => absurd (by decide +kernel) h)⟩
      have gd : g.depth < (Fo.sum i b g).depth := Fo.kid_depth (by simp [Fo.kids])
      have gp := Fo.depth_pos g
      exact ⟨_, rfl, _, rfl, _, rfl, _, rfl, i, b, g, a, cd, w, kvs, es, rfl, by omega, by omega, I, q⟩
    | neg g x =>
      have hgk : g ∈ (Fo.neg g).kids := by simp [Fo.kids]
      have gd := Fo.kid_depth hgk
      refine ⟨_, rfl, a, _, dx, _, .str "negative", rfl, ha, IT.cl, nk, rfl, rfl, _, rfl, ite2 (fun h => absurd h (by decide +kernel)) (fun _ => ?_)⟩
      refine ⟨_, rfl, a, _, dx, _, .str "negative", rfl, ha, IT.cl, nk, rfl, rfl, _, rfl, ite2 (fun h => absurd h (by decide +kernel)) (fun _ => ?_)⟩
      refine ⟨_, rfl, a, _, dx, _, .str "negative", rfl, ha, IT.cl, nk, rfl, rfl, _, rfl, ite2 (fun h => absurd h (by decide +kernel)) (fun _ => ?_)⟩
      refine ⟨_, rfl, a, _, dx, _, _, rfl, ha, IT.cl, nt, rfl, t, _, _, .ref x, rfl, rfl, SqT.of et, rfl, _, rfl, _, rfl, _, rfl, g, x, cd, w, kvs, es, rfl, by omega, I.kid hgk (fun _ _ _ h => nomatch h) (one (by simpa only [Fo.kids] using fk)) (by rw [cntL_neg]; omega), fun l H1 s1 el => ?_⟩
      refine ⟨_, rfl, a, _, dx, _, .str "negative", rfl, s1 _ _ ha, IT.cl, nk, rfl, rfl, _, rfl, ite2 (fun _ => ?_) (fun h => absurd (by decide +kernel) h)⟩
      refine ⟨_, rfl, l, rfl, ⟨_, SqL.of el⟩, fun D hD => lc_map (K := K) (F := fun e => V.int (g.val (2 ^ w) e)) (G := fun e => V.int ((Fo.neg g).val (2 ^ w) e)) el le hD (fun e he H' k s' hk => ⟨rfl, _, rfl, _, rfl, _, rfl, _, w, rfl, rfl, hk⟩) (fun H' s' eD => q D H' (s1.trans s') eD)⟩
    | shl g m x =>
      have hgk : g ∈ (Fo.shl g m).kids := by simp [Fo.kids]
      have gd := Fo.kid_depth hgk
      have ok := I.ok
      simp only [Fo.Ok] at ok
      refine ⟨_, rfl, a, _, dx, _, .str "shift", rfl, ha, IT.cl, nk, rfl, rfl, _, rfl, ite2 (fun h => absurd h (by decide +kernel)) (fun _ => ?_)⟩
      refine ⟨_, rfl, a, _, dx, _, .str "shift", rfl, ha, IT.cl, nk, rfl, rfl, _, rfl, ite2 (fun h => absurd h (by decide +kernel)) (fun _ => ?_)⟩
      refine ⟨_, rfl, a, _, dx, _, .str "shift", rfl, ha, IT.cl, nk, rfl, rfl, _, rfl, ite2 (fun h => absurd h (by decide +kernel)) (fun _ => ?_)⟩
      refine ⟨_, rfl, a, _, dx, _, _, rfl, ha, IT.cl, nt, rfl, t, _, _, .ref x, rfl, rfl, SqT.of et, rfl, _, rfl, _, rfl, _, rfl, g, x, cd, w, kvs, es, rfl, by omega, I.kid hgk (fun _ _ _ h => nomatch h) (one (by simpa only [Fo.kids] using fk)) (by rw [cntL_shl]; omega), fun l H1 s1 el => ?_⟩
      refine ⟨_, rfl, a, _, dx, _, .str "shift", rfl, s1 _ _ ha, IT.cl, nk, rfl, rfl, _, rfl, ite2 (fun h => absurd h (by decide +kernel)) (fun _ => ?_)⟩
      refine ⟨_, rfl, a, _, dx, _, .str "shift", rfl, s1 _ _ ha, IT.cl, nk, rfl, rfl, _, rfl, ite2 (fun _ => ?_) (fun h => absurd (by decide +kernel) h)⟩
      refine ⟨_, rfl, l, rfl, ⟨_, SqL.of el⟩, fun D hD => lc_map (K := K) (F := fun e => V.int (g.val (2 ^ w) e)) (G := fun e => V.int ((Fo.shl g m).val (2 ^ w) e)) el le hD (fun e he H' k s' hk => ?_) (fun H' s' eD => q D H' (s1.trans s') eD)⟩
      have hw := word g hgk (fun _ _ _ h => nomatch h) e he
      exact ⟨rfl, _, rfl, _, rfl, a, _, dx, _, _, rfl, (s1.trans s') _ _ ha, IT.cl, nt, rfl, t, _, _, .int m, rfl, rfl, SqT.of ((s1.trans s') _ _ et), rfl, _, _, rfl, rfl, ⟨ok.1, by omega, by omega⟩, _, rfl, _, w, rfl, rfl, hk⟩
    | bin o g1 g2 x1 x2 =>
      have no : ∀ z : Str, (∀ x ∈ (["plus", "minus", "times"] : List Str), x ≠ z) → ¬ decide (V.str o.str = V.str z) = true := fun z hz e => by
        have e := of_decide_eq_true e
        injection e with e
        exact hz o.str (by rcases o.strs with h | h | h <;> rw [h] <;> simp) e
      have h1k : g1 ∈ (Fo.bin o g1 g2).kids := by simp [Fo.kids]
      have h2k : g2 ∈ (Fo.bin o g1 g2).kids := by simp [Fo.kids]
      have d1 := Fo.kid_depth h1k
      have d2 := Fo.kid_depth h2k
      obtain ⟨hx1, hx2⟩ : FoAt K H g1 x1 ∧ FoAt K H g2 x2 := by
        simp only [Fo.kids, FoAts] at fk
        obtain ⟨x', ys, e1, q1, y', zs, e2, q2, e3⟩ := fk
        rw [e3] at e2
        rw [e2] at e1
        injection e1 with e1 e4
        injection e4 with e4
        rw [e1, e4]; exact ⟨q1, q2⟩
      have c12 := cntL_bin (2 ^ w) o g1 g2 es
      refine ⟨_, rfl, a, _, dx, _, .str o.str, rfl, ha, IT.cl, nk, rfl, rfl, _, rfl, ite2 (fun h => absurd h (no _ (by decide +kernel))) (fun _ => ?_)⟩
      refine ⟨_, rfl, a, _, dx, _, .str o.str, rfl, ha, IT.cl, nk, rfl, rfl, _, rfl, ite2 (fun h => absurd h (no _ (by decide +kernel))) (fun _ => ?_)⟩
      refine ⟨_, rfl, a, _, dx, _, .str o.str, rfl, ha, IT.cl, nk, rfl, rfl, _, rfl, ite2 (fun h => absurd h (no _ (by decide +kernel))) (fun _ => ?_)⟩
      have I1 := I.kid h1k (fun _ _ _ h => nomatch h) hx1 (by omega)
      have I2 := I.kid h2k (fun _ _ _ h => nomatch h) hx2 (by omega)
      refine ⟨_, rfl, a, _, dx, _, _, rfl, ha, IT.cl, nt, rfl, t, _, _, .ref x1, rfl, rfl, SqT.of et, rfl, _, rfl, _, rfl, _, rfl, g1, x1, cd, w, kvs, es, rfl, by omega, I1, fun l1 H1 s1 el1 => ?_⟩
      refine ⟨_, rfl, a, _, dx, _, .str o.str, rfl, s1 _ _ ha, IT.cl, nk, rfl, rfl, _, rfl, ite2 (fun h => absurd h (no _ (by decide +kernel))) (fun _ => ?_)⟩
      refine ⟨_, rfl, a, _, dx, _, .str o.str, rfl, s1 _ _ ha, IT.cl, nk, rfl, rfl, _, rfl, ite2 (fun h => absurd h (no _ (by decide +kernel))) (fun _ => ?_)⟩
      refine ⟨_, rfl, a, _, dx, _, _, rfl, s1 _ _ ha, IT.cl, nt, rfl, t, _, _, .ref x2, rfl, rfl, SqT.of (s1 _ _ et), rfl, _, rfl, _, rfl, _, rfl, g2, x2, cd, w, kvs, es, rfl, by omega, I2.same s1, fun l2 H2 s2 el2 => ?_⟩
      have s02 := s1.trans s2
      have el1 := s2 _ _ el1
      cases o with
      | plus =>
        refine ⟨_, rfl, a, _, dx, _, .str "plus", rfl, s02 _ _ ha, IT.cl, nk, rfl, rfl, _, rfl, ite2 (fun _ => ?_) (fun h => absurd (by decide +kernel) h)⟩
        exact ⟨_, rfl, _, rfl, l1, l2, _, _, rfl, SqL.of el1, SqL.of el2, fun D hD => lc_zip (K := K) (F1 := fun e => V.int (g1.val (2 ^ w) e)) (F2 := fun e => V.int (g2.val (2 ^ w) e)) (G := fun e => V.int ((Fo.bin .plus g1 g2).val (2 ^ w) e)) el1 el2 le hD (fun e he H' Tp k s' hT hk => ⟨Tp, _, rfl, SqT.of hT, rfl, _, _, rfl, _, _, rfl, rfl, rfl, _, rfl, _, rfl, _, _, rfl, rfl, _, rfl, _, w, rfl, rfl, hk⟩) (fun H' s' eD => q D H' (s02.trans s') eD)⟩
      | minus =>
        refine ⟨_, rfl, a, _, dx, _, .str "minus", rfl, s02 _ _ ha, IT.cl, nk, rfl, rfl, _, rfl, ite2 (fun h => absurd h (by decide +kernel)) (fun _ => ?_)⟩
        refine ⟨_, rfl, a, _, dx, _, .str "minus", rfl, s02 _ _ ha, IT.cl, nk, rfl, rfl, _, rfl, ite2 (fun _ => ?_) (fun h => absurd (by decide +kernel) h)⟩
        exact ⟨_, rfl, _, rfl, l1, l2, _, _, rfl, SqL.of el1, SqL.of el2, fun D hD => lc_zip (K := K) (F1 := fun e => V.int (g1.val (2 ^ w) e)) (F2 := fun e => V.int (g2.val (2 ^ w) e)) (G := fun e => V.int ((Fo.bin .minus g1 g2).val (2 ^ w) e)) el1 el2 le hD (fun e he H' Tp k s' hT hk => ⟨Tp, _, rfl, SqT.of hT, rfl, _, _, rfl, _, _, rfl, rfl, rfl, _, rfl, _, rfl, _, _, rfl, rfl, _, rfl, _, w, rfl, rfl, hk⟩) (fun H' s' eD => q D H' (s02.trans s') eD)⟩
      | times =>
        refine ⟨_, rfl, a, _, dx, _, .str "times", rfl, s02 _ _ ha, IT.cl, nk, rfl, rfl, _, rfl, ite2 (fun h => absurd h (by decide +kernel)) (fun _ => ?_)⟩
        refine ⟨_, rfl, a, _, dx, _, .str "times", rfl, s02 _ _ ha, IT.cl, nk, rfl, rfl, _, rfl, ite2 (fun h => absurd h (by decide +kernel)) (fun _ => ?_)⟩
        exact ⟨_, rfl, _, rfl, l1, l2, _, _, rfl, SqL.of el1, SqL.of el2, fun D hD => lc_zip (K := K) (F1 := fun e => V.int (g1.val (2 ^ w) e)) (F2 := fun e => V.int (g2.val (2 ^ w) e)) (G := fun e => V.int ((Fo.bin .times g1 g2).val (2 ^ w) e)) el1 el2 le hD (fun e he H' Tp k s' hT hk => ⟨Tp, _, rfl, SqT.of hT, rfl, _, _, rfl, _, _, rfl, rfl, rfl, _, rfl, _, rfl, _, _, rfl, rfl, .inl ⟨by have := (word g1 h1k (fun _ _ _ h => nomatch h) e he).1; omega, (word g1 h1k (fun _ _ _ h => nomatch h) e he).2⟩, _, rfl, _, w, rfl, rfl, hk⟩) (fun H' s' eD => q D H' (s02.trans s') eD)⟩

end
end KW
set_option Elab.async false
set_option linter.all false
set_option maxRecDepth 100000
set_option maxHeartbeats 8000000
namespace KW
open PySem PySem.Spec PyProof.Rows L2 He Sw L2H
section
variable {P : Program} {w : World} {K : PySem.W.Frag} {mg : Str → Option Value} {base : Heap}
/-! ### words, widths and values that are refused -/
def Pl (v : V) : Prop := (∃ b, v = .bl b) ∨ (∃ i, v = .int i) ∨ v = .str "1"
theorem Pl.th {H : Hp} {v : V} (h : Pl v) : ∃ n, Th H v n := by
  rcases h with ⟨b, rfl⟩ | ⟨i, rfl⟩ | rfl
  · exact ⟨_, .bl b⟩
  · exact ⟨_, .int i⟩
  · exact ⟨_, .str _ (by decide +kernel)⟩
def isWd (bw : Nat) : V → Bool
  | .int i => decide (0 ≤ i ∧ i < 2 ^ bw)
  | _ => false
theorem isWd_int {bw : Nat} {v : V} (h : isWd bw v = true) : ∃ i, v = .int i ∧ 0 ≤ i ∧ i < 2 ^ bw := by
  cases v <;> first | exact ⟨_, rfl, of_decide_eq_true h⟩ | cases h
def spIsWordG : Sp := fun vs H Q _ => ∃ (v : V) (n : String) (bw : Nat), vs = [v, .int bw] ∧ Th H v n ∧ bw ≤ 64 ∧ Q (.bl (isWd bw v)) H
theorem scA_isWordG : FnScope ["thing", "width"] ["thing", "width"] (defScope s_is_word) := ⟨rfl, rfl, rfl, by decide +kernel, rfl, by decide +kernel, by decide +kernel⟩
theorem isWordG (T : Txt K mg) : Cal P w K mg base CX0 (2) (ga K "is_word") ["thing", "width"] spIsWordG := by
  obtain ⟨fd, F⟩ := T.f_is_word
  refine ⟨fd, ?_, F.kp, F.bindsN fun _ _ _ _ _ _ us hl => match us, hl with | [_, _], _ => rfl⟩
  refine F.ok scA_isWordG (fun vs H Q E h => ?_) (fun cdv A outer s H vs Q E hr h => ?_)
  · obtain ⟨_, _, _, rfl, _⟩ := h
    rfl
  have nod := scA_isWordG.nd
  have hu := hu_of hr
  refine ⟨_, PSs.nox (pss_one (ps_ret (pe_and (pe_callC (c_is_integer T) (hr.mono (by omega)) rfl (T.g "is_integer") pass0 (pa_cons (pv 0) pa_nil)) (pe_one (pe_chain op_le op_lt pe_int (pv 0) (pe_op op_shl pe_int (pv 1))))))), ?_⟩
  obtain ⟨v, n, bw, rfl, t, w1, q⟩ := h
  refine ⟨_, rfl, v, n, rfl, t, _, rfl, ?_⟩
  by_cases hI : isI v = true
  · obtain ⟨i, rfl⟩ : ∃ i, v = .int i := by cases t <;> first | exact ⟨_, rfl⟩ | cases hI
    refine ite2 (fun _ => ?_) (fun h => absurd rfl h)
    refine ⟨_, rfl, _, _, rfl, rfl, _, rfl, ?_⟩
    by_cases i0 : 0 ≤ i
    · refine ite2 (fun h => ?_) (fun h => absurd (decide_eq_true i0) h)
      refine ⟨_, rfl, _, _, rfl, rfl, ⟨by omega, by omega, by decide⟩, _, _, rfl, rfl, ?_⟩
      rw [shl1]
      show Q (V.bl (decide (i < 2 ^ bw))) H
      rw [show decide (i < 2 ^ bw) = isWd bw (.int i) by simp [isWd, i0]]
      exact q
    · refine ite2 (fun h => absurd (of_decide_eq_true h) i0) (fun _ => ?_)
      rw [show isWd bw (.int i) = false by simp [isWd, i0]] at q
      exact q
  · refine ite2 (fun h => absurd h hI) (fun _ => ?_)
    have e : isWd bw v = false := by cases t <;> first | rfl | exact absurd rfl hI
    rw [e] at q
    exact q
def isWth : V → Bool
  | .int i => decide (1 ≤ i ∧ i ≤ 64)
  | _ => false
theorem isWth_int {v : V} (h : isWth v = true) : ∃ bw : Nat, v = .int bw ∧ 1 ≤ bw ∧ bw ≤ 64 := by
  cases v with
  | int i =>
    have h := of_decide_eq_true h
    exact ⟨i.toNat, by rw [Int.toNat_of_nonneg (by omega)], by omega, by omega⟩
  | _ => cases h
def spCkW (K : PySem.W.Frag) : Sp := fun vs H Q E => ∃ (v : V) (n : String), vs = [v] ∧ Th H v n ∧ (isWth v = true → Q .non H) ∧ (isWth v = false → RaisesC K "BadWidth" H v E)
theorem scE_check_width : FnScope ["thing"] ["thing"] (defScope s_check_width) := ⟨rfl, rfl, rfl, by decide +kernel, rfl, by decide +kernel, by decide +kernel⟩
theorem okE_check_width (T : Txt K mg) : Cal P w K mg base (L2N.CX P w) (4) (ga K "check_width") ["thing"] (spCkW K) := by
  obtain ⟨fd, F⟩ := T.f_check_width
  obtain ⟨fdB_BadWidth, GB_BadWidth, kB_BadWidth, bB_BadWidth⟩ := ok_BadWidth___init__ (P := P) (w := w) (base := base) T
  have TB_BadWidth := T.err "BadWidth" (by decide +kernel)
  refine ⟨fd, ?_, F.kp, F.bindsN fun _ _ _ _ _ _ us hl => match us, hl with | [_], _ => rfl⟩
  refine F.ok scE_check_width (fun vs H Q E h => ?_) (fun cdv A outer s H vs Q E hr h => ?_)
  · obtain ⟨_, _, rfl, _⟩ := h
    rfl
  have nod := scE_check_width.nd
  have hu := hu_of hr
  refine ⟨_, (pss_one (ps_if (PW.pt (pw_or (pt_not (pt_val (pe_callC (c_is_integer T) (hr.mono (by omega)) rfl (T.g "is_integer") pass0 (pa_cons (pv 0) pa_nil)))) (pw_or1 (pt_not (pt_chain op_le op_le pe_int (pv 0) (pe_gi (n := 64) rfl T.mWid))))))
    (pss_one (L2N.ps_raise rfl (L2N.takes_of rfl rfl rfl rfl) (pmkN_oex (x := "BadWidth") TB_BadWidth.o TB_BadWidth.ini TB_BadWidth.inT GB_BadWidth (hr.mono (by omega)) bB_BadWidth .nil pass0 rfl (T.g "BadWidth") (pa_cons (pv 0) pa_nil))))
    pss_nil)), ?_⟩
  obtain ⟨v, n, rfl, t, q, r⟩ := h
  refine ⟨_, rfl, v, n, rfl, t, _, rfl, ?_⟩
  by_cases hI : isI v = true
  · obtain ⟨i, rfl⟩ : ∃ i, v = .int i := by cases t <;> first | exact ⟨_, rfl⟩ | cases hI
    refine ite2 (fun h => Bool.noConfusion (show false = true from h)) (fun _ => ?_)
    refine ⟨_, rfl, _, _, rfl, rfl, _, rfl, ?_⟩
    by_cases i1 : 1 ≤ i
    · refine ite2 (fun h => ?_) (fun h => absurd (decide_eq_true i1) h)
      refine ⟨_, _, rfl, rfl, _, rfl, ?_⟩
      by_cases i2 : i ≤ 64
      · refine ite2 (fun h => ?_) (fun _ => q (by simp [isWth, i1, i2]))
        have h : (!decide (i ≤ 64)) = true := h
        rw [decide_eq_true i2] at h
        cases h
      · refine ite2 (fun h => ?_) (fun h => absurd (show (!decide (i ≤ 64)) = true by rw [decide_eq_false i2]; rfl) h)
        exact ⟨_, rfl, by show 1 ≤ 1000; decide, err_made TB_BadWidth fun H2 d s2 hd hx => r (by simp [isWth, i2]) H2 d s2 hd hx⟩
    · refine ite2 (fun h => absurd (of_decide_eq_true h) i1) (fun _ => ?_)
      refine ⟨_, rfl, ?_⟩
      refine ite2 (fun _ => ?_) (fun h => absurd (show (!false) = true from rfl) h)
      exact ⟨_, rfl, by show 1 ≤ 1000; decide, err_made TB_BadWidth fun H2 d s2 hd hx => r (by simp [isWth, i1]) H2 d s2 hd hx⟩
  · have e : isWth v = false := by cases t <;> first | rfl | exact absurd rfl hI
    have e2 : isI v = false := by cases h : isI v <;> first | rfl | exact absurd h hI
    rw [e2]
    refine ite2 (fun _ => ?_) (fun h => absurd (show (!false) = true from rfl) h)
    refine ite2 (fun _ => ?_) (fun h => absurd rfl h)
    exact ⟨_, rfl, by show 1 ≤ 1000; decide, err_made TB_BadWidth fun H2 d s2 hd hx => r e H2 d s2 hd hx⟩
/-- what is no dict -/
inductive ND (H : Hp) : V → Prop
  | non : ND H .non
  | int (i : Int) : ND H (.int i)
  | str (z : Str) : ND H (.str z)
  | lst {a : Addr} {xs : List V} : H a = some (.lst xs) → ND H (.ref a)
  | tup {a : Addr} {xs : List V} : H a = some (.tup xs) → ND H (.ref a)
theorem ND.ty {H : Hp} {v : V} (h : ND H v) : ∃ n : String, TyX K H v (.type n) ∧ PySem.W.kitOne K (.type n) (.type "dict") = some false := by
  cases h with
  | non => exact ⟨"NoneType", .base .non, kit_ty (show kitB _ _ = some false by decide +kernel)⟩
  | int i => exact ⟨"int", .base (.int i), kit_ty (show kitB _ _ = some false by decide +kernel)⟩
  | str z => exact ⟨"str", .base (.str z), kit_ty (show kitB _ _ = some false by decide +kernel)⟩
  | lst e => exact ⟨"list", .base (.lst e), kit_ty (show kitB _ _ = some false by decide +kernel)⟩
  | tup e => exact ⟨"tuple", .base (.tup e), kit_ty (show kitB _ _ = some false by decide +kernel)⟩
theorem ND.same {H H' : Hp} {v : V} (h : ND H v) (s : Same H H') : ND H' v := by
  cases h with
  | non => exact .non
  | int i => exact .int i
  | str z => exact .str z
  | lst e => exact .lst (s _ _ e)
  | tup e => exact .tup (s _ _ e)
/-- what the values tell of a name: None where they are no dict or lack it -/
inductive ValsAt (H : Hp) : V → (Str → V) → Prop
  | dict {vd : Addr} {kvs : List (Key × V)} : H vd = some (.dK kvs) → (∀ z v, valV kvs (.inr z) = some v → Pl v) → ValsAt H (.ref vd) (fun z => (valV kvs (.inr z)).getD .non)
  | no {v : V} : ND H v → ValsAt H v (fun _ => .non)
theorem ValsAt.same {H H' : Hp} {v : V} {g : Str → V} (h : ValsAt H v g) (s : Same H H') : ValsAt H' v g := by
  cases h with
  | dict e p => exact .dict (s _ _ e) p
  | no n => exact .no (n.same s)
def spCkV (K : PySem.W.Frag) : Sp := fun vs H Q E => ∃ (l : Addr) (v : V) (zs : List Str) (bw : Nat) (g : Str → V), vs = [.ref l, .int bw, v] ∧ H l = some (.lst (zs.map V.str)) ∧ bw ≤ 64 ∧ ValsAt H v g ∧ ((∀ z ∈ zs, isWd bw (g z) = true) → Q .non H) ∧
  (∀ j z, zs[j]? = some z → (∀ y ∈ zs.take j, isWd bw (g y) = true) → isWd bw (g z) = false → RaisesC K "BadValue" H (.str z) E)
theorem scE_check_values : FnScope ["names", "width", "values", "name"] ["names", "width", "values"] (defScope s_check_values) := ⟨rfl, rfl, rfl, by decide +kernel, rfl, by decide +kernel, by decide +kernel⟩
theorem okE_check_values (T : Txt K mg) : Cal P w K mg base (L2N.CX P w) (4) (ga K "check_values") ["names", "width", "values"] (spCkV K) := by
  obtain ⟨fd, F⟩ := T.f_check_values
  obtain ⟨fdB_BadValue, GB_BadValue, kB_BadValue, bB_BadValue⟩ := ok_BadValue___init__ (P := P) (w := w) (base := base) T
  have TB_BadValue := T.err "BadValue" (by decide +kernel)
  refine ⟨fd, ?_, F.kp, F.bindsN fun _ _ _ _ _ _ us hl => match us, hl with | [_, _, _], _ => rfl⟩
  refine F.ok scE_check_values (fun vs H Q E h => ?_) (fun cdv A outer s H vs Q E hr h => ?_)
  · obtain ⟨_, _, _, _, _, rfl, _⟩ := h
    rfl
  have nod := scE_check_values.nd
  have hu := hu_of hr
  refine ⟨_, (pss_one (ps_for PassesOwn.leaving rfl (pi_list (pv 0)) (pg_name (i := 3) nod rfl (Or.inl rfl))
    (pss_one (ps_if (PW.pt (pw_or (pt_not (pt_val (pe_callB call_isi rfl (T.f "isinstance") (by decide +kernel) (pa_cons (pv 2) (pa_cons (pe_bltn (v := .ty "dict") rfl (T.f "dict") (by decide +kernel) rfl) pa_nil))))) (pw_or1 (pt_not (pt_val (pe_callC (isWordG T) (hr.mono (by omega)) rfl (T.g "is_word") pass0 (pa_cons (pe_dget1 hu (pv 2) (pv 3) ⟨rfl, rfl, rfl, rfl⟩) (pa_cons (pv 1) pa_nil))))))))
      (pss_one (L2N.ps_raise rfl (L2N.takes_of rfl rfl rfl rfl) (pmkN_oex (x := "BadValue") TB_BadValue.o TB_BadValue.ini TB_BadValue.inT GB_BadValue (hr.mono (by omega)) bB_BadValue .nil pass0 rfl (T.g "BadValue") (pa_cons (pv 3) pa_nil))))
      pss_nil)))), ?_⟩
  obtain ⟨l, v, zs, bw, g, rfl, el, w1, va, q, r⟩ := h
  refine ⟨_, rfl, l, rfl, ⟨_, SqL.of el⟩, for_list (xs := zs.map V.str) (fun j σ H' => (∃ v', σ = [some (.ref l), some (.int bw), some v, v']) ∧ H' = H ∧ ∀ y ∈ zs.take j, isWd bw (g y) = true) ⟨⟨none, rfl⟩, rfl, fun y hy => by simp at hy⟩ (fun i σ H' _ ⟨_, eH, _⟩ => by rw [eH]; exact SqL.of el) ?_ ?_⟩
  · rintro j x σ H' hx ⟨⟨v', rfl⟩, rfl, hd⟩
    obtain ⟨z, hz, rfl⟩ := map_at hx
    cases va with
    | no nd =>
      obtain ⟨n, ty, kt⟩ := nd.ty (K := K)
      refine ⟨_, rfl, v, _, _, .type "dict", false, rfl, .ty _, ty, kt, _, rfl, ?_⟩
      refine ite2 (fun _ => ?_) (fun h => absurd (show (!false) = true from rfl) h)
      refine ite2 (fun _ => ?_) (fun h => absurd rfl h)
      exact ⟨_, rfl, by show 1 ≤ 1000; decide, err_made TB_BadValue fun H2 d s2 hd2 hx2 => r j z hz hd rfl H2 d s2 hd2 hx2⟩
    | @dict vd kvs ed pl =>
      refine ⟨_, rfl, .ref vd, _, _, .type "dict", true, rfl, .ty _, .base (.dK ed), kit_ty (show kitB _ _ = some true by decide +kernel), _, rfl, ?_⟩
      refine ite2 (fun h => Bool.noConfusion (show false = true from h)) (fun _ => ?_)
      have th : ∃ n, Th H' ((valV kvs (.inr z)).getD .non) n := by
        cases e : valV kvs (.inr z) with
        | none => exact ⟨_, .non⟩
        | some v => exact (pl z v e).th
      obtain ⟨n, th⟩ := th
      refine ⟨_, rfl, _, rfl, .inl ⟨kvs, .inl ed⟩, _, rfl, _, .inl ⟨kvs, .inr z, .inl ed, rfl, rfl⟩, ?_⟩
      refine ⟨_, rfl, _, n, bw, rfl, th, w1, _, rfl, ?_⟩
      cases e : isWd bw ((valV kvs (.inr z)).getD .non) with
      | true =>
        refine ite2 (fun h => Bool.noConfusion (show false = true from h)) (fun _ => ⟨⟨_, rfl⟩, rfl, fun y hy => ?_⟩)
        rw [take_at hz] at hy
        rcases List.mem_append.mp hy with hy | hy
        · exact hd y hy
        · rw [List.mem_singleton.mp hy]; exact e
      | false =>
        refine ite2 (fun _ => ?_) (fun h => absurd (show (!false) = true from rfl) h)
        exact ⟨_, rfl, by show 1 ≤ 1000; decide, err_made TB_BadValue fun H2 d s2 hd2 hx2 => r j z hz hd e H2 d s2 hd2 hx2⟩
  · rintro σ H' ⟨⟨v', rfl⟩, rfl, hd⟩
    rw [List.length_map, List.take_length] at hd
    exact q hd

end
end KW
set_option Elab.async false
set_option linter.all false
set_option maxRecDepth 100000
set_option maxHeartbeats 4000000
namespace Sw
open PySem PySem.Spec PyProof.Rows L2 PySem.W
section
variable {prog : Program} {w : World} {K : Frag} {A : Around} {s : Shared} {E : Value → Shared → Prop} {x C f : Addr} {ox : Obj} {od : Option Obj}
/-- an own operator whose right side is a value of a built-in type, on the heap or not -/
theorem own_binB {op : Operator} {T : String} {u : Value} {Q : Value → Shared → Prop} (X : K.In s.heap) (Ia : W.InstAt s.heap x ox C od) (Lu : Looks (model prog w) s.heap (typeOf u) (.type T)) (B : BinT K op.info.2 C f T)
    (h : wpAny (model prog w) A (call (.ref f) [.ref x, u]) (W.CmpBack Q) E s) : wpAny (model prog w) A (binaryOp op (.ref x) u) Q E s := by
  obtain ⟨fo, ro, sT, rT⟩ := B.sT
  have hsub := B.sub
  have fC := B.fC
  have sC := B.sC
  have sF := B.sF
  have rC := B.rC
  obtain ⟨cd, rest, hcd, hm⟩ := ksp_first fC
  rcases hi : op.info with ⟨sym, nm'⟩
  rw [hi] at sC rC sT rT
  dsimp only at sC rC sT rT
  obtain ⟨hp, gg, dr, t, os⟩ := s
  have one := ksp_try (s := ⟨hp, gg, dr, t, os⟩) X Ia sC sF h
  have Lx : Looks (model prog w) hp (typeOf (.ref x)) (.ref C) := Ia.type
  have Lu : Looks (model prog w) hp (typeOf u) (.type T) := Lu
  have La : Looks (model prog w) hp (fillsNumberSlot (.ref C) nm') true := fills_K X hcd hm sC
  have Lb := ksp_fillsT (M := model prog w) (nm := nm') X sT rT
  have Lc : Looks (model prog w) hp (isSubtype (.type T) (.ref C)) false := looks_subIn X hsub
  have Ld : Looks (model prog w) hp (numberSlotInPython (.ref C) nm') true := ksp_inPy X sC rC (.inl rfl)
  have Le : Looks (model prog w) hp (numberSlotInPython (.type T) nm') false := Looks.of_pure rfl
  have Lf : Looks (model prog w) hp (typeLookup (.type T) (dunderR nm')) ro := looks_findIn X rT
  have hne : (Value.ref C == Value.type T) = false := Bool.eq_false_iff.mpr fun q => nomatch beq_iff_eq.mp q
  simp only [binaryOp, hi]
  refine wpAny_holding (wpAny_bind ?_)
  unfold binaryOp1
  refine wpAny_bind (Lx.at (wpAny_bind (Lu.at (wpAny_bind (La.at ?_)))))
  simp only [hne, Bool.false_eq_true, if_false]
  generalize ((fo.isSome && !isSeqSlot fo) || (ro.isSome && !isSeqSlot ro)) = right at Lb
  have fin : ∀ {m : Option Value → Sem Value}, (∀ v s', Q v s' → wpAny (model prog w) A (m (some v)) Q E s') → wpAny (model prog w) A (tryMethod (.ref x) (PySem.dunder nm') u >>= m) Q E ⟨hp, gg, dr, t, os⟩ := fun {m} hm =>
    wpAny_bind (wpAny_mono one (fun r s' ⟨v, e, q⟩ => by rw [e]; exact hm v s' q) fun _ _ e => e)
  cases right <;> (ksp_lk; refine wpAny_mono one (fun r s' ⟨v, e, q⟩ => ?_) (fun _ _ e => e); subst e; ksp_lk; exact q)
end
end Sw
namespace Sw
open PySem PySem.Spec PyProof.Rows L2
section
variable {X : Cx} {CX : CXT} {k : Nat} {f : Addr} {ps : List Str} {sp : Sp} {E : XK}
/-- x op y, y of a built-in type -/
def rOwnB (K : PySem.W.Frag) (nm : String) (f : Addr) (sp : Sp) (E : XK) : R2 := fun x y H Q => ∃ (a C dx : Addr) (fs : List (Str × V)) (T : String), x = .ref a ∧ H a = some (.ins C dx fs) ∧ TyX K H y (.type T) ∧ BinT K nm C f T ∧ sp [.ref a, y] H (QRef Q) E
theorem op_ownBC {op : Operator} (F : Cal X.prog X.w X.K X.mg X.base CX k f ps sp) (hr : Room k X.A) (hx : Passes CX X E) : OpR X (binaryOp op) (rOwnB X.K op.info.2 f sp E) := by
  obtain ⟨fd, F, hk, hb⟩ := F
  intro pins s σ H x y v u Q I rx ry h
  obtain ⟨a, C, dx, fs, T, rfl, ea, ty, P, q⟩ := h
  obtain rfl : v = Value.ref a := rx
  obtain ⟨mA, O, _⟩ := ins_get I.hok ea
  obtain ⟨oda, Ia, _⟩ := O.look
  obtain ⟨Pr, kx, pr, _⟩ := kit_of I ry ty
  exact own_binB I.kIn Ia (kx.ty _ _ I.kIn pr) P (run_back (vs := [.ref a, y]) F hr hb hx I (.cons rfl (.cons ry .nil)) q)
end
end Sw
set_option Elab.async false
set_option linter.all false
set_option maxRecDepth 100000
set_option maxHeartbeats 4000000
namespace PySem.SeqAt
open AutoSeq1 (wpAny_loadPart')
open MeetsSeq
theorem swAA_str_dict (b : Str) (u : Tok) (l : Addr) (o : Obj) (hc : o.cls = .type "dict") (hd : ∃ es n, o.data = .dict es n) :
    Meets (Builtin.«str.__eq__» ⟨[.str b u, .ref l], []⟩) (fun _ R s => s.heap.get? l = some o ∧ R (.ok (.ret .notImplemented)) s) :=
  .of_wp fun prog w A R s h => by obtain ⟨c, dd, da, sl⟩ := o; obtain ⟨es, n, hd⟩ := hd; simp only at hc hd; subst hc hd; obtain ⟨hp, g, d, tk, os⟩ := s; obtain ⟨hl, h⟩ := h; wp_walk using wpAny_loadPart' hl, wpAny_load hl; exact ⟨_, rfl, h⟩
theorem swAA_dict_str {prog : Program} {w : World} {A : Around} {E : Value → Shared → Prop} {s : Shared} {d : Addr} {b : Str} {u : Tok} {Q : Value → Shared → Prop} (hT : s.TypeIs (.ref d) "dict") (h : Q .notImplemented s) :
    wpAny (model prog w) A (call (.builtin "dict.__eq__") [.ref d, .str b u]) Q E s := by
  refine wpAny_call_entry PySem.F.slot_dict_eq_refl hT PySem.F.entry_dict_eq ?_ (PySem.F.args_dict_eq_2 _ _)
  show wpAny _ _ (Builtin.Dict.dictSlotArgs "__eq__" ⟨[.ref d, .str b u], []⟩ >>= _) _ _ s
  refine wpAny_bind ?_
  unfold Builtin.Dict.dictSlotArgs
  refine wpAny_bind (wpAny_notOrdered_dict hT ?_)
  show wpAny _ _ (pure (Value.ref d, Value.str b u)) _ _ s
  refine wpAny_pure ?_
  refine wpAny_bind (wpAny_isInstance (T := "str") (typeIs_str s b u) PySem.F.sub_str_dict ?_)
  simp only [Bool.not_false, if_true]
  exact wpAny_bind (wpAny_rule (wpAny_pure ⟨_, rfl, h⟩))
theorem swAA_eq {A : Around} {s : Shared} {d : Addr} {o : Obj} (b : Str) (u : Tok) (ho : s.heap.get? d = some o) (hc : o.cls = .type "dict") (hd : ∃ es n, o.data = .dict es n) (hu : A.units < cLine) : EqAt A s (.str b u) (.ref d) false := fun prog w E Q h => by
  have hT : s.TypeIs (.ref d) "dict" := ⟨o, ho, hc⟩
  unfold eqBool
  refine wpAny_holding ?_
  refine wpAny_ite_split (fun hab => absurd (eq_of_beq hab) nofun) (fun _ => ?_)
  refine wpAny_bind ?_
  exact rc_eq_decline_or (k := false) (typeIs_str s b u) hT (by decide) F.sub_dict_str F.slot_str_eq F.slot_dict_eq_refl
    (fun _ hq => call_meets F.slot_str_eq (typeIs_str s b u) F.entry_str_eq (F.args_str_eq_2 _ _) (swAA_str_dict b u d o hc hd) ⟨ho, hq⟩)
    (fun _ hq => swAA_dict_str hT hq)
    (fun _ hq => wpAny_of_eq (rfl : isSame (.str b u) (.ref d) = pure false) hq) (.inr hu) (wpAny_truthy_bool h)
end PySem.SeqAt
namespace Sw
open PySem PySem.Spec PyProof.Rows L2
/-- x in a list of texts, x a list, a tuple or a dict -/
def rInT (K : PySem.W.Frag) (neg : Bool) : R2 := fun x y H Q => ∃ (p a : Addr) (zs : List Str), x = .ref a ∧ y = .ref p ∧ H p = some (.lst (zs.map V.str)) ∧ ((∃ xs, SqL K H a xs) ∨ (∃ xs, SqT K H a xs) ∨ ∃ kvs, H a = some (.dK kvs)) ∧ Q (.bl neg) H
theorem strs_vals {zs : List Str} {us : List Value} (h : Vals (zs.map V.str) us) : ∀ u ∈ us, ∃ b t, u = Value.str b t := by
  induction zs generalizing us with
  | nil => cases h; intro u hu; cases hu
  | cons z zs ih =>
    cases h with
    | cons r t =>
      intro u hu
      rcases List.mem_cons.mp hu with rfl | hu
      · obtain ⟨t, rfl⟩ := r; exact ⟨_, _, rfl⟩
      · exact ih t u hu
section
variable {X : Cx}
theorem inT_eq {pins : List (Addr × Obj)} {σ : L2.St} {H : Hp} {s : Shared} {A : Around} (I : Inv X pins σ H s) (hu : A.units < cLine) {a : Addr} (ha : (∃ xs, SqL X.K H a xs) ∨ (∃ xs, SqT X.K H a xs) ∨ ∃ kvs, H a = some (.dK kvs)) (b : Str) (t : Tok) : SeqAt.EqAt A s (.str b t) (.ref a) false := by
  rcases ha with ⟨xs, e⟩ | ⟨xs, e⟩ | ⟨kvs, e⟩
  · obtain ⟨its, r, pl, hz⟩ := I.list e
    exact SeqAt.EqAt.str_list b t pl.isList hu
  · obtain ⟨its, r, pl, hz⟩ := I.tuple e
    exact SeqAt.EqAt.str_tuple b t pl hu
  · obtain ⟨_, _, vs, _, da⟩ := (show ObjOk X.prog X.w H s.heap a (.dK kvs) from I.hok a _ e)
    obtain ⟨o, es, ep, ho, hx, hd, _⟩ := da
    exact SeqAt.swAA_eq b t ho hx.1 ⟨es, ep, hd⟩ hu
theorem op_notInT (hu : X.A.units + 1 < cLine) : OpR X (compareOp .NotIn) (rInT X.K true) := by
  intro pins s σ H x y v u Q I rx ry h
  obtain ⟨p, a, zs, rfl, rfl, hp, ha, q⟩ := h
  cases rx
  cases ry
  obtain ⟨its, r, pl, hz⟩ := I.list (SqL.of hp)
  refine SeqAt.notIn_listAt (fun _ => false) pl.isList (fun w hw => ?_) ⟨.bl _, H, I, rfl, ?_⟩
  · obtain ⟨b, t, rfl⟩ := strs_vals r w (by simpa using hw)
    exact inT_eq I hu ha b t
  · rw [show its.toArray.any (fun _ => false) = false by simp]
    exact q
theorem op_inT (hu : X.A.units + 1 < cLine) : OpR X (compareOp .In) (rInT X.K false) := by
  intro pins s σ H x y v u Q I rx ry h
  obtain ⟨p, a, zs, rfl, rfl, hp, ha, q⟩ := h
  cases rx
  cases ry
  obtain ⟨its, r, pl, hz⟩ := I.list (SqL.of hp)
  refine SeqAt.in_listAt (fun _ => false) pl.isList (fun w hw => ?_) ⟨.bl _, H, I, rfl, ?_⟩
  · obtain ⟨b, t, rfl⟩ := strs_vals r w (by simpa using hw)
    exact inT_eq I hu ha b t
  · rw [show its.toArray.any (fun _ => false) = false by simp]
    exact q
end
end Sw
set_option Elab.async false
set_option linter.all false
set_option maxRecDepth 100000
set_option maxHeartbeats 4000000
/-! A list comprehension whose element may raise: pe_lcE, ps_setLcE. Its exceptions are those of calls (L2N.CX); the block's frame is the def's own. -/
namespace Sw
open PySem PySem.Spec PyProof.Rows L2
theorem funFrames_sub {h h' base : Heap} : ∀ {l : List Env}, h.FunFrames base l → (∀ b ∈ frs l, ∀ o, h.get? b = some o → h'.get? b = some o) → h'.FunFrames base l
  | [], _, _ => trivial
  | env :: l, ⟨hk, ⟨L, o, hf, hn, ho, hd⟩, hr⟩, k => ⟨hk, ⟨L, o, hf, hn, k L (List.mem_filterMap.mpr ⟨env, List.mem_cons_self, hf⟩) o ho, hd⟩, funFrames_sub hr fun b hb => by
      obtain ⟨e, he, q⟩ := List.mem_filterMap.mp hb
      exact k b (List.mem_filterMap.mpr ⟨e, List.mem_cons_of_mem _ he, q⟩)⟩
theorem noteFrame_frame {x : Value} {e e' : Env} (h : e.frame = e'.frame) : noteFrame x e = noteFrame x e' := by
  unfold noteFrame PySem.frameOf
  rw [h]
/-- P holds once the block's variables at C are gone -/
def Gone (C : Addr) (P : Shared → Prop) (s : Shared) : Prop := ∃ m, s.heap.Ns C m ∧ ∀ h', Heap.SameBut C s.heap h' → P { s with heap := h' }
/-- behind a comprehension's block of the variables ce -/
structure BehindBlk (M : Model) (A : Around) (E : Value → Shared → Prop) (use : Option (Value → Sem Unit)) (Q : Value → Shared → Prop) (acc : Value) (ce : Env) (r : Result) (s : Shared) : Prop where
  plain : ∀ f, r = .ok f → use = none → Gone ce.locals (Q acc) s
  stored : ∀ f u, r = .ok f → use = some u → wpAny M A (u acc) (fun _ => Gone ce.locals (Q .none)) E s
  raised : ∀ x, r = .error x → Gone ce.locals (fun s' => ∀ c : Env, c.frame = ce.frame → wpAny M A (PySem.passOn "comprehension.variables-let-go" x c : Sem Value) (fun _ _ => False) E s') s
theorem wp_block {M : Model} {A : Around} {E : Value → Shared → Prop} {s : Shared} {env : Env} {e : Expr} {sc : Scope} {p : Pos} {mk first : Sem Value} {g : Comprehension} {gs : List Comprehension} {cl : List (Str × Addr)} {use : Option (Value → Sem Unit)} {Q : Value → Shared → Prop}
    (c1 : clausesOf e = g :: gs) (c2 : ∀ x, foldedSetIterable g.iter env x = pure x) (c3 : closureFor sc env = pure cl) (kd : sc.kind = .function) (nm : ∀ y ∈ sc.names, y.2 = .local → sc.names.lookup y.1 = some .local)
    (h : wpAny M A first (fun x s1 => wpAny M A (pyIter x) (fun it s2 => wpAny M A mk (fun acc s3 => wpAny M A (newFunctionEnv sc env.globals cl [] env.qual none .none (some env))
      (fun ce s4 => codeAny M A (.compStart e 0 it acc { ce with scope := relabel sc env }) (BehindBlk M A E use Q acc ce) s4) E s3) E s2) E s1) E s) :
    wpAny M A (comprehension e sc env p mk false first use) Q E s := by
  unfold comprehension
  rw [c3, c1]
  refine wpAny_bind (wpAny_mono h ?_ fun _ _ z => z)
  intro x s1 h1
  refine wpAny_bind (wpAny_standAt ?_)
  refine wpAny_bind (wpAny_of_eq (c2 x) ?_)
  refine wpAny_bind (wpAny_holding (wpAny_mono h1 ?_ fun _ _ z => z))
  intro it s2 h2
  refine wpAny_standIf ?_
  refine wpAny_bind (wpAny_mono h2 ?_ fun _ _ z => z)
  intro acc s3 h3
  refine wpAny_bind (wpAny_pure ?_)
  refine wpAny_bind (wpAny_mono h3 ?_ fun _ _ z => z)
  intro ce s4 h4
  have loc : ∀ (l : List (Str × NameKind)), (∀ y ∈ l, y ∈ sc.names) → ∀ y ∈ l, y.2 = .local → Env.kindOf { ce with scope := relabel sc env } y.1 = some .local := fun l hl y hy e => lookup_relabel_local (nm y (hl y hy) e)
  have sub : ∀ y ∈ (sc.names.filter fun x => (x.2 == .local || x.2 == .cell) && x.1 != (".0" : Str)).reverse, y ∈ sc.names := fun y hy => (List.mem_filter.mp (List.mem_reverse.mp hy)).1
  have go : ∀ {Q' : Unit → Shared → Prop} {E' : Value → Shared → Prop} {f : List (Str × NameKind) → List Value} (l : List (Str × NameKind)) (s : Shared), (∀ y ∈ l, y ∈ sc.names) → Gone ce.locals (Q' ()) s → wpAny M A (comprehension.letGo { ce with scope := relabel sc env } f l) Q' E' s :=
    fun {Q' E' f} l s hl ⟨m, n, k⟩ => wpAny_comp_letGo kd l s m (loc l hl) n fun h' _ _ sb => k h' sb
  dsimp only
  refine wpAny_holding (wpAny_bind (wpAny_attempt (wpAny_holding (wpAny_run (codeAny_mono h4 ?_)))))
  intro r s5 hr
  match r, use, hr with
  | .ok f, none, hr => exact wpAny_bind (wpAny_holding (go (Q' := fun _ s' => _) _ s5 sub (by
      obtain ⟨m, n, k⟩ := hr.plain f rfl rfl
      exact ⟨m, n, fun h' sb => wpAny_pure (k h' sb)⟩)))
  | .ok f, some u, hr =>
    refine wpAny_bind (wpAny_rule (wpAny_bind (wpAny_holding (wpAny_mono (hr.stored f u rfl rfl) ?_ fun _ _ z => z))))
    intro _ s6 ⟨m, n, k⟩
    refine wpAny_bind (go (Q' := fun _ s' => _) _ s6 (fun y hy => ?_) ⟨m, n, fun h' sb => wpAny_pure (k h' sb)⟩)
    rcases List.mem_append.mp hy with z | z
    · exact sub y (List.mem_of_mem_drop z)
    · exact sub y (List.mem_of_mem_take z)
  | .error x, use, hr =>
    obtain ⟨m, n, k⟩ := hr.raised x rfl
    cases use <;> exact wpAny_bind (wpAny_holding (go (Q' := fun _ s' => _) _ s5 sub ⟨m, n, fun h' sb => wpAny_mono (k h' sb _ rfl) (fun _ _ z => z.elim) fun _ _ z => z⟩))
/-- a call in the block Y let an exception out -/
def XB (Y : Cx) (W : XK) (u : Value) (s' : Shared) : Prop := ∃ (pins : List (Addr × Obj)) (σ : L2.St) (H : Hp) (s : Shared) (E : XK), Inv Y pins σ H s ∧ L2N.CX Y.prog Y.w Y.stack H s E u s' ∧ ∀ cls d H', E cls d H' → W cls d H'
section
variable {X : Cx}
/-- a block whose elements may raise W -/
abbrev blkE (X : Cx) (s : Shared) (H : Hp) (scope : Scope) (cenv : Env) (fp : List Addr) (W : XK) : Cx := (X.blk s H scope cenv fp).wish (XB (X.blk s H scope cenv fp) W)
/-- what a callee lets out in a block is taken -/
theorem passes_blk {Y : Cx} {W E : XK} (hW : ∀ cls d H, E cls d H → W cls d H) : ∀ (pins : List (Addr × Obj)) (σ : L2.St) (H : Hp) (s : Shared) (e : Value) (s' : Shared), Inv (Y.wish (XB Y W)) pins σ H s → L2N.CX Y.prog Y.w Y.stack H s E e s' → (Y.wish (XB Y W)).xe e s' :=
  fun pins σ H s _ _ I c => ⟨pins, σ, H, s, _, I.unwish, c, hW⟩
/-- out of the block -/
theorem out_blk {pins : List (Addr × Obj)} {σ : L2.St} {H3 : Hp} {s3 s5 : Shared} {scope : Scope} {ce c0 : Env} {fp : List Addr} {W : XK} {use : Option (Value → Sem Unit)} {Qf : Value → Shared → Prop} {acc u : Value} (I3 : Inv X pins σ H3 s3)
    (hs : X.stack = X.env :: X.outer) (hf : X.env.frame = some X.env.locals) (tk : L2N.Takes X (fun cls d _ H => W cls d H)) (cL : ce.locals = s3.heap.objs.size) (cF : ce.frame = X.env.frame) (c0L : c0.locals = ce.locals) (c0F : c0.frame = ce.frame)
    (f3 : ∀ b ∈ fp, FpOk X pins H3 b ∧ b < s3.heap.objs.size) (x : XB (X.blk s3 H3 scope ce fp) W u s5) :
    notedBy (model X.prog X.w) X.A ce (fun e s' => BehindBlk (model X.prog X.w) X.A X.xe use Qf acc c0 (.error e) s') u s5 := by
  obtain ⟨pinsY, σY, H, s, E, I, c, hW⟩ := x
  have c : L2N.CX X.prog X.w X.stack H s E u s5 := c
  have I7 : Inv X pins σ H s := I3.call' (ch := fp) I.os I.base I.hok I.bare fun b hb => ⟨(f3 b hb).1.2.2.2.1, (f3 b hb).1.2.1, (f3 b hb).1.2.2.2.2.1, (f3 b hb).1.2.2.2.2.2⟩
  generalize hC : s3.heap.objs.size = C at cL
  have nC : C ∉ frs X.stack := fun z => by
    rcases List.mem_cons.mp (I3.stkSub C z) with e | e
    · have h0 := I3.lt
      rw [hC, e] at h0
      exact Nat.lt_irrefl _ h0
    · exact I3.nofs (Nat.le_of_eq hC) e
  -- the block's variables are where they were
  obtain ⟨m, ⟨o, es, ep, ho, od, r⟩, _⟩ := I.loc
  have ho : s.heap.get? C = some o := by rw [← cL]; exact ho
  have nH : H C = none := by
    have z : H ce.locals = none := I.free
    rw [cL] at z
    exact z
  have oF : ∀ vs, o.data ≠ .fields vs := fun vs z => by rw [od] at z; cases z
  obtain ⟨a, B, H', cls, d, rfl, fl, hok, ub, na, os, ag, hE⟩ := c
  have st5 : B.StaysIn s5.heap := fl.1
  have bC : B.get? C = some o := ub.keep C o ho nH nC
  have nH' : H' C = none := ub.free C o ho nH
  have hfr : X.A.frames = some (X.env :: X.outer) := by rw [I3.ok.frames, hs]
  have fl : HandSPX.FlyingZ B (X.env :: X.outer) a (L2N.Zn cls d) s5.heap := by rw [← hs]; exact fl
  unfold notedBy
  rw [noteFrame_frame cF]
  refine PXN.looks_onZ L2N.Zn.steady hfr hf fl fun h1 held up1 => ?_
  obtain ⟨st1, na1, ff1, oe, vs, T, oT, ts, he, hz, hd, e1, hnT, hTe, hT, hdT, h3⟩ := held
  have ca : a ≠ C := fun z => by rw [← z, na1] at bC; cases bC
  have cT : T ≠ C := fun z => by rw [← z, hnT] at bC; cases bC
  refine ⟨fun _ z => (nomatch z), fun _ _ z => (nomatch z), fun x ex => ?_⟩
  injection ex with ex
  subst ex
  rw [c0L, cL]
  refine ⟨m, ⟨o, es, ep, st1 C o bC, od, r⟩, fun h2 sb cv hcf => ?_⟩
  -- all but the block's variables
  obtain ⟨B1, b1, b0⟩ := restrict B fun b => b != C
  have inB : ∀ b o, b ≠ C → B.get? b = some o → B1.get? b = some o := fun b o n e => by rw [b1 b (by simp [n])]; exact e
  have ofB : ∀ b o, B1.get? b = some o → b ≠ C ∧ B.get? b = some o := fun b o e => by
    by_cases z : b = C
    · rw [b0 b (by simp [z])] at e; cases e
    · exact ⟨z, by rw [← b1 b (by simp [z])]; exact e⟩
  have noB : ∀ b, B.get? b = none → B1.get? b = none := fun b e => by
    cases q : B1.get? b with
    | none => rfl
    | some o => rw [(ofB b o q).2] at e; cases e
  obtain ⟨S, g1, g0⟩ := restrict s.heap fun b => b != C
  have ofS : ∀ b o, S.get? b = some o → b ≠ C ∧ s.heap.get? b = some o := fun b o e => by
    by_cases z : b = C
    · rw [g0 b (by simp [z])] at e; cases e
    · exact ⟨z, by rw [← g1 b (by simp [z])]; exact e⟩
  obtain ⟨q0, q1, _, q3, q4, q5⟩ := I3.fpOk (b := C) (H' := H) (Nat.le_of_eq hC) nH
  have I8 : Inv X pins σ H { s with heap := S, toks := s.toks } := I7.turned (it := C) (fun b o hb e => by rw [g1 b (by simp [hb])]; exact e) q0 q1 q3 q4 q5
  -- the ground and the frames, as they are now
  obtain ⟨G, k1, k0⟩ := restrict s5.heap fun b => (B1.get? b).isSome || decide (b ∈ frs X.stack)
  have inG : ∀ b o, B1.get? b = some o → G.get? b = some o := fun b o e => by
    rw [k1 b (by simp [e])]
    exact st5 b o (ofB b o e).2
  have frG : ∀ b ∈ frs X.stack, G.get? b = s5.heap.get? b := fun b hb => k1 b (by simp [hb])
  have ofG : ∀ b o, G.get? b = some o → s5.heap.get? b = some o ∧ (B1.get? b = some o ∨ b ∈ frs X.stack) := fun b o e => by
    by_cases hb : b ∈ frs X.stack
    · exact ⟨by rw [← frG b hb]; exact e, .inr hb⟩
    · cases q : B1.get? b with
      | none => rw [k0 b (by simp [q, hb])] at e; cases e
      | some o' =>
        rw [inG b o' q] at e
        exact ⟨(st5 b o' (ofB b o' q).2).trans e, .inl e⟩
  have hok1 : HOk X.prog X.w H' B1 := fun b ob q => (hok b ob q).stay (fun c v hc e => inB c v (fun z => by
    rw [z] at hc
    rcases hc with h | h
    · rw [← h, nH'] at q; cases q
    · rw [nH'] at h; cases h) e) (fun _ e => e) fun _ _ e => e
  have un : Un (frs X.stack) [] H H' S G := by
    refine ⟨fun b o e n hb _ => ?_, fun b o e n hb _ => ?_, fun b o e n _ => ub.free b o (ofS b o e).2 n, fun b o e _ => ?_, ub.tups, ub.frzs, ub.tbls⟩
    · exact inG b o (inB b o (ofS b o e).1 (ub.keep b o (ofS b o e).2 n hb))
    · obtain ⟨sl, q⟩ := ub.slot b o (ofS b o e).2 hb
      exact ⟨sl, by rw [frG b hb]; exact q⟩
    · by_cases hb : b ∈ frs X.stack
      · obtain ⟨sl, q⟩ := ub.slot b o (ofS b o e).2 hb
        exact ⟨_, by rw [frG b hb]; exact q⟩
      · obtain ⟨o', q⟩ := ub.there b o (ofS b o e).2 hb
        exact ⟨o', inG b o' (inB b o' (ofS b o e).1 q)⟩
  have I9 : Inv X pins σ H' { ({ s with heap := S, toks := s.toks } : Shared) with heap := G, gens := s5.gens, drawn := s5.drawn, toks := s5.toks } := I8.call (ch := []) un (hok1.kept inG) ag (fun _ z => nomatch z)
  -- the exception stands where it stood
  have keep : ∀ b o, b ≠ C → h1.get? b = some o → h2.get? b = some o := fun b o hb e => (sb.2 b hb).trans e
  have fC : ∀ b ∈ frs (X.env :: X.outer), b ≠ C := fun b hb z => nC (by rw [← z, hs]; exact hb)
  have st2 : B1.StaysIn h2 := fun b o e => keep b o (ofB b o e).1 (st1 b o (ofB b o e).2)
  have ff2 : h2.FunFrames B1 (X.env :: X.outer) := funFrames_sub (funFrames_none ff1 fun b hb => noB b (ff1.mem hb).1) fun b hb o e => keep b o (fC b hb) e
  have tr2 : HandSPX.TracedZ h2 B1 a (L2N.Zn cls d) (rawInt X.env.locals) := ⟨oe, vs, T, oT, ts, keep _ _ ca he, hz, hd, e1, noB T hnT, hTe, keep _ _ cT hT, hdT, h3⟩
  unfold PySem.passOn
  refine wpAny_bind (wpAny_field (keep _ _ ca he) hd e1 ?_)
  rw [if_neg (by simp)]
  refine wpAny_bind (HandSPX.setFlight_anyZ st2 ff2 tr2 fun h4 m1 m2 m3 m4 => wpAny_throw ?_)
  have m3 : HandSPX.TracedZ h4 B1 a (L2N.Zn cls d) (rawInt X.env.locals) := by rw [hcf, c0F, cF, hf] at m3; exact m3
  refine tk _ _ ⟨a, B1, _, pins, σ, H', cls, d, rfl, I9, fun b o e hb => (ofG b o e).2.elim id fun z => absurd z hb, fun b o e hnf => ?_, .inr (.inr ⟨m1, noB a na1, ?_, m3⟩), na, os, ag, hW _ _ _ hE⟩
  · have hb : b ≠ C := (ofG b o e).2.elim (fun z => (ofB b o z).1) fun z => fun y => nC (by rw [← y]; exact z)
    obtain ⟨sl, e⟩ := up1 b o (ofG b o e).1 hnf
    obtain ⟨sl, e⟩ := m4 b _ (keep b _ hb e) hnf
    exact ⟨sl, e⟩
  · rw [hs]; exact m2
/-- the comprehension as it runs in the def X: D the new list, C the block's variables -/
theorem lcE_core {pins : List (Addr × Obj)} {s : Shared} {σ : L2.St} {H : Hp} {Q : VK} {W : XK} {elt tg iter : Expr} {ifs : List Expr} {scope : Scope} {own : List (Str × Nat)} {pos pos' : Pos} {wi : TI} {g : TG} {tt : TT} {te : TE} {use : Option (Value → Sem Unit)} {Qf : Value → Shared → Prop}
    (hs : X.stack = X.env :: X.outer) (hf : X.env.frame = some X.env.locals) (tk : L2N.Takes X (fun cls d _ H => W cls d H)) (hc : X.calm = true) (hN : X.N.Nodup) (I : Inv X pins σ H s) (hi : PI X tg iter wi) (ok : BlkOk X.N X.env.scope scope own)
    (hg : ∀ s H C cl fp, PG (blkE X s H scope (compEnvC scope cl C X.env) fp W) tg g) (ht : ∀ s H C cl fp, PTs (blkE X s H scope (compEnvC scope cl C X.env) fp W) ifs tt) (he : ∀ s H C cl fp, PE (blkE X s H scope (compEnvC scope cl C X.env) fp W) elt te)
    (hfs : ∀ x, foldedSetIterable iter X.env x = pure x) (h : tLc wi g tt te (own.map (·.2)) σ H Q)
    (fin : ∀ D s' H' (ce : Env) m, Inv X pins σ H' s' → Q (.ref D) H' → s'.heap.Ns ce.locals m → FpOk X pins H' ce.locals → BehindBlk (model X.prog X.w) X.A X.xe use Qf (.ref D) ce (.ok .next) s') :
    wpAny (model X.prog X.w) X.A (comprehension (.ListComp elt [⟨tg, iter, ifs, 0⟩] scope pos) scope X.env pos' (newList []) false (eval iter X.env) use) Qf X.xe s := by
  refine wp_block rfl hfs (closure_ok fun y hy e => I.ok.has _ (ok.free y hy e)) ok.kind (fun y hy e => by rw [ok.uniq y hy, e]) ?_
  refine thn (hi.run pins s σ H _ I h) fun xv s1 h1 => thn h1 fun itv s2 h2 => ?_
  obtain ⟨it, fp, tn, J, H2, rfl, I2, T, st2, f2, q⟩ := h2
  refine wpAny_newObj_type (newEnv_comp ?_) (Nat.zero_le _)
  have fresh : H2 s2.heap.objs.size = none := I2.hok.fresh (Nat.le_refl _)
  obtain ⟨Wt, ⟨m0, w0⟩, turn⟩ := q _ fresh
  have fp2 : ∀ b ∈ fp, b < s2.heap.objs.size := fun b hb => by
    obtain ⟨o, e, _⟩ := T.obj _ _ st2 b hb
    exact Heap.lt_size e
  have up : ∀ b o, s2.heap.get? b = some o → (s2.heap.push { cls := .type "list", data := .seq ([] : List Value).toArray }).get? b = some o := fun b o e => Heap.get?_push_of_some _ e
  have I3 : Inv X pins σ (upd H2 s2.heap.objs.size (.lst [])) { s2 with heap := s2.heap.push { cls := .type "list", data := .seq ([] : List Value).toArray }, toks := s2.toks } :=
    I2.laid up (Nat.le_refl _) ⟨Nat.zero_le _, [], 0, .nil, Heap.get?_push_size _ rfl⟩
  have st3 : tn 0 (s2.heap.push { cls := .type "list", data := .seq ([] : List Value).toArray }) := T.keep _ _ _ st2 fun b _ o e => up b o e
  have f3 : ∀ b ∈ fp, FpOk X pins (upd H2 s2.heap.objs.size (.lst [])) b ∧ b < (s2.heap.push { cls := .type "list", data := .seq ([] : List Value).toArray }).objs.size := fun b hb => by
    obtain ⟨a1, a2⟩ := f2 b hb
    exact ⟨⟨by rw [upd_ne (Nat.ne_of_lt (fp2 b hb))]; exact a1, a2⟩, by rw [Heap.size_push]; exact Nat.lt_succ_of_lt (fp2 b hb)⟩
  generalize hD : s2.heap.objs.size = D at *
  generalize hh : s2.heap.push { cls := .type "list", data := .seq ([] : List Value).toArray } = h3 at *
  generalize hH : upd H2 D (.lst []) = H3 at *
  generalize hs3 : ({ s2 with heap := h3, toks := s2.toks } : Shared) = s3 at I3
  have e3 : s3.heap = h3 := by rw [← hs3]
  have I4 := block_start I3 ok hN (fp := fp) fun b hb => by rw [e3]; exact f3 b hb
  have st4 : tn 0 ({ s3 with heap := pushCells (s3.heap.push { cls := .type "dict", data := .dict #[] }) scope.names } : Shared).heap := T.keep _ _ _ st3 fun b _ o e => pushCells_keeps _ _ _ _ (Heap.get?_push_of_some _ (by rw [e3]; exact e))
  generalize hs4 : ({ s3 with heap := pushCells (s3.heap.push { cls := .type "dict", data := .dict #[] }) scope.names } : Shared) = s4 at I4 st4 ⊢
  generalize hcl : cellsFrom (s3.heap.objs.size + 1) scope.names (cloFrom X.env.cells scope.names []) = cl at I4 ⊢
  have f3' : ∀ b ∈ fp, FpOk X pins H3 b ∧ b < s3.heap.objs.size := fun b hb => by rw [e3]; exact f3 b hb
  have pg := hg s3 H3 s3.heap.objs.size cl fp
  have pt := ht s3 H3 s3.heap.objs.size cl fp
  have pe := he s3 H3 s3.heap.objs.size cl fp
  obtain ⟨ce, hce⟩ : ∃ ce, ce = compEnvC scope cl s3.heap.objs.size X.env := ⟨_, rfl⟩
  have cL : ce.locals = s3.heap.objs.size := by rw [hce]; rfl
  have cF : ce.frame = X.env.frame := by rw [hce]; rfl
  rw [← hce] at I4 pg pt pe
  show codeAny _ _ (.compStart (.ListComp elt [⟨tg, iter, ifs, 0⟩] scope pos) 0 (.ref it) (.ref D) (compEnvC scope cl s3.heap.objs.size X.env)) (BehindBlk _ _ _ _ _ _ (newEnv scope s3.heap.objs.size X.env.globals cl X.env.qual none .none (some X.env) builtinsNs)) s4
  rw [← hce]
  have c0L : (newEnv scope s3.heap.objs.size X.env.globals cl X.env.qual none .none (some X.env) builtinsNs).locals = ce.locals := by rw [hce]; rfl
  have c0F : (newEnv scope s3.heap.objs.size X.env.globals cl X.env.qual none .none (some X.env) builtinsNs).frame = ce.frame := by rw [hce]; rfl
  generalize newEnv scope s3.heap.objs.size X.env.globals cl X.env.qual none .none (some X.env) builtinsNs = c0 at c0L c0F ⊢
  have away : ∀ {e : Value} {s' : Shared}, XB (X.blk s3 H3 scope ce fp) W e s' → notedBy (model X.prog X.w) X.A ce (fun e s' => BehindBlk (model X.prog X.w) X.A X.xe use Qf (.ref D) c0 (.error e) s') e s' := fun x => out_blk I3 hs hf tk cL cF c0L c0F f3' x
  have own0 : ∀ {σ' : L2.St} {H' : Hp} {s' : Shared}, Inv (X.blk s3 H3 scope ce fp) [] σ' H' s' → (∀ b ∈ fp, H' b = none) → ∀ b ∈ fp, FpOk (X.blk s3 H3 scope ce fp) [] H' b := fun J no b hb =>
    ⟨no b hb, (J.ok.exf b hb).1, J.ok.exfs b hb, .inl hb, (J.ok.exf b hb).2, fun p hp => absurd (show p ∈ ([] : List (Addr × Obj)) ++ [] from hp) (by simp)⟩
  refine codeAny_compStart_list ?lp (T.self X.A 0 _ _ _ st4 ?lp)
  refine compLoop_any (fun n s' => ∃ i H', Inv (X.blk s3 H3 scope ce fp) [] (wipe σ (own.map (·.2))) H' s' ∧ tn i s'.heap ∧ (∀ b ∈ fp, H' b = none) ∧ Wt i n H') ?_ m0 ⟨0, H3, I4, st4, fun b hb => (f3' b hb).1.1, w0⟩
  intro n s5 ⟨i, H5, I5, st5, n5, w5⟩
  rcases turn i n H5 w5 with ⟨stop, qe⟩ | ⟨go, Nx, hNx, step⟩
  · -- at the end
    refine thnF (T.done (X.blk s3 H3 scope ce fp) rfl rfl rfl hc i [] s5 _ H5 (fun _ _ => False) I5 (own0 I5 n5) st5 stop) ?_
    rintro r s6 ⟨rfl, I6⟩
    have I7 : Inv X pins σ H5 s6 := I3.call' (ch := fp) I6.os I6.base I6.hok I6.bare fun b hb => ⟨(f3' b hb).1.2.2.2.1, (f3' b hb).1.2.1, (f3' b hb).1.2.2.2.2.1, (f3' b hb).1.2.2.2.2.2⟩
    obtain ⟨m, hm, _⟩ := I6.loc
    have no : H5 ce.locals = none := I6.free
    refine fin D s6 H5 c0 m I7 qe (by rw [c0L]; exact hm) ?_
    rw [c0L]
    rw [cL] at no ⊢
    exact I3.fpOk (Nat.le_refl _) no
  -- a turn
  refine thnF (T.item (X.blk s3 H3 scope ce fp) rfl rfl rfl hc i [] s5 _ H5 (fun _ _ => False) I5 (own0 I5 n5) st5 go) ?_
  rintro r s6 ⟨u, rfl, h6⟩
  refine thnF h6 ?_
  rintro _ s7 ⟨x, H7, I7, r7, y7, st7, n7⟩
  have Ip := I7.pinned (own0 I7 n7) (T.obj _ _ st7)
  refine wpAny_mono (pg.run _ s7 _ H7 x u _ (Ip.wish _) r7 (step x H7 y7)) ?_ fun e s' z => away z
  rintro _ s8 ⟨σ8, H8, I8, hw8, q8⟩
  refine wpAny_mono (pt.run _ s8 σ8 H8 _ I8 q8) ?_ fun e s' z => away z
  rintro b s9 ⟨H9, I9, q9⟩
  have back : ∀ {s' : Shared} {H' : Hp}, Inv (X.blk s3 H3 scope ce fp) ([] ++ pinsAt fp s7.heap) σ8 H' s' → Nx H' → ∃ m, m < n ∧ ∃ i H', Inv (X.blk s3 H3 scope ce fp) [] (wipe σ (own.map (·.2))) H' s' ∧ tn i s'.heap ∧ (∀ b ∈ fp, H' b = none) ∧ Wt i m H' := by
    intro s' H' I' nx
    obtain ⟨m', hm, w'⟩ := hNx H' nx
    have stay : ∀ b ∈ fp, ∀ o, s7.heap.get? b = some o → s'.heap.get? b = some o ∧ H' b = none := fun b hb o e =>
      ⟨(I'.pin (b, o) (List.mem_append_right _ (List.mem_append_right _ (mem_pinsAt hb e)))).1, (I'.pin (b, o) (List.mem_append_right _ (List.mem_append_right _ (mem_pinsAt hb e)))).2.1⟩
    refine ⟨m', hm, i + 1, H', (I'.unpinned (pins := [])).weak (by rw [← hw8, wipe_length]) (fun j v e => ?_), T.keep _ _ _ st7 fun b hb o e => (stay b hb o e).1, fun b hb => ?_, w'⟩
    · rw [← hw8] at e
      exact (wipe_some e).1
    · obtain ⟨o, e, _⟩ := T.obj _ _ st7 b hb
      exact (stay b hb o e).2
  match b, q9 with
  | false, q9 => exact back I9.unwish q9
  | true, q9 =>
    refine wpAny_mono (pe.run _ s9 σ8 H9 _ I9 q9) ?_ fun e s' z => away z
    rintro z s10 ⟨y, H10, I10, r10, acc, eD, lz, nx⟩
    exact app_ok (X := X.blk s3 H3 scope ce fp) I10.unwish eD lz r10 fun s11 I11 => back I11 nx
/-- [elt for x in xs ..], elt may raise -/
theorem pe_lcE {W : XK} {elt tg iter : Expr} {ifs : List Expr} {scope : Scope} {own : List (Str × Nat)} {pos : Pos} {wi : TI} {g : TG} {tt : TT} {te : TE}
    (hs : X.stack = X.env :: X.outer) (hf : X.env.frame = some X.env.locals) (tk : L2N.Takes X (fun cls d _ H => W cls d H)) (hc : X.calm = true) (hN : X.N.Nodup) (hi : PI X tg iter wi) (ok : BlkOk X.N X.env.scope scope own)
    (hg : ∀ s H C cl fp, PG (blkE X s H scope (compEnvC scope cl C X.env) fp W) tg g) (ht : ∀ s H C cl fp, PTs (blkE X s H scope (compEnvC scope cl C X.env) fp W) ifs tt) (he : ∀ s H C cl fp, PE (blkE X s H scope (compEnvC scope cl C X.env) fp W) elt te)
    (hfs : ∀ x, foldedSetIterable iter X.env x = pure x := by intro _; rfl) : PE X (.ListComp elt [⟨tg, iter, ifs, 0⟩] scope pos) (tLc wi g tt te (own.map (·.2))) := by
  refine ⟨fun pins s σ H Q I h => ?_⟩
  rw [eval_ListComp]
  refine lcE_core hs hf tk hc hN I hi ok hg ht he hfs h fun D s' H' ce m J q hn f => ⟨fun _ _ _ => ⟨m, hn, fun h' sb => ?_⟩, fun _ _ _ z => (nomatch z), fun _ z => (nomatch z)⟩
  exact ⟨.ref D, H', J.turned (t' := s'.toks) (fun b o hb e => (sb.2 b hb).trans e) f.1 f.2.1 f.2.2.2.1 f.2.2.2.2.1 f.2.2.2.2.2, rfl, q⟩
end
end Sw
set_option Elab.async false
set_option linter.all false
set_option maxRecDepth 100000
set_option maxHeartbeats 8000000
namespace KW
open PySem PySem.Spec PyProof.Rows L2 He Sw L2H
section
variable {P : Program} {w : World} {K : PySem.W.Frag} {mg : Str → Option Value} {base : Heap}
/-! ### turns_at, ending or too long -/
structure WI (K : PySem.W.Frag) (H : Hp) (f : Fo) (a cd : Addr) (w : Nat) (kvs : List (Key × V)) (es : List (Str → Int)) : Prop where
  ok : f.Ok
  fit : f.Fits
  p : f.Few
  at_ : FoAt K H f a
  w1 : w ≤ 64
  cd : H cd = some (.dK kvs)
  cas : CasesAt H kvs es f.free
  wd : ∀ e ∈ es, Wd (2 ^ w) e f.free
  le : es.length ≤ 20000
theorem WI.same {H H' : Hp} {f : Fo} {a cd : Addr} {w : Nat} {kvs : List (Key × V)} {es : List (Str → Int)} (h : WI K H f a cd w kvs es) (s : Same H H') : WI K H' f a cd w kvs es :=
  ⟨h.ok, h.fit, h.p, h.at_.same s, h.w1, s _ _ h.cd, h.cas.same s, h.wd, h.le⟩
theorem WI.bound {H : Hp} {i : Str} {b f : Fo} {a cd y : Addr} {w : Nat} {kvs : List (Key × V)} {es : List (Str → Int)} (h : WI K H (.sum i b f) a cd w kvs es) (hb : FoAt K H b y) : WIn K H b y cd w kvs es := by
  have ok := h.ok
  simp only [Fo.Ok] at ok
  obtain ⟨bp, bd⟩ := Fo.leaf_sizes ok.2.1
  exact ⟨ok.2.2.1, ⟨by omega, by omega⟩, h.p.bound, hb, h.w1, h.cd, h.cas.sub fun z hz => by simp only [Fo.free]; exact List.mem_append_right _ hz, fun e he => (h.wd e he).bound, h.le, by rw [cntL_leaf ok.2.1]; omega⟩
theorem WI.body {H : Hp} {i : Str} {b f : Fo} {a cd x nd : Addr} {w : Nat} {kvs kvs' : List (Key × V)} {es : List (Str → Int)} (h : WI K H (.sum i b f) a cd w kvs es) (lr : (rowsOf (2 ^ w) i b es).length ≤ 20000) (hx : FoAt K H f x) (hd : H nd = some (.dK kvs')) (hc : CasesAt H kvs' (rowsOf (2 ^ w) i b es) f.free) : WI K H f x nd w kvs' (rowsOf (2 ^ w) i b es) := by
  have ok := h.ok
  simp only [Fo.Ok] at ok
  refine ⟨ok.2.2.2.2.2, h.fit.kid (by simp [Fo.kids]), h.p.kid (by simp [Fo.kids]), hx, h.w1, hd, hc, fun e he => ?_, lr⟩
  obtain ⟨e0, h0, h1⟩ := List.mem_flatMap.mp he
  obtain ⟨k, hk, rfl⟩ := List.mem_map.mp h1
  have hk := List.mem_range.mp hk
  have hw := Fo.val_word (two_pos w) b e0 (h.wd e0 h0).bound
  exact (h.wd e0 h0).sum (by omega) (by omega)
theorem WI.kid {H : Hp} {f g : Fo} {a cd x : Addr} {w : Nat} {kvs : List (Key × V)} {es : List (Str → Int)} (h : WI K H f a cd w kvs es) (hg : g ∈ f.kids) (hne : ∀ i b a, f ≠ .sum i b a) (hx : FoAt K H g x) : WI K H g x cd w kvs es := by
  refine ⟨Fo.ok_kids h.ok g hg, h.fit.kid hg, h.p.kid hg, hx, h.w1, h.cd, h.cas.sub fun z hz => ?_, fun e he => (h.wd e he).kid hg hne, h.le⟩
  have fp := h.p
  rw [Fo.free_kids]
  cases f with
  | sum i b a => exact absurd rfl (hne i b a)
  | num n => simp [Fo.kids] at hg
  | nam y => simp [Fo.kids] at hg
  | neg a => simp only [Fo.kids, List.mem_singleton] at hg; subst hg; simp [Fo.kids, Fo.freeL, hz]
  | shl a n => simp only [Fo.kids, List.mem_singleton] at hg; subst hg; simp [Fo.kids, Fo.freeL, hz]
  | bin o a b =>
    simp only [Fo.kids, List.mem_cons, List.not_mem_nil, or_false] at hg
    rcases hg with rfl | rfl <;> simp [Fo.kids, Fo.freeL, hz]
  | call z fs => exact fp.1.no.elim
theorem Fo.NC.kids_len {f : Fo} (h : f.NC) : f.kids.length ≤ 2 := by cases f <;> first | exact h.no.elim | simp [Fo.kids]
theorem cntL_kids {s : Int} {f : Fo} {es : List (Str → Int)} (nc : f.NC) (hne : ∀ i b a, f ≠ .sum i b a) : cntL s f es = (f.kids.map fun g => cntL s g es).sum := by
  cases f with
  | sum i b g => exact absurd rfl (hne i b g)
  | call z fs => exact nc.no.elim
  | num n => rw [cntL_leaf (f := .num n) trivial]; rfl
  | nam n => rw [cntL_leaf (f := .nam n) trivial]; rfl
  | neg g => rw [cntL_neg]; simp [Fo.kids]
  | shl g m => rw [cntL_shl]; simp [Fo.kids]
  | bin o g g2 => rw [cntL_bin]; simp [Fo.kids]
theorem le_sum_mem {l : List Nat} {x : Nat} (h : x ∈ l) : x ≤ l.sum := by
  induction l with
  | nil => cases h
  | cons y l ih =>
    rw [List.sum_cons]
    rcases List.mem_cons.mp h with rfl | h
    · omega
    · have := ih h; omega
theorem cnt_flat {s : Int} : ∀ (f : Fo) (e : Str → Int), f.ixs = [] → f.cnt s e = 0
  | .num _, _, _ => rfl
  | .nam _, _, _ => rfl
  | .neg f, e, h => by simp only [Fo.ixs] at h; simp only [Fo.cnt]; exact cnt_flat f e h
  | .shl f _, e, h => by simp only [Fo.ixs] at h; simp only [Fo.cnt]; exact cnt_flat f e h
  | .bin _ f g, e, h => by
    simp only [Fo.ixs, List.append_eq_nil_iff] at h
    simp only [Fo.cnt]
    rw [cnt_flat f e h.1, cnt_flat g e h.2]
  | .sum i b f, e, h => by simp [Fo.ixs] at h
  | .call _ _, _, _ => rfl
theorem cntL_flat {s : Int} {f : Fo} (h : f.ixs = []) (es : List (Str → Int)) : cntL s f es = 0 := by
  induction es with
  | nil => rfl
  | cons e es ih =>
    simp only [cntL, List.map_cons, List.sum_cons] at ih ⊢
    rw [ih, cnt_flat f e h]
theorem nat_ints (ns : List Nat) : ((ns.map fun n => ((n : Nat) : Int)).sum : Int) = ((ns.sum : Nat) : Int) := by
  induction ns with
  | nil => rfl
  | cons n ns ih => rw [List.map_cons, List.sum_cons, List.sum_cons, ih]; omega
def spTurnsE (K : PySem.W.Frag) (n : Nat) : Sp := fun vs H Q E => ∃ (f : Fo) (a cd : Addr) (w : Nat) (kvs : List (Key × V)) (es : List (Str → Int)), vs = [.ref a, .int w, .ref cd, .int es.length] ∧ f.depth ≤ n ∧ WI K H f a cd w kvs es ∧
  (∀ H', Same H H' → Q (.int ((cntL (2 ^ w) f es : Nat) : Int)) H') ∧ (20000 < cntL (2 ^ w) f es → RaisesC K "TooLong" H .non E)
theorem sc_turns_at : FnScope ["formula", "width", "cases", "many", "bounds", "here", "body", "one"] ["formula", "width", "cases", "many"] (defScope s_turns_at) := ⟨rfl, rfl, rfl, by decide +kernel, rfl, by decide +kernel, by decide +kernel⟩
theorem okE_turns_at (T : Txt K mg) : ∀ n, Cal P w K mg base (L2N.CX P w) (n + 175) (ga K "turns_at") ["formula", "width", "cases", "many"] (spTurnsE K n)
  | 0 => by
    obtain ⟨fd, F⟩ := T.f_turns_at
    refine ⟨fd, ⟨fun vs H Q E h => ?_, fun A outer s H args us vs Q E _ _ _ _ h => ?_⟩, F.kp, F.bindsN fun _ _ _ _ _ _ us hl => match us, hl with | [_, _, _, _], _ => rfl⟩
    · obtain ⟨_, _, _, _, _, _, rfl, _⟩ := h
      rfl
    · obtain ⟨_, _, _, _, _, _, _, h, _⟩ := h
      exact absurd h (Nat.not_le_of_lt (Fo.depth_pos _))
  | n + 1 => by
    have GX := okE_turns_at T n
    obtain ⟨fdB_TooLong, GB_TooLong, kB_TooLong, bB_TooLong⟩ := ok_TooLong___init__ (P := P) (w := w) (base := base) T
    have TB_TooLong := T.err "TooLong" (by decide +kernel)
    obtain ⟨fd, F⟩ := T.f_turns_at
    refine ⟨fd, ?_, F.kp, F.bindsN fun _ _ _ _ _ _ us hl => match us, hl with | [_, _, _, _], _ => rfl⟩
    refine F.ok sc_turns_at (fun vs H Q E h => ?_) (fun cdv A outer s H vs Q E hr h => ?_)
    · obtain ⟨_, _, _, _, _, _, rfl, _⟩ := h
      rfl
    have nod := sc_turns_at.nd
    have hu := hu_of hr
    refine ⟨_, (pss_cons (ps_if (pt_cmpR op_ne (pe_fld (pv 0) rfl) pe_str (nomark _))
      (pss_one (ps_ret (pe_callB (cr_sum rfl) rfl (T.f "sum") (by decide +kernel) (pa_cons (pe_lcE (own := [("one", 7)]) (W := E) (te := (tCall (spTurnsE K n) [] E (tCons (tVar 7) (tCons (tVar 1) (tCons (tVar 2) (tCons (tVar 3) tNil)))))) (g := (gName 7)) (tt := tYes) rfl rfl (L2N.takes_of rfl rfl rfl rfl) rfl nod (pi_tup (pe_callC (ok_inner_formulas T) (hr.mono (by omega)) rfl (T.g "inner_formulas") pass0 (pa_cons (pv 0) pa_nil))) (blkOk_by (N := ["formula", "width", "cases", "many", "bounds", "here", "body", "one"]) (sc := defScope s_turns_at) (by decide +kernel)) (fun _ _ _ _ _ => (pg_name (i := 7) nod rfl (Or.inl rfl))) (fun _ _ _ _ _ => pts_nil) (fun _ _ _ _ _ => (pe_callC (E := E) GX (hr.mono (by omega)) rfl (T.g "turns_at") (passes_blk (fun _ _ _ h => h)) (pa_cons (pv 7) (pa_cons (pv 1) (pa_cons (pv 2) (pa_cons (pv 3) pa_nil))))))) pa_nil))))
      pss_nil)
    (pss_cons (ps_set (i := 4) nod rfl (Or.inl rfl) (pe_callC (ok_words_at T 40) (hr.mono (by omega)) rfl (T.g "words_at") pass0 (pa_cons (pe_ix ix_tup (pe_fld (pv 0) rfl) pe_int (fun _ _ => rfl)) (pa_cons (pv 1) (pa_cons (pv 2) (pa_cons (pv 3) pa_nil))))))
    (pss_cons (ps_set (i := 5) nod rfl (Or.inl rfl) (pe_callB (cr_sum rfl) rfl (T.f "sum") (by decide +kernel) (pa_cons (pv 4) pa_nil)))
    (pss_cons (ps_if (pt_cmpR op_gt (pv 5) (pe_gi (n := 20000) rfl T.mTurn) (nomark _))
      (pss_one (L2N.ps_raise rfl (L2N.takes_of rfl rfl rfl rfl) (pmkN_oex0 (x := "TooLong") TB_TooLong.o TB_TooLong.ini TB_TooLong.inT GB_TooLong (hr.mono (by omega)) bB_TooLong pass0 rfl (T.g "TooLong"))))
      pss_nil)
    (pss_cons (ps_set (i := 6) nod rfl (Or.inl rfl) (pe_ix ix_tup (pe_fld (pv 0) rfl) pe_int (fun _ _ => rfl)))
    (pss_cons (ps_if (pt_not (pt_truth (pe_callC (ok_index_names T 40) (hr.mono (by omega)) rfl (T.g "index_names") pass0 (pa_cons (pv 6) pa_nil)) (by intro _; rfl)))
      (pss_one (ps_ret (pv 5)))
      pss_nil)
    (pss_one (ps_ret (pe_op op_add (pv 5) (pe_callC (E := E) GX (hr.mono (by omega)) rfl (T.g "turns_at") (L2N.passes_call (E := E) (L2N.takes_of rfl rfl rfl rfl) (fun _ _ _ _ h => h)) (pa_cons (pv 6) (pa_cons (pv 1) (pa_cons (pe_callC (ok_cases_of_turns T) (hr.mono (by omega)) rfl (T.g "cases_of_turns") pass0 (pa_cons (pv 0) (pa_cons (pv 2) (pa_cons (pv 4) pa_nil)))) (pa_cons (pv 5) pa_nil)))))))))))))), ?_⟩
    obtain ⟨f, a, cd, w, kvs, es, rfl, hn, I, q, r⟩ := h
    obtain ⟨dx, t, th, xs, ha, et, sh, fk⟩ := I.at_.opened
    have IT := T.ins _ f.cls_mem
    have nk := IT.no "kind" (by decide +kernel)
    have nt := IT.no "things" (by decide +kernel)
    have w1 := I.w1
    have le := I.le
    refine ⟨_, rfl, a, _, dx, _, .str f.kind, rfl, ha, IT.cl, nk, rfl, rfl, _, rfl, ?_⟩
    rcases f.kind_sum with ⟨i, b, g, rfl⟩ | hne
    · refine ite2 (fun h => absurd h (show ¬ (!decide (V.str "sum" = V.str "sum")) = true by decide +kernel)) (fun _ => ?_)
      cases sh with
      | sum _ _ _ y x hb =>
      have hx : FoAt K H g x := by
        simp only [Fo.kids, FoAts] at fk
        obtain ⟨x', ys, e1, q1, e2⟩ := fk
        rw [e2] at e1
        injection e1 with e1
        rw [e1]; exact q1
      have ok := I.ok
      simp only [Fo.Ok] at ok
      obtain ⟨bp, bd⟩ := Fo.leaf_sizes ok.2.1
      have pos : ∀ e ∈ es, 0 ≤ b.val (2 ^ w) e := fun e he => (Fo.val_word (two_pos w) b e (I.wd e he).bound).1
      have gd : g.depth < (Fo.sum i b g).depth := Fo.kid_depth (by simp [Fo.kids])
      have gp : g.parts < (Fo.sum i b g).parts := Fo.kid_parts (by simp [Fo.kids])
      have fit := I.fit.kid (g := g) (by simp [Fo.kids])
      have cs := cntL_sum (2 ^ w) i b g es
      refine ⟨_, rfl, a, _, dx, _, _, rfl, ha, IT.cl, nt, rfl, t, _, _, .ref y, rfl, rfl, SqT.of et, rfl, _, rfl, _, rfl, _, rfl, b, y, cd, w, kvs, es, rfl, by omega, I.bound hb, fun bl H1 s1 ebl => ?_⟩
      refine ⟨_, rfl, bl, es.map (b.val (2 ^ w)), rfl, by rw [← sum_ints]; exact SqL.of ebl, ?_⟩
      rw [ints_sum _ _ _ pos, ← rows_len (2 ^ w) i b es]
      refine ⟨_, rfl, _, _, rfl, rfl, _, rfl, ?_⟩
      refine ite2 (fun h => ?_) (fun h => ?_)
      · have h : decide (((rowsOf (2 ^ w) i b es).length : Int) > 20000) = true := h
        have h := of_decide_eq_true h
        exact ⟨by show 0 ≤ 1000; decide, err_made0 TB_TooLong fun H3 d s3 hd hx => r (by omega) H3 d (s1.trans s3) (none_back s1 hd) hx⟩
      have h : ¬ decide (((rowsOf (2 ^ w) i b es).length : Int) > 20000) = true := h
      have lr : (rowsOf (2 ^ w) i b es).length ≤ 20000 := by
        have h := mt decide_eq_true h
        omega
      refine ⟨_, rfl, a, _, dx, _, _, rfl, s1 _ _ ha, IT.cl, nt, rfl, t, _, _, .ref x, rfl, rfl, SqT.of (s1 _ _ et), rfl, ?_⟩
      refine ⟨_, rfl, g, x, rfl, fit.2, fit.1, hx.same s1, fun il H2 s2 n2 e2 => ?_⟩
      have s02 := s1.trans s2
      have I2 := I.same s02
      refine ⟨!(g.ixs.map V.str).isEmpty, .inl ⟨_, SqL.of e2, rfl⟩, ?_⟩
      refine ite2 (fun h => ?_) (fun h => ?_)
      · refine ⟨_, rfl, ?_⟩
        have hx0 : g.ixs = [] := by
          cases hh : g.ixs with
          | nil => rfl
          | cons z zs => rw [hh] at h; simp at h
        have e0 := cntL_flat (s := 2 ^ w) hx0 (rowsOf (2 ^ w) i b es)
        have k := q H2 s02
        rw [cs, e0, Nat.add_zero] at k
        exact k
      · refine ⟨_, rfl, _, rfl, _, rfl, _, rfl, _, rfl, _, rfl, i, b, g, a, cd, bl, 2 ^ w, kvs, es, rfl, I2.at_, ok.2.2.2.2.2, fit, I.p.kid (by simp [Fo.kids]), I2.cd, I2.cas, s2 _ _ ebl, pos, lr, I.le, fun nd H3 kvs' s3 ed c3 => ?_⟩
        have s03 := s02.trans s3
        have IB := (I.same s03).body lr (hx.same s03) ed c3
        refine ⟨_, rfl, g, x, nd, w, kvs', rowsOf (2 ^ w) i b es, rfl, by omega, IB, fun H4 s4 => ⟨_, _, rfl, rfl, ?_⟩, fun big => (r (by omega)).same s03⟩
        have k := q H4 (s03.trans s4)
        rw [cs, Int.natCast_add] at k
        exact k
    · have hns := not_sum hne
      refine ite2 (fun _ => ?_) (fun h => absurd (show (!decide (V.str f.kind = V.str "sum")) = true by rw [hne]; rfl) h)
      have ck := cntL_kids (s := 2 ^ w) (es := es) I.p.1 hns
      refine ⟨_, rfl, f, a, rfl, I.at_, fun u H0 ys s0 eu fk0 => ⟨u, rfl, ⟨_, SqT.of eu⟩, fun D hD => ?_⟩⟩
      have ly := fk0.len
      have lk := I.p.1.kids_len
      have up0 : ∀ {H' : Hp} {o : HO}, Same H0 H' → Same H0 (upd H' D o) := fun {H' o} s' b o' e => by rw [upd_ne (ne_of_none e hD)]; exact s' _ _ e
      refine loop_it (walk_tup (K := K) (a := u) (xs := ys.map V.ref)) (fun j H' => Same H0 H' ∧ H' D = some (.lst ((f.kids.take j).map fun g => V.int ((cntL (2 ^ w) g es : Nat) : Int)))) ⟨up0 (Same.refl _), upd_same⟩ (fun j H' _ ⟨s, _⟩ => SqT.of (s _ _ eu)) (fun j x H2 H3 hj ⟨s, eD⟩ ⟨hH, hx⟩ => ?_) (fun H2 ⟨s, eD⟩ => ?_)
      · subst hH
        obtain ⟨y, hy, rfl⟩ := map_at hx
        obtain ⟨g, hgi, hgt⟩ := fk0.get hy
        have hg := List.mem_of_getElem? hgi
        have gd := Fo.kid_depth hg
        have cle : cntL (2 ^ w) g es ≤ cntL (2 ^ w) f es := by
          rw [ck]
          exact le_sum_mem (List.mem_map.mpr ⟨g, hg, rfl⟩)
        have Ik := ((I.same s0).kid hg hns hgt).same s
        refine ⟨rfl, _, rfl, _, rfl, _, rfl, _, rfl, g, y, cd, w, kvs, es, rfl, by omega, Ik, fun H4 s4 => ⟨_, s4 _ _ eD, ?_, up0 (s.trans s4), ?_⟩, fun big => (r (by omega)).same (s0.trans s)⟩
        · rw [List.length_map]
          have := List.length_take (i := j) (l := f.kids)
          exact tlt (by omega)
        · rw [upd_same, take_at hgi, List.map_append]; rfl
      · rw [List.length_map, ly, List.take_length] at eD
        refine ⟨D, (f.kids.map fun g => cntL (2 ^ w) g es).map fun n => ((n : Nat) : Int), rfl, ?_, ?_⟩
        · rw [List.map_map, List.map_map]
          exact SqL.of eD
        · rw [nat_ints, ← ck]
          exact q H2 (s0.trans s)

end
end KW
set_option Elab.async false
set_option linter.all false
set_option maxRecDepth 100000
set_option maxHeartbeats 400000
/-! min(..) of texts (cr_minS), and the order of texts: sle, sorted_first, sle_anti. -/
namespace Sw
open PySem PySem.Spec PyProof.Rows L2
def sle (x y : Str) : Prop := x.cps.toList ≤ y.cps.toList
theorem sle_refl (x : Str) : sle x x := List.le_refl _
theorem sle_trans {x y z : Str} (a : sle x y) (b : sle y z) : sle x z := List.le_trans a b
theorem sle_not {x y : Str} : ¬ (y.cps.toList < x.cps.toList) ↔ sle x y := List.not_lt
theorem sle_lt {x y : Str} (h : x.cps.toList < y.cps.toList) : sle x y := List.le_of_lt h
theorem sle_anti {x y : Str} (a : sle x y) (b : sle y x) : x = y := PySem.W.str_of_cps (List.le_antisymm a b)
theorem rising_all : ∀ (r : List Str) (p : Str), risingS p r = true → ∀ y ∈ r, sle p y
  | [], _, _, _, h => nomatch h
  | x :: r, p, h, y, hy => by
    rw [risingS, Bool.and_eq_true, ltCps_eq] at h
    have h1 : sle p x := sle_not.mp fun z => by rw [decide_eq_true z] at h; exact absurd h.1 (by decide)
    rcases List.mem_cons.mp hy with rfl | hy
    · exact h1
    · exact sle_trans h1 (rising_all r x h.2 y hy)
theorem sorted_pair : ∀ l : List Str, sortedS l = true → l.Pairwise sle
  | [], _ => .nil
  | x :: r, h => .cons (rising_all r x h) (sorted_pair r (by
    cases r with
    | nil => rfl
    | cons y r =>
      have h : risingS x (y :: r) = true := h
      rw [risingS, Bool.and_eq_true] at h
      exact h.2))
theorem minD_strs : ∀ (xs : List Str) (x : Str), ∃ m, PySem.W.minD (.str x) (xs.map PyData.str) = .str m ∧ m ∈ x :: xs ∧ ∀ y ∈ x :: xs, sle m y
  | [], x => ⟨x, rfl, by simp, fun y hy => by rw [List.mem_singleton.mp hy]; exact sle_refl x⟩
  | y :: r, x => by
    by_cases c : y.cps.toList < x.cps.toList
    · obtain ⟨m, e, hm, h⟩ := minD_strs r y
      refine ⟨m, ?_, List.mem_cons_of_mem _ hm, fun z hz => ?_⟩
      · rw [← e]
        unfold PySem.W.minD
        rw [List.map_cons, List.foldl_cons, PySem.W.dataLt_str, decide_eq_true c, if_pos rfl]
      · rcases List.mem_cons.mp hz with rfl | hz
        · exact sle_trans (h y List.mem_cons_self) (sle_lt c)
        · exact h z hz
    · obtain ⟨m, e, hm, h⟩ := minD_strs r x
      refine ⟨m, ?_, ?_, fun z hz => ?_⟩
      · rw [← e]
        unfold PySem.W.minD
        rw [List.map_cons, List.foldl_cons, PySem.W.dataLt_str, decide_eq_false c, if_neg (by decide)]
      · rcases List.mem_cons.mp hm with rfl | hm
        · exact List.mem_cons_self
        · exact List.mem_cons_of_mem _ (List.mem_cons_of_mem _ hm)
      · rcases List.mem_cons.mp hz with rfl | hz
        · exact h z List.mem_cons_self
        · rcases List.mem_cons.mp hz with rfl | hz
          · exact sle_trans (h x List.mem_cons_self) (sle_not.mp c)
          · exact h z (List.mem_cons_of_mem _ hz)
section
variable {X : Cx}
/-- min(xs) of a list of texts -/
def rMinS (K : PySem.W.Frag) : List V → Hp → VK → Prop := fun vs H Q => ∃ (a : Addr) (zs : List Str), vs = [V.ref a] ∧ SqL K H a (zs.map V.str) ∧ zs ≠ [] ∧ ∀ m ∈ zs, (∀ y ∈ zs, sle m y) → Q (.str m) H
theorem dp_strsS {K : PySem.W.Frag} {H : Hp} : ∀ fs : List Str, DpAll K H (fs.map V.str) (fs.map PyData.str)
  | [] => .nil
  | f :: fs => .cons (.str f) (dp_strsS fs)
theorem cr_minS (hc : X.calm = true) (hu : X.A.units + 64 < cLine) : CallR X (.builtin "min") (rMinS X.K) := by
  intro pins s σ H vs us Q I r h
  obtain ⟨a, zs, rfl, hs, hne, q⟩ := h
  obtain ⟨its, rv, hl, _⟩ := I.list hs
  rw [Vals.ref1 r]
  obtain ⟨as, hr⟩ := Dp.readsAll I (zs.map PyData.str) (zs.map V.str) its (dp_strsS zs) rv
  cases zs with
  | nil => exact absurd rfl hne
  | cons z zs =>
    have al : PySem.W.AlikeAll ((z :: zs).map PyData.str) := ⟨fun x hx y hy => by
      obtain ⟨_, _, rfl⟩ := List.mem_map.mp hx
      obtain ⟨_, _, rfl⟩ := List.mem_map.mp hy
      simp [PySem.W.alike], fun x hx => by
      obtain ⟨_, _, rfl⟩ := List.mem_map.mp hx
      exact fun e => nomatch e⟩
    have dep : ∀ l : List Str, PyData.depthAll (l.map PyData.str) = 0 := fun l => by
      induction l with
      | nil => simp [PyData.depthAll]
      | cons x l ih => simp [PyData.depthAll, PyData.depth, ih]
    have d0 : PyData.depthAll (PyData.str z :: zs.map PyData.str) = 0 := dep (z :: zs)
    have hu2 : X.A.units + 1 + PyData.depthAll (PyData.str z :: zs.map PyData.str) < cLine := by
      rw [d0]
      exact Nat.lt_of_le_of_lt (Nat.add_le_add_left (by decide : (1 : Nat) + 0 ≤ 64) X.A.units) hu
    have hr2 : ReadsAll s.heap its.toArray.toList (PyData.str z :: zs.map PyData.str) as := hr
    refine PySem.W.min_list_data (I.ok.hd hc) hl.isList hr2 al hu2 fun i v h' tk bs hv rd hk => ?_
    obtain ⟨m, e, hm, hmin⟩ := minD_strs zs z
    rw [e] at rd
    cases rd with
    | str x t => exact ⟨.str m, H, I.kept hk, ⟨_, rfl⟩, q m hm hmin⟩
end
end Sw
set_option Elab.async false
set_option linter.all false
set_option maxRecDepth 100000
set_option maxHeartbeats 400000
/-! A method of one's own called where its exceptions are caught: pe_methS (as pe_callS is to pe_callC). -/
namespace Sw
open PySem PySem.Spec PyProof.Rows L2
section
variable {X : Cx} {CX : CXT} {k : Nat} {f : Addr} {ps : List Str} {sp : Sp} {E : L2.St → XK} {m : Str} {pos apos : Pos} {e o : Expr} {es : List Expr} {ta : TE} {t : TA} {IsC : Addr → Prop}
def tMethS (IsC : Addr → Prop) (m : Str) (sp : Sp) (E : L2.St → XK) (ta : TE) (t : TA) : TE := fun σ H Q => tMethI IsC m sp (E σ) ta t σ H Q
theorem pe_methS {pl : Sem Bool} (he : PE X o ta) (F : Cal X.prog X.w X.K X.mg X.base CX k f ps sp) (hc : ∀ C, IsC C → Cls X.K C ∧ Meth X.K C m f) (hr : Room k X.A) (hx : ∀ σ, PassesAt CX X σ (E σ)) (ha : PA X (e :: es) t)
    (hst : starEach (e :: es) X.env = (false, eval e X.env) :: starEach es X.env := by rfl) (hpl : (backTo pos (starEach es X.env)).any (·.1) = false := by rfl)
    (ht : eval (.Call (.Attribute o m apos) (e :: es) [] pos) X.env = (do
      let ov ← eval o X.env
      standAt apos.atName
      let (f, first) ← holding [ov] (getMethod ov m pl)
      callWith pos f first (backTo pos (starEach (e :: es) X.env)) (backToKw pos (keywordEach [] X.env))) := by rfl) :
    PE X (.Call (.Attribute o m apos) (e :: es) [] pos) (tMethS IsC m sp E ta t) := by
  obtain ⟨fd, F, hk, hb⟩ := F
  refine ⟨fun pins s σ H Q I h => ?_⟩
  have first := he.run pins s σ H _ I h
  refine PySem.W.methodCall_KW (pl := pl) (thn first ?_) ht
  rintro u s1 ⟨x, H1, I1, rx, a, C, dx, fs, rfl, ic, ea, l, q⟩
  cases rx
  obtain ⟨c1, c2⟩ := hc C ic
  refine getmeth_ok I1 ea c1 c2 l (PySem.W.callWith_K (first := [.ref a]) (h₀ := X.base) I.ok.mod.kin hk (thn (ha.run pos pins s1 σ H1 _ I1 q) ?_) hst hpl)
  rintro us s2 ⟨vs, H2, I2, r, q2⟩
  exact ⟨I2.kIn, run_fnS (us := .ref a :: us) (vs := .ref a :: vs) F hr hb (hx σ) I2 (.cons rfl r) q2⟩
end
end Sw
set_option Elab.async false
set_option linter.all false
set_option maxRecDepth 100000
set_option maxHeartbeats 8000000
namespace KW
open PySem PySem.Spec PyProof.Rows L2 He Sw L2H
section
variable {P : Program} {w : World} {K : PySem.W.Frag} {mg : Str → Option Value} {base : Heap}
/-! ### told and turns, whatever comes -/
structure VG (K : PySem.W.Frag) (H : Hp) (f : Fo) (a : Addr) (vv : V) (w : Nat) (e : Str → Int) : Prop where
  ok : f.Ok
  fit : f.Fits
  p : f.Few
  at_ : FoAt K H f a
  w0 : 1 ≤ w
  w1 : w ≤ 64
  v : ∀ z ∈ f.free, ∃ vd kvs, vv = .ref vd ∧ H vd = some (.dK kvs) ∧ valV kvs (.inr z) = some (.int (e z))
  wd : Wd (2 ^ w) e f.free
theorem VG.same {H H' : Hp} {f : Fo} {a : Addr} {vv : V} {w : Nat} {e : Str → Int} (h : VG K H f a vv w e) (s : Same H H') : VG K H' f a vv w e := ⟨h.ok, h.fit, h.p, h.at_.same s, h.w0, h.w1, fun z hz => by
  obtain ⟨vd, kvs, h1, h2, h3⟩ := h.v z hz
  exact ⟨vd, kvs, h1, s _ _ h2, h3⟩, h.wd⟩
theorem cntL_one (s : Int) (f : Fo) (e : Str → Int) : cntL s f [e] = f.cnt s e := by simp [cntL]
theorem VG.wi {H H' : Hp} {f : Fo} {a cd : Addr} {vv : V} {w : Nat} {kvs' : List (Key × V)} {e : Str → Int} (h : VG K H f a vv w e) (s : Same H H') (hc : H' cd = some (.dK kvs')) (c : CasesAt H' kvs' [e] f.free) : WI K H' f a cd w kvs' [e] :=
  ⟨h.ok, h.fit, h.p, h.at_.same s, h.w1, hc, c, fun q hq => by rw [List.mem_singleton.mp hq]; exact h.wd, by show 1 ≤ 20000; decide⟩
def spToldV (K : PySem.W.Frag) : Sp := fun vs H Q _ => ∃ (f : Fo) (a : Addr) (vv : V) (w : Nat) (e : Str → Int), vs = [.ref a, .int w, vv] ∧ VG K H f a vv w e ∧ f.cnt (2 ^ w) e ≤ 20000 ∧ ∀ H', Same H H' → Q (.int (f.val (2 ^ w) e)) H'
def spTurnedV (K : PySem.W.Frag) : Sp := fun vs H Q E => ∃ (f : Fo) (a : Addr) (vv : V) (w : Nat) (e : Str → Int), vs = [.ref a, .int w, vv] ∧ VG K H f a vv w e ∧ (f.cnt (2 ^ w) e ≤ 20000 → ∀ H', Same H H' → Q (.int ((f.cnt (2 ^ w) e : Nat) : Int)) H') ∧ (20000 < f.cnt (2 ^ w) e → RaisesC K "TooLong" H .non E)
theorem sc_word_of : FnScope ["formula", "width", "values"] ["formula", "width", "values"] (defScope s_word_of) := ⟨rfl, rfl, rfl, by decide +kernel, rfl, by decide +kernel, by decide +kernel⟩
theorem ok_word_of (T : Txt K mg) : Cal P w K mg base CX0 (172) (ga K "word_of") ["formula", "width", "values"] (spToldV K) := by
  obtain ⟨fd, F⟩ := T.f_word_of
  refine ⟨fd, ?_, F.kp, F.bindsN fun _ _ _ _ _ _ us hl => match us, hl with | [_, _, _], _ => rfl⟩
  refine F.ok sc_word_of (fun vs H Q E h => ?_) (fun cdv A outer s H vs Q E hr h => ?_)
  · obtain ⟨_, _, _, _, _, rfl, _⟩ := h
    rfl
  have nod := sc_word_of.nd
  have hu := hu_of hr
  refine ⟨_, PSs.nox (pss_one (ps_ret (pe_ix ix_list (pe_callC (ok_words_at T 40) (hr.mono (by omega)) rfl (T.g "words_at") pass0 (pa_cons (pv 0) (pa_cons (pv 1) (pa_cons (pe_callC (ok_one_case T) (hr.mono (by omega)) rfl (T.g "one_case") pass0 (pa_cons (pv 0) (pa_cons (pv 2) pa_nil))) (pa_cons pe_int pa_nil))))) pe_int (fun _ _ => rfl)))), ?_⟩
  obtain ⟨f, a, vv, w, e, rfl, I, hc, q⟩ := h
  refine ⟨_, rfl, _, rfl, _, rfl, _, rfl, f, a, vv, e, rfl, I.ok, I.fit, I.p, I.at_, I.v, fun cd H1 kvs' s1 ed c1 => ?_⟩
  have J := I.wi s1 ed c1
  refine ⟨f, a, cd, w, kvs', [e], rfl, I.fit.2, ⟨J.ok, J.fit, J.p, J.at_, J.w1, J.cd, J.cas, J.wd, J.le, by rw [cntL_one]; exact hc⟩, fun l H2 s2 el => ?_⟩
  exact ⟨l, _, _, .int (f.val (2 ^ w) e), rfl, rfl, SqL.of el, rfl, q H2 (s1.trans s2)⟩
theorem scE_turns_of : FnScope ["formula", "width", "values", "found"] ["formula", "width", "values"] (defScope s_turns_of) := ⟨rfl, rfl, rfl, by decide +kernel, rfl, by decide +kernel, by decide +kernel⟩
theorem okE_turns_of (T : Txt K mg) : Cal P w K mg base (L2N.CX P w) (217) (ga K "turns_of") ["formula", "width", "values"] (spTurnedV K) := by
  obtain ⟨fd, F⟩ := T.f_turns_of
  obtain ⟨fdB_TooLong, GB_TooLong, kB_TooLong, bB_TooLong⟩ := ok_TooLong___init__ (P := P) (w := w) (base := base) T
  have TB_TooLong := T.err "TooLong" (by decide +kernel)
  refine ⟨fd, ?_, F.kp, F.bindsN fun _ _ _ _ _ _ us hl => match us, hl with | [_, _, _], _ => rfl⟩
  refine F.ok scE_turns_of (fun vs H Q E h => ?_) (fun cdv A outer s H vs Q E hr h => ?_)
  · obtain ⟨_, _, _, _, _, rfl, _⟩ := h
    rfl
  have nod := scE_turns_of.nd
  have hu := hu_of hr
  refine ⟨_, (pss_cons (ps_set (i := 3) nod rfl (Or.inl rfl) (pe_callC (E := E) (okE_turns_at T 40) (hr.mono (by omega)) rfl (T.g "turns_at") (L2N.passes_call (E := E) (L2N.takes_of rfl rfl rfl rfl) (fun _ _ _ _ h => h)) (pa_cons (pv 0) (pa_cons (pv 1) (pa_cons (pe_callC (ok_one_case T) (hr.mono (by omega)) rfl (T.g "one_case") pass0 (pa_cons (pv 0) (pa_cons (pv 2) pa_nil))) (pa_cons pe_int pa_nil))))))
  (pss_cons (ps_if (pt_cmpR op_gt (pv 3) (pe_gi (n := 20000) rfl T.mTurn) (nomark _))
    (pss_one (L2N.ps_raise rfl (L2N.takes_of rfl rfl rfl rfl) (pmkN_oex0 (x := "TooLong") TB_TooLong.o TB_TooLong.ini TB_TooLong.inT GB_TooLong (hr.mono (by omega)) bB_TooLong pass0 rfl (T.g "TooLong"))))
    pss_nil)
  (pss_one (ps_ret (pv 3))))), ?_⟩
  obtain ⟨f, a, vv, w, e, rfl, I, q, r⟩ := h
  refine ⟨_, rfl, _, rfl, _, rfl, _, rfl, f, a, vv, e, rfl, I.ok, I.fit, I.p, I.at_, I.v, fun cd H1 kvs' s1 ed c1 => ?_⟩
  refine ⟨f, a, cd, w, kvs', [e], rfl, I.fit.2, I.wi s1 ed c1, fun H2 s2 => ?_, fun big => by rw [cntL_one] at big; exact (r big).same s1⟩
  rw [cntL_one]
  refine ⟨_, rfl, _, _, rfl, rfl, _, rfl, ?_⟩
  refine ite2 (fun h => ?_) (fun h => ?_)
  · have h : decide (((f.cnt (2 ^ w) e : Nat) : Int) > 20000) = true := h
    have h := of_decide_eq_true h
    exact ⟨by show 0 ≤ 1000; decide, err_made0 TB_TooLong fun H3 d s3 hd hx => r (by omega) H3 d ((s1.trans s2).trans s3) (none_back (s1.trans s2) hd) hx⟩
  · have h : ¬ decide (((f.cnt (2 ^ w) e : Nat) : Int) > 20000) = true := h
    have h := mt decide_eq_true h
    exact ⟨_, rfl, q (by omega) H2 (s1.trans s2)⟩
/-- a formula that may be told -/
structure Fg (K : PySem.W.Frag) (H : Hp) (f : Fo) (a : Addr) : Prop where
  ok : f.Ok
  fit : f.Fits
  p : f.Few
  at_ : FoAt K H f a
theorem Fg.same {H H' : Hp} {f : Fo} {a : Addr} (h : Fg K H f a) (s : Same H H') : Fg K H' f a := ⟨h.ok, h.fit, h.p, h.at_.same s⟩
inductive TOut (K : PySem.W.Frag) (H : Hp) : V → V → V → (Nat × Int) ⊕ (Str × V) → Prop
  | badF {v wv vv : V} : BadT K H v → TOut K H v wv vv (.inr ("BadFormula", v))
  | badW {f : Fo} {a : Addr} {wv vv : V} {n : String} : Fg K H f a → Th H wv n → isWth wv = false → TOut K H (.ref a) wv vv (.inr ("BadWidth", wv))
  | badV {f : Fo} {a : Addr} {bw : Nat} {vv : V} {g : Str → V} {z : Str} : Fg K H f a → 1 ≤ bw → bw ≤ 64 → ValsAt H vv g → z ∈ f.free → isWd bw (g z) = false → (∀ y ∈ f.free, isWd bw (g y) = false → sle z y) → TOut K H (.ref a) (.int bw) vv (.inr ("BadValue", .str z))
  | long {f : Fo} {a : Addr} {bw : Nat} {vv : V} {g : Str → V} {e : Str → Int} : Fg K H f a → 1 ≤ bw → bw ≤ 64 → ValsAt H vv g → (∀ z ∈ f.free, g z = .int (e z) ∧ 0 ≤ e z ∧ e z < 2 ^ bw) → 20000 < f.cnt (2 ^ bw) e → TOut K H (.ref a) (.int bw) vv (.inr ("TooLong", .non))
  | fine {f : Fo} {a : Addr} {bw : Nat} {vv : V} {g : Str → V} {e : Str → Int} : Fg K H f a → 1 ≤ bw → bw ≤ 64 → ValsAt H vv g → (∀ z ∈ f.free, g z = .int (e z) ∧ 0 ≤ e z ∧ e z < 2 ^ bw) → f.cnt (2 ^ bw) e ≤ 20000 → TOut K H (.ref a) (.int bw) vv (.inl (f.cnt (2 ^ bw) e, f.val (2 ^ bw) e))
theorem ValsAt.got {H : Hp} {vv : V} {g : Str → V} {z : Str} {i : Int} (h : ValsAt H vv g) (e : g z = .int i) : ∃ vd kvs, vv = .ref vd ∧ H vd = some (.dK kvs) ∧ valV kvs (.inr z) = some (.int i) := by
  cases h with
  | @dict vd kvs ed pl =>
    refine ⟨vd, kvs, rfl, ed, ?_⟩
    have e : (valV kvs (.inr z)).getD .non = .int i := e
    cases hv : valV kvs (.inr z) with
    | none => rw [hv] at e; cases e
    | some v => rw [hv] at e; exact congrArg some e
  | no _ => cases e
theorem vg_of {H : Hp} {f : Fo} {a : Addr} {bw : Nat} {vv : V} {g : Str → V} {e : Str → Int} (F : Fg K H f a) (w0 : 1 ≤ bw) (w1 : bw ≤ 64) (va : ValsAt H vv g) (h : ∀ z ∈ f.free, g z = .int (e z) ∧ 0 ≤ e z ∧ e z < 2 ^ bw) : VG K H f a vv bw e :=
  ⟨F.ok, F.fit, F.p, F.at_, w0, w1, fun z hz => va.got (h z hz).1, fun z hz => (h z hz).2⟩
theorem wd_of {bw : Nat} {v : V} {i : Int} (h : v = .int i ∧ 0 ≤ i ∧ i < 2 ^ bw) : isWd bw v = true := by
  rw [h.1]; exact decide_eq_true h.2
/-- the first that is bad is the least -/
theorem first_least {ys : List Str} {bad : Str → Prop} (so : sortedS ys = true) {j : Nat} {z : Str} (hz : ys[j]? = some z) (h : ∀ y ∈ ys.take j, ¬ bad y) : ∀ y ∈ ys, bad y → sle z y := fun y hy by_ => by
  obtain ⟨i, hi, rfl⟩ := List.getElem_of_mem hy
  obtain ⟨hj, ej⟩ := List.getElem?_eq_some_iff.mp hz
  rcases Nat.lt_trichotomy i j with l | l | l
  · exact absurd by_ (h _ (List.mem_take_iff_getElem.mpr ⟨i, by omega, rfl⟩))
  · subst l; rw [ej]; exact sle_refl _
  · rw [← ej]
    exact List.pairwise_iff_getElem.mp (Sw.sorted_pair ys so) j i hj hi l
theorem least_first {ys : List Str} {bad : Str → Prop} (so : sortedS ys = true) (nd : ys.Nodup) {j : Nat} {z : Str} (hz : ys[j]? = some z) (h : ∀ y ∈ ys, bad y → sle z y) : ∀ y ∈ ys.take j, ¬ bad y := fun y hy by_ => by
  obtain ⟨i, hi, rfl⟩ := List.mem_take_iff_getElem.mp hy
  obtain ⟨hj, ej⟩ := List.getElem?_eq_some_iff.mp hz
  have hi' : i < ys.length := by omega
  have l : i < j := by omega
  have a := h _ (List.getElem_mem hi') by_
  have b := List.pairwise_iff_getElem.mp (Sw.sorted_pair ys so) i j hi' hj l
  rw [ej] at b
  exact (List.pairwise_iff_getElem.mp nd i j hi' hj l) (by rw [ej]; exact sle_anti b a)
def spTE (K : PySem.W.Frag) : Sp := fun vs H Q E => ∃ (v wv vv : V) (r : (Nat × Int) ⊕ (Str × V)), vs = [v, wv, vv] ∧ TOut K H v wv vv r ∧ (∀ c x, r = .inl (c, x) → ∀ H', Same H H' → Q (.int (c : Nat)) H') ∧ (∀ C u, r = .inr (C, u) → RaisesC K C H u E)
def spToldE (K : PySem.W.Frag) : Sp := fun vs H Q E => ∃ (v wv vv : V) (r : (Nat × Int) ⊕ (Str × V)), vs = [v, wv, vv] ∧ TOut K H v wv vv r ∧ (∀ c x, r = .inl (c, x) → ∀ H', Same H H' → Q (.int x) H') ∧ (∀ C u, r = .inr (C, u) → RaisesC K C H u E)
theorem scE_turns : FnScope ["formula", "width", "values"] ["formula", "width", "values"] (defScope s_turns) := ⟨rfl, rfl, rfl, by decide +kernel, rfl, by decide +kernel, by decide +kernel⟩
theorem okE_turns (T : Txt K mg) : Cal P w K mg base (L2N.CX P w) (218) (ga K "turns") ["formula", "width", "values"] (spTE K) := by
  obtain ⟨fd, F⟩ := T.f_turns
  refine ⟨fd, ?_, F.kp, F.bindsN fun _ _ _ _ _ _ us hl => match us, hl with | [_, _, _], _ => rfl⟩
  refine F.ok scE_turns (fun vs H Q E h => ?_) (fun cdv A outer s H vs Q E hr h => ?_)
  · obtain ⟨_, _, _, _, rfl, _⟩ := h
    rfl
  have nod := scE_turns.nd
  have hu := hu_of hr
  refine ⟨_, (pss_cons (ps_expr (pe_alt (pe_callC (E := E) (okE_check_callless T) (hr.mono (by omega)) rfl (T.g "check_callless") (L2N.passes_call (E := E) (L2N.takes_of rfl rfl rfl rfl) (fun _ _ _ _ h => h)) (pa_cons (pv 0) pa_nil)) (pe_callC (ok_check_callless T) (hr.mono (by omega)) rfl (T.g "check_callless") pass0 (pa_cons (pv 0) pa_nil))))
  (pss_cons (ps_expr (pe_callC (E := E) (okE_check_width T) (hr.mono (by omega)) rfl (T.g "check_width") (L2N.passes_call (E := E) (L2N.takes_of rfl rfl rfl rfl) (fun _ _ _ _ h => h)) (pa_cons (pv 1) pa_nil)))
  (pss_cons (ps_expr (pe_callC (E := E) (okE_check_values T) (hr.mono (by omega)) rfl (T.g "check_values") (L2N.passes_call (E := E) (L2N.takes_of rfl rfl rfl rfl) (fun _ _ _ _ h => h)) (pa_cons (pe_methI0 (IsC := IsF K) (pv 0) (ok_Formula_input_names T) (T.mths (by decide +kernel)) (hr.mono (by omega)) pass0) (pa_cons (pv 1) (pa_cons (pv 2) pa_nil)))))
  (pss_one (ps_ret (pe_callC (E := E) (okE_turns_of T) (hr.mono (by omega)) rfl (T.g "turns_of") (L2N.passes_call (E := E) (L2N.takes_of rfl rfl rfl rfl) (fun _ _ _ _ h => h)) (pa_cons (pv 0) (pa_cons (pv 1) (pa_cons (pv 2) pa_nil))))))))), ?_⟩
  obtain ⟨v, wv, vv, r, rfl, o, q, rr⟩ := h
  have fm : ∀ {f : Fo} {a : Addr} {H1 : Hp} {R : Addr → Prop}, FoAt K H1 f a → R a → ∃ a' C dx fs, V.ref a = .ref a' ∧ IsF K C ∧ H1 a' = some (.ins C dx fs) ∧ fs.lookup ("input_names" : Str) = none ∧ R a' := fun {f a H1 R} hf q => by
    obtain ⟨dx, t, th, xs, ea, _, _, _⟩ := hf.opened
    exact ⟨a, ga K f.cls, dx, _, rfl, ⟨_, f.cls_mem, rfl⟩, ea, rfl, q⟩
  cases o with
  | badF b => exact .inl ⟨_, rfl, v, rfl, b, fun H' d s hd e => rr _ _ rfl H' d s hd e⟩
  | @badW f a _ _ n F t nw =>
    refine .inr ⟨_, rfl, f, a, rfl, F.fit.2, F.p.1, F.at_, fun H1 s1 => ?_⟩
    exact ⟨_, rfl, wv, n, rfl, t.same s1, (fun h => by rw [nw] at h; cases h), fun _ => (rr _ _ rfl).same s1⟩
  | @badV f a bw _ g z F w0 w1 va hz hb hl =>
    refine .inr ⟨_, rfl, f, a, rfl, F.fit.2, F.p.1, F.at_, fun H1 s1 => ?_⟩
    refine ⟨_, rfl, .int bw, _, rfl, .int _, fun _ => ?_, fun h => absurd h (by simp [isWth]; omega)⟩
    have F1 := F.same s1
    refine ⟨_, rfl, fm F1.at_ ⟨f, a, rfl, F.ok, F.fit, F1.at_, Fo.few false F.ok F.p, fun nl H2 ys s2 n2 as2 e2 => ?_⟩⟩
    have s12 := s1.trans s2
    refine ⟨_, rfl, _, rfl, nl, vv, ys, bw, g, rfl, e2, w1, va.same s12, fun h => ?_, fun j y hy hd hb2 => ?_⟩
    · have := h z ((as2.2.2 z).mpr hz)
      rw [hb] at this; cases this
    · have l1 := first_least (bad := fun y => isWd bw (g y) = false) as2.1 hy (fun y hy e => by rw [hd y hy] at e; cases e) z ((as2.2.2 z).mpr hz) hb
      have l2 := hl y ((as2.2.2 y).mp (List.mem_of_getElem? hy)) hb2
      rw [sle_anti l1 l2]
      exact (rr _ _ rfl).same s12
  | @long f a bw _ g e F w0 w1 va hv big =>
    refine .inr ⟨_, rfl, f, a, rfl, F.fit.2, F.p.1, F.at_, fun H1 s1 => ?_⟩
    refine ⟨_, rfl, .int bw, _, rfl, .int _, fun _ => ?_, fun h => absurd h (by simp [isWth]; omega)⟩
    have F1 := F.same s1
    refine ⟨_, rfl, fm F1.at_ ⟨f, a, rfl, F.ok, F.fit, F1.at_, Fo.few false F.ok F.p, fun nl H2 ys s2 n2 as2 e2 => ?_⟩⟩
    have s12 := s1.trans s2
    refine ⟨_, rfl, _, rfl, nl, vv, ys, bw, g, rfl, e2, w1, va.same s12, fun _ => ?_, fun j y hy hd hb2 => ?_⟩
    · exact ⟨_, rfl, _, rfl, _, rfl, f, a, vv, bw, e, rfl, vg_of (F.same s12) w0 w1 (va.same s12) hv, fun l => absurd l (by omega), fun _ => (rr _ _ rfl).same s12⟩
    · rw [wd_of (hv y ((as2.2.2 y).mp (List.mem_of_getElem? hy)))] at hb2; cases hb2
  | @fine f a bw _ g e F w0 w1 va hv cn =>
    refine .inr ⟨_, rfl, f, a, rfl, F.fit.2, F.p.1, F.at_, fun H1 s1 => ?_⟩
    refine ⟨_, rfl, .int bw, _, rfl, .int _, fun _ => ?_, fun h => absurd h (by simp [isWth]; omega)⟩
    have F1 := F.same s1
    refine ⟨_, rfl, fm F1.at_ ⟨f, a, rfl, F.ok, F.fit, F1.at_, Fo.few false F.ok F.p, fun nl H2 ys s2 n2 as2 e2 => ?_⟩⟩
    have s12 := s1.trans s2
    refine ⟨_, rfl, _, rfl, nl, vv, ys, bw, g, rfl, e2, w1, va.same s12, fun _ => ?_, fun j y hy hd hb2 => ?_⟩
    · exact ⟨_, rfl, _, rfl, _, rfl, f, a, vv, bw, e, rfl, vg_of (F.same s12) w0 w1 (va.same s12) hv, fun _ H3 s3 => q _ _ rfl H3 (s12.trans s3), fun l => absurd l (by omega)⟩
    · rw [wd_of (hv y ((as2.2.2 y).mp (List.mem_of_getElem? hy)))] at hb2; cases hb2
theorem scE_told : FnScope ["formula", "width", "values"] ["formula", "width", "values"] (defScope s_told) := ⟨rfl, rfl, rfl, by decide +kernel, rfl, by decide +kernel, by decide +kernel⟩
theorem okE_told (T : Txt K mg) : Cal P w K mg base (L2N.CX P w) (219) (ga K "told") ["formula", "width", "values"] (spToldE K) := by
  obtain ⟨fd, F⟩ := T.f_told
  refine ⟨fd, ?_, F.kp, F.bindsN fun _ _ _ _ _ _ us hl => match us, hl with | [_, _, _], _ => rfl⟩
  refine F.ok scE_told (fun vs H Q E h => ?_) (fun cdv A outer s H vs Q E hr h => ?_)
  · obtain ⟨_, _, _, _, rfl, _⟩ := h
    rfl
  have nod := scE_told.nd
  have hu := hu_of hr
  refine ⟨_, (pss_cons (ps_expr (pe_callC (E := E) (okE_turns T) (hr.mono (by omega)) rfl (T.g "turns") (L2N.passes_call (E := E) (L2N.takes_of rfl rfl rfl rfl) (fun _ _ _ _ h => h)) (pa_cons (pv 0) (pa_cons (pv 1) (pa_cons (pv 2) pa_nil)))))
  (pss_one (ps_ret (pe_callC (ok_word_of T) (hr.mono (by omega)) rfl (T.g "word_of") pass0 (pa_cons (pv 0) (pa_cons (pv 1) (pa_cons (pv 2) pa_nil))))))), ?_⟩
  obtain ⟨v, wv, vv, r, rfl, o, q, rr⟩ := h
  refine ⟨_, rfl, _, rfl, _, rfl, v, wv, vv, r, rfl, o, fun c x er H1 s1 => ?_, fun C u er => rr C u er⟩
  cases o with
  | @fine f a bw _ g e F w0 w1 va hv cn =>
    injection er with er
    injection er with e1 e2
    subst e2
    exact ⟨_, rfl, _, rfl, _, rfl, f, a, vv, bw, e, rfl, vg_of (F.same s1) w0 w1 (va.same s1) hv, cn, fun H2 s2 => q _ _ rfl H2 (s1.trans s2)⟩
  | _ => cases er

end
end KW
set_option Elab.async false
set_option linter.all false
set_option maxRecDepth 100000
set_option maxHeartbeats 8000000
namespace KW
open PySem PySem.Spec PyProof.Rows L2 He Sw L2H
section
variable {P : Program} {w : World} {K : PySem.W.Frag} {mg : Str → Option Value} {base : Heap}
/-! ### _law_word, _law_turns -/
theorem sumT_mem {f : Nat → Nat} : ∀ {n k : Nat}, k < n → f k ≤ sumT f n
  | n + 1, k, h => by
    rw [sumT]
    by_cases c : k = n
    · rw [c]; omega
    · have := sumT_mem (f := f) (n := n) (k := k) (by omega); omega
theorem sumT_mono {f : Nat → Nat} : ∀ {n k : Nat}, k ≤ n → sumT f k ≤ sumT f n
  | 0, k, h => by rw [Nat.le_zero.mp h]; exact Nat.le_refl _
  | n + 1, k, h => by
    by_cases c : k = n + 1
    · rw [c]; exact Nat.le_refl _
    · have := sumT_mono (f := f) (n := n) (k := k) (by omega)
      rw [sumT]; omega
theorem Fo.free_sub {f g : Fo} (hg : g ∈ f.kids) (hne : ∀ i b a, f ≠ .sum i b a) : ∀ z ∈ g.free, z ∈ f.free := fun z hz => by
  rw [Fo.free_kids]
  cases f with
  | sum i b a => exact absurd rfl (hne i b a)
  | num n => simp [Fo.kids] at hg
  | nam y => simp [Fo.kids] at hg
  | neg a => simp only [Fo.kids, List.mem_singleton] at hg; subst hg; simp [Fo.kids, Fo.freeL, hz]
  | shl a n => simp only [Fo.kids, List.mem_singleton] at hg; subst hg; simp [Fo.kids, Fo.freeL, hz]
  | bin o a b =>
    simp only [Fo.kids, List.mem_cons, List.not_mem_nil, or_false] at hg
    rcases hg with rfl | rfl <;> simp [Fo.kids, Fo.freeL, hz]
  | call y fs => simp only [Fo.kids] at hg; exact Fo.mem_freeL.mpr ⟨g, hg, hz⟩
theorem Fo.free_body {i : Str} {b g : Fo} {z : Str} (hz : z ∈ g.free) (c : z ≠ i) : z ∈ (Fo.sum i b g).free := by
  simp only [Fo.free]
  exact List.mem_append_left _ (List.mem_filter.mpr ⟨hz, by rw [decide_eq_false c]; rfl⟩)
theorem Fo.free_bound {i : Str} {b g : Fo} {z : Str} (hz : z ∈ b.free) : z ∈ (Fo.sum i b g).free := by
  simp only [Fo.free]
  exact List.mem_append_right _ hz
structure LIn (H : Hp) (f : Fo) (t vd : Addr) (w : Nat) (kvs : List (Key × V)) (e : Str → Int) : Prop where
  ok : f.Ok
  nc : f.NC
  tr : TrAt H f t
  w1 : w ≤ 64
  vd : H vd = some (.dK kvs)
  len : kvs.length + f.depth ≤ 200
  v : ∀ z ∈ f.free, valV kvs (.inr z) = some (.int (e z))
  wd : Wd (2 ^ w) e f.free
theorem LIn.same {H H' : Hp} {f : Fo} {t vd : Addr} {w : Nat} {kvs : List (Key × V)} {e : Str → Int} (h : LIn H f t vd w kvs e) (s : Same H H') : LIn H' f t vd w kvs e := ⟨h.ok, h.nc, h.tr.same s, h.w1, s _ _ h.vd, h.len, h.v, h.wd⟩
theorem LIn.kid {H : Hp} {f g : Fo} {t x vd : Addr} {w : Nat} {kvs : List (Key × V)} {e : Str → Int} (h : LIn H f t vd w kvs e) (hg : g ∈ f.kids) (hne : ∀ i b a, f ≠ .sum i b a) (hx : TrAt H g x) : LIn H g x vd w kvs e :=
  ⟨Fo.ok_kids h.ok g hg, h.nc.kid hg, hx, h.w1, h.vd, by have := Fo.kid_depth hg; have := h.len; omega, fun z hz => h.v z (Fo.free_sub hg hne z hz), fun z hz => h.wd z (Fo.free_sub hg hne z hz)⟩
theorem LIn.bound {H : Hp} {i : Str} {b g : Fo} {t y vd : Addr} {w : Nat} {kvs : List (Key × V)} {e : Str → Int} (h : LIn H (.sum i b g) t vd w kvs e) (hb : TrAt H b y) : LIn H b y vd w kvs e := by
  have ok := h.ok
  simp only [Fo.Ok] at ok
  obtain ⟨bp, bd⟩ := Fo.leaf_sizes ok.2.1
  have dp := Fo.depth_pos (.sum i b g)
  exact ⟨ok.2.2.1, h.nc.bound, hb, h.w1, h.vd, by have := h.len; omega, fun z hz => h.v z (Fo.free_bound hz), fun z hz => h.wd z (Fo.free_bound hz)⟩
theorem LIn.body {H H' : Hp} {i : Str} {b g : Fo} {t x vd inn : Addr} {w : Nat} {kvs kvk : List (Key × V)} {e : Str → Int} {k : Int} (h : LIn H (.sum i b g) t vd w kvs e) (hx : TrAt H' g x) (hi : H' inn = some (.dK kvk)) (hl : kvk.length ≤ kvs.length + 1)
    (hv : ∀ z, valV kvk (.inr z) = if z = i then some (.int k) else valV kvs (.inr z)) (k0 : 0 ≤ k) (k1 : k < 2 ^ w) : LIn H' g x inn w kvk (updE e i k) := by
  have ok := h.ok
  simp only [Fo.Ok] at ok
  have gd : g.depth < (Fo.sum i b g).depth := Fo.kid_depth (by simp [Fo.kids])
  refine ⟨ok.2.2.2.2.2, h.nc.kid (by simp [Fo.kids]), hx, h.w1, hi, by have := h.len; omega, fun z hz => ?_, h.wd.sum k0 k1⟩
  rw [hv]
  by_cases c : z = i
  · rw [if_pos c, c, updE_same]
  · rw [if_neg c, updE_ne c]
    exact h.v z (Fo.free_body hz c)
theorem put_val {kvs kvk : List (Key × V)} {i : Str} {k : Int} (h : ∀ z, z ≠ i → valV kvk (.inr z) = valV kvs (.inr z)) : ∀ z, valV (putK kvk (.inr i) (.int k)) (.inr z) = if z = i then some (.int k) else valV kvs (.inr z) := fun z => by
  rw [val_put]
  by_cases c : z = i
  · rw [if_pos c, if_pos (by rw [c])]
  · rw [if_neg c, if_neg (fun q => c (by injection q)), h z c]
theorem put_len {kvs kvk : List (Key × V)} {i : Str} {v : V} (h : kvk = kvs ∨ (kvk.length ≤ kvs.length + 1 ∧ ∃ u, valV kvk (.inr i) = some u)) : (putK kvk (.inr i) v).length ≤ kvs.length + 1 ∧ ∃ u, valV (putK kvk (.inr i) v) (.inr i) = some u := by
  refine ⟨?_, v, by rw [val_put, if_pos rfl]⟩
  rcases h with rfl | ⟨h1, u, h2⟩
  · exact putK_length _ _ _
  · have hany : (kvk.any fun kv => decide (kv.1 = (.inr i : Key))) = true := by
      unfold valV at h2
      cases hf : kvk.find? (fun kv => decide (kv.1 = (.inr i : Key))) with
      | none => rw [hf] at h2; cases h2
      | some kv =>
        rw [List.any_eq_true]
        exact ⟨kv, List.mem_of_find?_eq_some hf, by have := List.find?_some hf; exact this⟩
    unfold putK
    rw [if_pos hany, List.length_map]
    exact h1
theorem neg_mod (v : Int) (w : Nat) : ((2 : Int) ^ w - v) % 2 ^ w = (-v) % 2 ^ w := by
  rw [show (2 : Int) ^ w - v = -v + 2 ^ w * 1 by omega, Int.add_mul_emod_self_left]
def spLW (n : Nat) : Sp := fun vs H Q _ => ∃ (f : Fo) (t vd : Addr) (w : Nat) (kvs : List (Key × V)) (e : Str → Int), vs = [.ref t, .int (2 ^ w), .ref vd] ∧ f.depth ≤ n ∧ LIn H f t vd w kvs e ∧ f.cnt (2 ^ w) e ≤ 20000 ∧ ∀ H', Same H H' → Q (.int (f.val (2 ^ w) e)) H'
theorem sc__law_word : FnScope ["_law_tree", "_law_size", "_law_values", "_law_kind", "_law_inner", "_law_total", "_law_k", "_law_one", "_law_other"] ["_law_tree", "_law_size", "_law_values"] (defScope s__law_word) := ⟨rfl, rfl, rfl, by decide +kernel, rfl, by decide +kernel, by decide +kernel⟩
theorem ok__law_word (T : Txt K mg) : ∀ n, Cal P w K mg base CX0 (n + 2) (ga K "_law_word") ["_law_tree", "_law_size", "_law_values"] (spLW n)
  | 0 => by
    obtain ⟨fd, F⟩ := T.f__law_word
    refine ⟨fd, ⟨fun vs H Q E h => ?_, fun A outer s H args us vs Q E _ _ _ _ h => ?_⟩, F.kp, F.bindsN fun _ _ _ _ _ _ us hl => match us, hl with | [_, _, _], _ => rfl⟩
    · obtain ⟨_, _, _, _, _, _, rfl, _⟩ := h
      rfl
    · obtain ⟨_, _, _, _, _, _, _, h, _⟩ := h
      exact absurd h (Nat.not_le_of_lt (Fo.depth_pos _))
  | n + 1 => by
    have GX := ok__law_word T n
    obtain ⟨fd, F⟩ := T.f__law_word
    refine ⟨fd, ?_, F.kp, F.bindsN fun _ _ _ _ _ _ us hl => match us, hl with | [_, _, _], _ => rfl⟩
    refine F.ok sc__law_word (fun vs H Q E h => ?_) (fun cdv A outer s H vs Q E hr h => ?_)
    · obtain ⟨_, _, _, _, _, _, rfl, _⟩ := h
      rfl
    have nod := sc__law_word.nd
    have hu := hu_of hr
    refine ⟨_, PSs.nox (pss_cons (ps_set (i := 3) nod rfl (Or.inl rfl) (pe_ix ix_tup (pv 0) pe_int (fun _ _ => rfl)))
    (pss_cons (ps_if (pt_cmpR op_eq (pv 3) pe_str (nomark _))
      (pss_one (ps_ret (pe_op op_mod (pe_callTy call_int1 rfl (T.f "int") (by decide +kernel) (pa_cons (pe_ix ix_tup (pv 0) pe_int (fun _ _ => rfl)) pa_nil)) (pv 1))))
      pss_nil)
    (pss_cons (ps_if (pt_cmpR op_eq (pv 3) pe_str (nomark _))
      (pss_one (ps_ret (pe_dget hu (pv 2) (pe_ix ix_tup (pv 0) pe_int (fun _ _ => rfl)) (fun _ _ => rfl))))
      pss_nil)
    (pss_cons (ps_if (pt_cmpR op_eq (pv 3) pe_str (nomark _))
      (pss_cons (ps_set (i := 4) nod rfl (Or.inl rfl) (pe_callTy call_dictD rfl (T.f "dict") (by decide +kernel) (pa_cons (pv 2) pa_nil)))
      (pss_cons (ps_set (i := 5) nod rfl (Or.inl rfl) pe_int)
      (pss_cons (ps_for PassesOwn.never rfl (pi_range1 rfl (T.f "range") (pa_cons (pe_callC GX (hr.mono (by omega)) rfl (T.g "_law_word") pass0 (pa_cons (pe_ix ix_tup (pv 0) pe_int (fun _ _ => rfl)) (pa_cons (pv 1) (pa_cons (pv 2) pa_nil)))) pa_nil)) (pg_name (i := 6) nod rfl (Or.inl rfl))
        (pss_cons (ps_dput hu (pv 4) (pe_ix ix_tup (pv 0) pe_int (fun _ _ => rfl)) (pv 6) rfl)
        (pss_one (ps_set (i := 5) nod rfl (Or.inl rfl) (pe_op op_add (pv 5) (pe_callC GX (hr.mono (by omega)) rfl (T.g "_law_word") pass0 (pa_cons (pe_ix ix_tup (pv 0) pe_int (fun _ _ => rfl)) (pa_cons (pv 1) (pa_cons (pv 4) pa_nil)))))))))
      (pss_one (ps_ret (pe_op op_mod (pe_callTy call_int1 rfl (T.f "int") (by decide +kernel) (pa_cons (pv 5) pa_nil)) (pv 1)))))))
      pss_nil)
    (pss_cons (ps_set (i := 7) nod rfl (Or.inl rfl) (pe_callC GX (hr.mono (by omega)) rfl (T.g "_law_word") pass0 (pa_cons (pe_ix ix_tup (pv 0) pe_int (fun _ _ => rfl)) (pa_cons (pv 1) (pa_cons (pv 2) pa_nil)))))
    (pss_cons (ps_if (pt_cmpR op_eq (pv 3) pe_str (nomark _))
      (pss_one (ps_ret (pe_op op_mod (pe_callTy call_int1 rfl (T.f "int") (by decide +kernel) (pa_cons (pe_op op_sub (pv 1) (pv 7)) pa_nil)) (pv 1))))
      pss_nil)
    (pss_cons (ps_if (pt_cmpR op_eq (pv 3) pe_str (nomark _))
      (pss_one (ps_ret (pe_op op_mod (pe_callTy call_int1 rfl (T.f "int") (by decide +kernel) (pa_cons (pe_op op_shl (pv 7) (pe_ix ix_tup (pv 0) pe_int (fun _ _ => rfl))) pa_nil)) (pv 1))))
      pss_nil)
    (pss_cons (ps_set (i := 8) nod rfl (Or.inl rfl) (pe_callC GX (hr.mono (by omega)) rfl (T.g "_law_word") pass0 (pa_cons (pe_ix ix_tup (pv 0) pe_int (fun _ _ => rfl)) (pa_cons (pv 1) (pa_cons (pv 2) pa_nil)))))
    (pss_cons (ps_if (pt_cmpR op_eq (pv 3) pe_str (nomark _))
      (pss_one (ps_ret (pe_op op_mod (pe_callTy call_int1 rfl (T.f "int") (by decide +kernel) (pa_cons (pe_op op_add (pv 7) (pv 8)) pa_nil)) (pv 1))))
      pss_nil)
    (pss_cons (ps_if (pt_cmpR op_eq (pv 3) pe_str (nomark _))
      (pss_one (ps_ret (pe_op op_mod (pe_callTy call_int1 rfl (T.f "int") (by decide +kernel) (pa_cons (pe_op op_sub (pv 7) (pv 8)) pa_nil)) (pv 1))))
      pss_nil)
    (pss_one (ps_ret (pe_op op_mod (pe_callTy call_int1 rfl (T.f "int") (by decide +kernel) (pa_cons (pe_op op_mul (pv 7) (pv 8)) pa_nil)) (pv 1)))))))))))))), ?_⟩
    obtain ⟨f, t, vd, w, kvs, e, rfl, hn, I, hc, q⟩ := h
    obtain ⟨th, xs, et, sh, tk⟩ := I.tr.opened
    have w1 := I.w1
    have p64 := two_le w1
    have p0 := two_pos w
    have word : ∀ g ∈ f.kids, (∀ i b a, f ≠ .sum i b a) → 0 ≤ g.val (2 ^ w) e ∧ g.val (2 ^ w) e < 2 ^ 64 := fun g hg hne => by
      obtain ⟨h1, h2⟩ := Fo.val_word p0 g e fun z hz => I.wd z (Fo.free_sub hg hne z hz)
      exact ⟨h1, by omega⟩
    have one : ∀ {g x}, TrAts H [g] [x] → TrAt H g x := fun {g x} h => by
      simp only [TrAts] at h
      obtain ⟨x', ys, e1, q1, e2⟩ := h
      rw [e2] at e1
      injection e1 with e1
      rw [e1]; exact q1
    cases sh with
    | num m =>
      refine ⟨_, rfl, t, _, _, .str "number", rfl, rfl, SqT.of et, rfl, ?_⟩
      refine ⟨_, rfl, rfl, _, rfl, ite2 (fun _ => ?_) (fun h => absurd (by decide +kernel) h)⟩
      exact ⟨_, rfl, t, _, _, .int m, rfl, rfl, SqT.of et, rfl, .inl ⟨_, rfl, _, rfl, _, _, rfl, rfl, p0, q H (Same.refl _)⟩⟩
    | nam z =>
      refine ⟨_, rfl, t, _, _, .str "name", rfl, rfl, SqT.of et, rfl, ?_⟩
      refine ⟨_, rfl, rfl, _, rfl, ite2 (fun h => absurd h (by decide +kernel)) (fun _ => ?_)⟩
      refine ⟨_, rfl, rfl, _, rfl, ite2 (fun _ => ?_) (fun h => absurd (by decide +kernel) h)⟩
      exact ⟨_, rfl, _, rfl, t, _, _, .str z, rfl, rfl, SqT.of et, rfl, vd, _, rfl, .inl ⟨kvs, .inr z, .inl I.vd, rfl, (I.v z (by simp [Fo.free])).symm⟩, q H (Same.refl _)⟩
    | call z fs u _ eu => exact I.nc.no.elim
    | sum i b g y x hb =>
      have hx : TrAt H g x := one (by simpa only [Fo.kids] using tk)
      have gd : g.depth < (Fo.sum i b g).depth := Fo.kid_depth (by simp [Fo.kids])
      have gp := Fo.depth_pos g
      have ok := I.ok
      simp only [Fo.Ok] at ok
      obtain ⟨bp, bd⟩ := Fo.leaf_sizes ok.2.1
      simp only [Fo.cnt] at hc
      obtain ⟨hb0, hb1⟩ := Fo.val_word p0 b e I.wd.bound
      have cb : b.cnt (2 ^ w) e = 0 := by
        have := cntL_leaf (s := 2 ^ w) ok.2.1 [e]
        rwa [cntL_one] at this
      refine ⟨_, rfl, t, _, _, .str "sum", rfl, rfl, SqT.of et, rfl, ?_⟩
      refine ⟨_, rfl, rfl, _, rfl, ite2 (fun h => absurd h (by decide +kernel)) (fun _ => ?_)⟩
      refine ⟨_, rfl, rfl, _, rfl, ite2 (fun h => absurd h (by decide +kernel)) (fun _ => ?_)⟩
      refine ⟨_, rfl, rfl, _, rfl, ite2 (fun _ => ?_) (fun h => absurd (by decide +kernel) h)⟩
      refine ⟨_, rfl, vd, kvs, rfl, .inl I.vd, fun inn hin => ?_⟩
      have s1 := upd_new (o := .dK kvs) hin
      have ein : (upd H inn (.dK kvs)) inn = some (.dK kvs) := upd_same
      generalize upd H inn (.dK kvs) = H1 at s1 ein
      refine ⟨_, rfl, t, _, _, .ref y, rfl, rfl, SqT.of (s1 _ _ et), rfl, _, rfl, _, rfl, b, y, vd, w, kvs, e, rfl, by omega, (I.bound hb).same s1, by omega, fun H2 s2 => ?_⟩
      have s02 := s1.trans s2
      have back : ∀ H', SameBut inn H2 H' → Same H H' := fun H' B p o ep => B p o (fun z => by rw [z, hin] at ep; cases ep) (s02 _ _ ep)
      have nt : t ≠ inn := fun z => by rw [z, hin] at et; cases et
      refine ⟨_, rfl, by omega, by omega, for_range (lo := 0) (n := (b.val (2 ^ w) e).toNat) (fun k σ H' => ∃ v kvk, σ = [some (.ref t), some (.int (2 ^ w)), some (.ref vd), some (.str "sum"), some (.ref inn), some (.int (sumN (fun k => g.val (2 ^ w) (updE e i k)) k)), v, none, none] ∧ SameBut inn H2 H' ∧ H' inn = some (.dK kvk) ∧ (kvk = kvs ∨ (kvk.length ≤ kvs.length + 1 ∧ ∃ u, valV kvk (.inr i) = some u)) ∧ ∀ z, z ≠ i → valV kvk (.inr z) = valV kvs (.inr z))
        ⟨none, kvs, rfl, SameBut.refl, s2 _ _ ein, .inl rfl, fun _ _ => rfl⟩ ?_ ?_⟩
      · rintro k σ H3 hk ⟨v, kvk, rfl, B3, e3, l3, v3⟩
        have s03 := back H3 B3
        obtain ⟨l4, u4⟩ := put_len (v := V.int ((0 : Int) + (k : Nat))) l3
        have v4 := put_val (k := (0 : Int) + (k : Nat)) v3
        have kl : kvk.length ≤ kvs.length + 1 := by
          rcases l3 with rfl | ⟨h, _⟩
          · omega
          · exact h
        refine ⟨_, rfl, _, rfl, _, rfl, t, _, _, .str i, rfl, rfl, SqT.of (s03 _ _ et), rfl, inn, _, rfl, DPut.k (k := .inr i) e3 (tlt (by have := I.len; omega)), ?_⟩
        have B4 := B3.trans (sameBut_upd (a := inn) (H := H3) (o := .dK (putK kvk (.inr i) (.int ((0 : Int) + (k : Nat))))))
        have e4 : (upd H3 inn (.dK (putK kvk (.inr i) (.int ((0 : Int) + (k : Nat)))))) inn = some (.dK (putK kvk (.inr i) (.int ((0 : Int) + (k : Nat))))) := upd_same
        generalize upd H3 inn (.dK (putK kvk (.inr i) (.int ((0 : Int) + (k : Nat))))) = H4 at B4 e4
        have s04 := back H4 B4
        have ck := sumT_mem (f := fun k => g.cnt (2 ^ w) (updE e i ((k : Nat) : Int))) hk
        have IB := I.body (hx.same s04) e4 l4 v4 (by omega) (by omega)
        rw [Int.zero_add] at IB
        refine ⟨_, rfl, _, rfl, t, _, _, .ref x, rfl, rfl, SqT.of (s04 _ _ et), rfl, _, rfl, _, rfl, g, x, inn, w, _, updE e i ((k : Nat) : Int), rfl, by omega, IB, by omega, fun H5 s5 => ?_⟩
        refine ⟨_, _, rfl, rfl, _, _, rfl, B4.trans (SameBut.of s5), s5 _ _ e4, .inr ⟨l4, u4⟩, fun z hz => ?_⟩
        rw [v4, if_neg hz]
      · rintro σ H3 ⟨v, kvk, rfl, B3, e3, l3, v3⟩
        exact ⟨_, rfl, .inl ⟨_, rfl, _, rfl, _, _, rfl, rfl, p0, q H3 (back H3 B3)⟩⟩
    | neg g x =>
      have hgk : g ∈ (Fo.neg g).kids := by simp [Fo.kids]
      have gd := Fo.kid_depth hgk
      simp only [Fo.cnt] at hc
      refine ⟨_, rfl, t, _, _, .str "negative", rfl, rfl, SqT.of et, rfl, ?_⟩
      refine ⟨_, rfl, rfl, _, rfl, ite2 (fun h => absurd h (by decide +kernel)) (fun _ => ?_)⟩
      refine ⟨_, rfl, rfl, _, rfl, ite2 (fun h => absurd h (by decide +kernel)) (fun _ => ?_)⟩
      refine ⟨_, rfl, rfl, _, rfl, ite2 (fun h => absurd h (by decide +kernel)) (fun _ => ?_)⟩
      refine ⟨_, rfl, t, _, _, .ref x, rfl, rfl, SqT.of et, rfl, _, rfl, _, rfl, g, x, vd, w, kvs, e, rfl, by omega, I.kid hgk (fun _ _ _ h => nomatch h) (one (by simpa only [Fo.kids] using tk)), hc, fun H1 s1 => ?_⟩
      refine ⟨_, rfl, rfl, _, rfl, ite2 (fun _ => ?_) (fun h => absurd (by decide +kernel) h)⟩
      refine ⟨_, rfl, _, rfl, _, _, rfl, rfl, .inl ⟨_, rfl, _, rfl, _, _, rfl, rfl, p0, ?_⟩⟩
      have k := q H1 s1
      simp only [Fo.val] at k
      rw [← neg_mod] at k
      exact k
    | shl g m x =>
      have hgk : g ∈ (Fo.shl g m).kids := by simp [Fo.kids]
      have gd := Fo.kid_depth hgk
      have ok := I.ok
      simp only [Fo.Ok] at ok
      simp only [Fo.cnt] at hc
      have hw := word g hgk (fun _ _ _ h => nomatch h)
      refine ⟨_, rfl, t, _, _, .str "shift", rfl, rfl, SqT.of et, rfl, ?_⟩
      refine ⟨_, rfl, rfl, _, rfl, ite2 (fun h => absurd h (by decide +kernel)) (fun _ => ?_)⟩
      refine ⟨_, rfl, rfl, _, rfl, ite2 (fun h => absurd h (by decide +kernel)) (fun _ => ?_)⟩
      refine ⟨_, rfl, rfl, _, rfl, ite2 (fun h => absurd h (by decide +kernel)) (fun _ => ?_)⟩
      refine ⟨_, rfl, t, _, _, .ref x, rfl, rfl, SqT.of et, rfl, _, rfl, _, rfl, g, x, vd, w, kvs, e, rfl, by omega, I.kid hgk (fun _ _ _ h => nomatch h) (one (by simpa only [Fo.kids] using tk)), hc, fun H1 s1 => ?_⟩
      refine ⟨_, rfl, rfl, _, rfl, ite2 (fun h => absurd h (by decide +kernel)) (fun _ => ?_)⟩
      refine ⟨_, rfl, rfl, _, rfl, ite2 (fun _ => ?_) (fun h => absurd (by decide +kernel) h)⟩
      exact ⟨_, rfl, _, rfl, t, _, _, .int m, rfl, rfl, SqT.of (s1 _ _ et), rfl, _, _, rfl, rfl, ⟨ok.1, by omega, by omega⟩, .inl ⟨_, rfl, _, rfl, _, _, rfl, rfl, p0, q H1 s1⟩⟩
    | bin o g1 g2 x1 x2 =>
      have no : ∀ z : Str, (∀ x ∈ (["plus", "minus", "times"] : List Str), x ≠ z) → ¬ decide (V.str o.str = V.str z) = true := fun z hz e => by
        have e := of_decide_eq_true e
        injection e with e
        exact hz o.str (by rcases o.strs with h | h | h <;> rw [h] <;> simp) e
      have h1k : g1 ∈ (Fo.bin o g1 g2).kids := by simp [Fo.kids]
      have h2k : g2 ∈ (Fo.bin o g1 g2).kids := by simp [Fo.kids]
      have d1 := Fo.kid_depth h1k
      have d2 := Fo.kid_depth h2k
      simp only [Fo.cnt] at hc
      obtain ⟨hx1, hx2⟩ : TrAt H g1 x1 ∧ TrAt H g2 x2 := by
        simp only [Fo.kids, TrAts] at tk
        obtain ⟨x', ys, e1, q1, y', zs, e2, q2, e3⟩ := tk
        rw [e3] at e2
        rw [e2] at e1
        injection e1 with e1 e4
        injection e4 with e4
        rw [e1, e4]; exact ⟨q1, q2⟩
      have hw1 := word g1 h1k (fun _ _ _ h => nomatch h)
      refine ⟨_, rfl, t, _, _, .str o.str, rfl, rfl, SqT.of et, rfl, ?_⟩
      refine ⟨_, rfl, rfl, _, rfl, ite2 (fun h => absurd h (no _ (by decide +kernel))) (fun _ => ?_)⟩
      refine ⟨_, rfl, rfl, _, rfl, ite2 (fun h => absurd h (no _ (by decide +kernel))) (fun _ => ?_)⟩
      refine ⟨_, rfl, rfl, _, rfl, ite2 (fun h => absurd h (no _ (by decide +kernel))) (fun _ => ?_)⟩
      refine ⟨_, rfl, t, _, _, .ref x1, rfl, rfl, SqT.of et, rfl, _, rfl, _, rfl, g1, x1, vd, w, kvs, e, rfl, by omega, I.kid h1k (fun _ _ _ h => nomatch h) hx1, by omega, fun H1 s1 => ?_⟩
      refine ⟨_, rfl, rfl, _, rfl, ite2 (fun h => absurd h (no _ (by decide +kernel))) (fun _ => ?_)⟩
      refine ⟨_, rfl, rfl, _, rfl, ite2 (fun h => absurd h (no _ (by decide +kernel))) (fun _ => ?_)⟩
      refine ⟨_, rfl, t, _, _, .ref x2, rfl, rfl, SqT.of (s1 _ _ et), rfl, _, rfl, _, rfl, g2, x2, vd, w, kvs, e, rfl, by omega, (I.kid h2k (fun _ _ _ h => nomatch h) hx2).same s1, by omega, fun H2 s2 => ?_⟩
      have k := q H2 (s1.trans s2)
      cases o with
      | plus =>
        refine ⟨_, rfl, rfl, _, rfl, ite2 (fun _ => ?_) (fun h => absurd (by decide +kernel) h)⟩
        exact ⟨_, rfl, _, rfl, _, _, rfl, rfl, .inl ⟨_, rfl, _, rfl, _, _, rfl, rfl, p0, k⟩⟩
      | minus =>
        refine ⟨_, rfl, rfl, _, rfl, ite2 (fun h => absurd h (by decide +kernel)) (fun _ => ?_)⟩
        refine ⟨_, rfl, rfl, _, rfl, ite2 (fun _ => ?_) (fun h => absurd (by decide +kernel) h)⟩
        exact ⟨_, rfl, _, rfl, _, _, rfl, rfl, .inl ⟨_, rfl, _, rfl, _, _, rfl, rfl, p0, k⟩⟩
      | times =>
        refine ⟨_, rfl, rfl, _, rfl, ite2 (fun h => absurd h (by decide +kernel)) (fun _ => ?_)⟩
        refine ⟨_, rfl, rfl, _, rfl, ite2 (fun h => absurd h (by decide +kernel)) (fun _ => ?_)⟩
        exact ⟨_, rfl, _, rfl, _, _, rfl, rfl, .inl ⟨by omega, hw1.2⟩, .inl ⟨_, rfl, _, rfl, _, _, rfl, rfl, p0, k⟩⟩

end
end KW
set_option Elab.async false
set_option linter.all false
set_option maxRecDepth 100000
set_option maxHeartbeats 8000000
namespace KW
open PySem PySem.Spec PyProof.Rows L2 He Sw L2H
section
variable {P : Program} {w : World} {K : PySem.W.Frag} {mg : Str → Option Value} {base : Heap}
theorem cnt_kids {s : Int} {f : Fo} {e : Str → Int} (nc : f.NC) (hne : ∀ i b a, f ≠ .sum i b a) : f.cnt s e = (f.kids.map fun g => g.cnt s e).sum := by
  cases f with
  | sum i b g => exact absurd rfl (hne i b g)
  | call z fs => exact nc.no.elim
  | num n => simp [Fo.cnt, Fo.kids]
  | nam n => simp [Fo.cnt, Fo.kids]
  | neg g => simp [Fo.cnt, Fo.kids]
  | shl g m => simp [Fo.cnt, Fo.kids]
  | bin o g g2 => simp [Fo.cnt, Fo.kids]
theorem sum_take_le (l : List Nat) (j : Nat) : (l.take j).sum ≤ l.sum := by
  have : l.sum = (l.take j).sum + (l.drop j).sum := by rw [← List.sum_append, List.take_append_drop]
  omega
theorem sum_take_snoc {l : List Nat} {j : Nat} {x : Nat} (h : l[j]? = some x) : (l.take (j + 1)).sum = (l.take j).sum + x := by
  rw [take_at h, List.sum_append]; simp
def spLT (n : Nat) : Sp := fun vs H Q _ => ∃ (f : Fo) (t vd : Addr) (w : Nat) (kvs : List (Key × V)) (e : Str → Int) (most : Nat), vs = [.ref t, .int (2 ^ w), .ref vd, .int (most : Nat)] ∧ f.depth ≤ n ∧ LIn H f t vd w kvs e ∧ most ≤ 20000 ∧
  ∀ H', Same H H' → Q (.int ((min (f.cnt (2 ^ w) e) (most + 1) : Nat) : Int)) H'
theorem sc__law_turns : FnScope ["_law_tree", "_law_size", "_law_values", "_law_most", "_law_count", "_law_inner", "_law_many", "_law_k", "_law_one"] ["_law_tree", "_law_size", "_law_values", "_law_most"] (defScope s__law_turns) := ⟨rfl, rfl, rfl, by decide +kernel, rfl, by decide +kernel, by decide +kernel⟩
theorem ok__law_turns (T : Txt K mg) : ∀ n, Cal P w K mg base CX0 (n + 5) (ga K "_law_turns") ["_law_tree", "_law_size", "_law_values", "_law_most"] (spLT n)
  | 0 => by
    obtain ⟨fd, F⟩ := T.f__law_turns
    refine ⟨fd, ⟨fun vs H Q E h => ?_, fun A outer s H args us vs Q E _ _ _ _ h => ?_⟩, F.kp, F.bindsN fun _ _ _ _ _ _ us hl => match us, hl with | [_, _, _, _], _ => rfl⟩
    · obtain ⟨_, _, _, _, _, _, _, rfl, _⟩ := h
      rfl
    · obtain ⟨_, _, _, _, _, _, _, _, h, _⟩ := h
      exact absurd h (Nat.not_le_of_lt (Fo.depth_pos _))
  | n + 1 => by
    have GX := ok__law_turns T n
    obtain ⟨fd, F⟩ := T.f__law_turns
    refine ⟨fd, ?_, F.kp, F.bindsN fun _ _ _ _ _ _ us hl => match us, hl with | [_, _, _, _], _ => rfl⟩
    refine F.ok sc__law_turns (fun vs H Q E h => ?_) (fun cdv A outer s H vs Q E hr h => ?_)
    · obtain ⟨_, _, _, _, _, _, _, rfl, _⟩ := h
      rfl
    have nod := sc__law_turns.nd
    have hu := hu_of hr
    refine ⟨_, PSs.nox (pss_cons (ps_set (i := 4) nod rfl (Or.inl rfl) pe_int)
    (pss_cons (ps_set (i := 5) nod rfl (Or.inl rfl) (pe_callTy call_dictD rfl (T.f "dict") (by decide +kernel) (pa_cons (pv 2) pa_nil)))
    (pss_cons (ps_if (pt_cmpR op_eq (pe_ix ix_tup (pv 0) pe_int (fun _ _ => rfl)) pe_str (nomark _))
      (pss_cons (ps_set (i := 6) nod rfl (Or.inl rfl) (pe_callC (ok__law_word T 1) (hr.mono (by omega)) rfl (T.g "_law_word") pass0 (pa_cons (pe_ix ix_tup (pv 0) pe_int (fun _ _ => rfl)) (pa_cons (pv 1) (pa_cons (pv 2) pa_nil)))))
      (pss_cons (ps_set (i := 4) nod rfl (Or.inl rfl) (pv 6))
      (pss_cons (ps_if (pt_cmpR op_gt (pv 4) (pv 3) (nomark _))
        (pss_one (ps_ret (pe_op op_add (pv 3) pe_int)))
        pss_nil)
      (pss_cons (ps_for PassesOwn.never rfl (pi_range1 rfl (T.f "range") (pa_cons (pv 6) pa_nil)) (pg_name (i := 7) nod rfl (Or.inl rfl))
        (pss_cons (ps_dput hu (pv 5) (pe_ix ix_tup (pv 0) pe_int (fun _ _ => rfl)) (pv 7) rfl)
        (pss_cons (ps_set (i := 4) nod rfl (Or.inl rfl) (pe_op op_add (pv 4) (pe_callC GX (hr.mono (by omega)) rfl (T.g "_law_turns") pass0 (pa_cons (pe_ix ix_tup (pv 0) pe_int (fun _ _ => rfl)) (pa_cons (pv 1) (pa_cons (pv 5) (pa_cons (pe_op op_sub (pv 3) (pv 4)) pa_nil)))))))
        (pss_one (ps_if (pt_cmpR op_gt (pv 4) (pv 3) (nomark _))
          (pss_one (ps_ret (pe_op op_add (pv 3) pe_int)))
          pss_nil)))))
      (pss_one (ps_ret (pv 4)))))))
      pss_nil)
    (pss_cons (ps_for PassesOwn.never rfl (pi_list (pe_callC (ok__law_inside T) (hr.mono (by omega)) rfl (T.g "_law_inside") pass0 (pa_cons (pv 0) pa_nil))) (pg_name (i := 8) nod rfl (Or.inl rfl))
      (pss_cons (ps_set (i := 4) nod rfl (Or.inl rfl) (pe_op op_add (pv 4) (pe_callC GX (hr.mono (by omega)) rfl (T.g "_law_turns") pass0 (pa_cons (pv 8) (pa_cons (pv 1) (pa_cons (pv 5) (pa_cons (pe_op op_sub (pv 3) (pv 4)) pa_nil)))))))
      (pss_one (ps_if (pt_cmpR op_gt (pv 4) (pv 3) (nomark _))
        (pss_one (ps_ret (pe_op op_add (pv 3) pe_int)))
        pss_nil))))
    (pss_one (ps_ret (pv 4))))))), ?_⟩
    obtain ⟨f, t, vd, w, kvs, e, most, rfl, hn, I, hm, q⟩ := h
    obtain ⟨th, xs, et, sh, tk⟩ := I.tr.opened
    have w1 := I.w1
    have p0 := two_pos w
    refine ⟨_, rfl, vd, kvs, rfl, .inl I.vd, fun inn hin => ?_⟩
    have s1 := upd_new (o := .dK kvs) hin
    have ein : (upd H inn (.dK kvs)) inn = some (.dK kvs) := upd_same
    generalize upd H inn (.dK kvs) = H1 at s1 ein
    refine ⟨_, rfl, t, _, _, .str f.kind, rfl, rfl, SqT.of (s1 _ _ et), sh.kd, rfl, _, rfl, ?_⟩
    rcases f.kind_sum with ⟨i, b, g, rfl⟩ | hne
    · refine ite2 (fun _ => ?_) (fun n => absurd (show decide (V.str "sum" = V.str "sum") = true by decide +kernel) n)
      cases sh with
      | sum _ _ _ y x hb =>
      have hx : TrAt H g x := by
        simp only [Fo.kids, TrAts] at tk
        obtain ⟨x', ys, e1, q1, e2⟩ := tk
        rw [e2] at e1
        injection e1 with e1
        rw [e1]; exact q1
      have gd : g.depth < (Fo.sum i b g).depth := Fo.kid_depth (by simp [Fo.kids])
      have gp := Fo.depth_pos g
      have ok := I.ok
      simp only [Fo.Ok] at ok
      obtain ⟨bp, bd⟩ := Fo.leaf_sizes ok.2.1
      obtain ⟨hb0, hb1⟩ := Fo.val_word p0 b e I.wd.bound
      have cb : b.cnt (2 ^ w) e = 0 := by
        have := cntL_leaf (s := 2 ^ w) ok.2.1 [e]
        rwa [cntL_one] at this
      simp only [Fo.cnt] at q
      refine ⟨_, rfl, t, _, _, .ref y, rfl, rfl, SqT.of (s1 _ _ et), rfl, _, rfl, _, rfl, b, y, vd, w, kvs, e, rfl, by omega, (I.bound hb).same s1, by omega, fun H2 s2 => ?_⟩
      have s02 := s1.trans s2
      have back : ∀ H', SameBut inn H2 H' → Same H H' := fun H' B p o ep => B p o (fun z => by rw [z, hin] at ep; cases ep) (s02 _ _ ep)
      obtain ⟨B, hB⟩ := Int.eq_ofNat_of_zero_le hb0
      rw [hB] at hb1 ⊢
      rw [hB, Int.toNat_natCast] at q
      refine ⟨_, rfl, _, rfl, _, rfl, _, _, rfl, rfl, _, rfl, ?_⟩
      refine ite2 (fun h => ?_) (fun h => ?_)
      · have h := of_decide_eq_true (show decide ((B : Int) > (most : Int)) = true from h)
        refine ⟨_, rfl, _, _, rfl, rfl, ?_⟩
        have k := q H2 s02
        rw [Nat.min_eq_right (by omega)] at k
        exact k
      have hBm : B ≤ most := by
        have h : ¬ decide ((B : Int) > (most : Int)) = true := h
        by_cases c : (B : Int) > (most : Int)
        · exact absurd (decide_eq_true c) h
        · omega
      refine ⟨_, rfl, _, rfl, by omega, by omega, for_range (lo := 0) (n := B) (fun k σ H' => ∃ v kvk, σ = [some (.ref t), some (.int (2 ^ w)), some (.ref vd), some (.int (most : Nat)), some (.int ((B + sumT (fun k => g.cnt (2 ^ w) (updE e i k)) k : Nat) : Int)), some (.ref inn), some (.int (B : Nat)), v, none] ∧ B + sumT (fun k => g.cnt (2 ^ w) (updE e i k)) k ≤ most ∧ SameBut inn H2 H' ∧ H' inn = some (.dK kvk) ∧ (kvk = kvs ∨ (kvk.length ≤ kvs.length + 1 ∧ ∃ u, valV kvk (.inr i) = some u)) ∧ ∀ z, z ≠ i → valV kvk (.inr z) = valV kvs (.inr z))
        ⟨none, kvs, rfl, hBm, SameBut.refl, s2 _ _ ein, .inl rfl, fun _ _ => rfl⟩ ?_ ?_⟩
      · rintro k σ H3 hk ⟨v, kvk, rfl, ck, B3, e3, l3, v3⟩
        have s03 := back H3 B3
        obtain ⟨l4, u4⟩ := put_len (v := V.int ((0 : Int) + (k : Nat))) l3
        have v4 := put_val (k := (0 : Int) + (k : Nat)) v3
        have kl : kvk.length ≤ kvs.length + 1 := by
          rcases l3 with rfl | ⟨h, _⟩
          · omega
          · exact h
        refine ⟨_, rfl, _, rfl, _, rfl, t, _, _, .str i, rfl, rfl, SqT.of (s03 _ _ et), rfl, inn, _, rfl, DPut.k (k := .inr i) e3 (tlt (by have := I.len; omega)), ?_⟩
        have B4 := B3.trans (sameBut_upd (a := inn) (H := H3) (o := .dK (putK kvk (.inr i) (.int ((0 : Int) + (k : Nat))))))
        have e4 : (upd H3 inn (.dK (putK kvk (.inr i) (.int ((0 : Int) + (k : Nat)))))) inn = some (.dK (putK kvk (.inr i) (.int ((0 : Int) + (k : Nat))))) := upd_same
        generalize upd H3 inn (.dK (putK kvk (.inr i) (.int ((0 : Int) + (k : Nat))))) = H4 at B4 e4
        have s04 := back H4 B4
        have IB := I.body (hx.same s04) e4 l4 v4 (by omega) (by omega)
        rw [Int.zero_add] at IB
        obtain ⟨r, hr'⟩ : ∃ r : Nat, (most : Int) - ((B + sumT (fun k => g.cnt (2 ^ w) (updE e i k)) k : Nat) : Int) = (r : Nat) := ⟨most - (B + sumT (fun k => g.cnt (2 ^ w) (updE e i k)) k), by omega⟩
        have hr2 : r = most - (B + sumT (fun k => g.cnt (2 ^ w) (updE e i k)) k) := by omega
        refine ⟨_, rfl, _, rfl, t, _, _, .ref x, rfl, rfl, SqT.of (s04 _ _ et), rfl, _, rfl, _, rfl, _, rfl, _, rfl, _, _, rfl, rfl, g, x, inn, w, _, updE e i ((k : Nat) : Int), r, by rw [← hr']; rfl, by omega, IB, by omega, fun H5 s5 => ⟨_, _, rfl, rfl, ?_⟩⟩
        have mono := sumT_mono (f := fun k => g.cnt (2 ^ w) (updE e i ((k : Nat) : Int))) (n := B) (k := k + 1) (by omega)
        have es : sumT (fun k => g.cnt (2 ^ w) (updE e i ((k : Nat) : Int))) (k + 1) = sumT (fun k => g.cnt (2 ^ w) (updE e i ((k : Nat) : Int))) k + g.cnt (2 ^ w) (updE e i ((k : Nat) : Int)) := rfl
        have s05 := s04.trans s5
        have st : SameBut inn H2 H5 := B4.trans (SameBut.of s5)
        refine ⟨_, rfl, _, rfl, _, _, rfl, rfl, _, rfl, ?_⟩
        refine ite2 (fun h => ?_) (fun h => ?_)
        · have h := of_decide_eq_true h
          refine ⟨_, rfl, _, _, rfl, rfl, ?_⟩
          have k2 := q H5 s05
          rw [Nat.min_eq_right (by omega)] at k2
          exact k2
        · have h2 : ¬ (((B + sumT (fun k => g.cnt (2 ^ w) (updE e i ((k : Nat) : Int))) k : Nat) : Int) + ((min (g.cnt (2 ^ w) (updE e i ((k : Nat) : Int))) (r + 1) : Nat) : Int) > (most : Int)) := fun c => h (decide_eq_true c)
          have h3 : g.cnt (2 ^ w) (updE e i ((k : Nat) : Int)) ≤ r := by omega
          have hv : V.int (((B + sumT (fun k => g.cnt (2 ^ w) (updE e i ((k : Nat) : Int))) k : Nat) : Int) + ((min (g.cnt (2 ^ w) (updE e i ((k : Nat) : Int))) (r + 1) : Nat) : Int)) = V.int ((B + sumT (fun k => g.cnt (2 ^ w) (updE e i ((k : Nat) : Int))) (k + 1) : Nat) : Int) := by
            rw [Nat.min_eq_left (by omega), es, ← Int.natCast_add, Nat.add_assoc]
          exact ⟨some (.int ((0 : Int) + (k : Nat))), putK kvk (.inr i) (.int ((0 : Int) + (k : Nat))), congrArg (fun v => [some (V.ref t), some (.int (2 ^ w)), some (.ref vd), some (.int (most : Nat)), some v, some (.ref inn), some (.int (B : Nat)), some (.int ((0 : Int) + (k : Nat))), none]) hv, by rw [es]; omega, st, s5 _ _ e4, .inr ⟨l4, u4⟩, fun z hz => by rw [v4, if_neg hz]⟩
      · rintro σ H3 ⟨v, kvk, rfl, ck, B3, e3, l3, v3⟩
        have k := q H3 (back H3 B3)
        rw [Nat.min_eq_left (by omega)] at k
        exact ⟨_, rfl, k⟩
    · have hns := not_sum hne
      refine ite2 (fun n => Bool.noConfusion (hne.symm.trans n)) (fun _ => ?_)
      have ck := cnt_kids (s := 2 ^ w) (e := e) I.nc hns
      refine ⟨_, rfl, f, t, rfl, I.tr.same s1, fun kl H2 ys s2 hk ek tk2 => ⟨kl, rfl, ⟨_, SqL.of ek⟩, ?_⟩⟩
      have ly := tk2.len
      have s02 := s1.trans s2
      have ein2 := s2 _ _ ein
      have Iin : LIn H2 f t inn w kvs e := ⟨I.ok, I.nc, I.tr.same s02, I.w1, ein2, I.len, I.v, I.wd⟩
      refine for_list (xs := ys.map V.ref) (fun j σ H' => ∃ v, σ = [some (.ref t), some (.int (2 ^ w)), some (.ref vd), some (.int (most : Nat)), some (.int ((((f.kids.map fun g => g.cnt (2 ^ w) e).take j).sum : Nat) : Int)), some (.ref inn), none, none, v] ∧ ((f.kids.map fun g => g.cnt (2 ^ w) e).take j).sum ≤ most ∧ Same H2 H')
        ⟨none, rfl, by simp, Same.refl _⟩ (fun j σ H' _ ⟨_, _, _, s⟩ => SqL.of (s _ _ ek)) ?_ ?_
      · rintro j x σ H3 hx ⟨v, rfl, cj, s3⟩
        obtain ⟨y, hy, rfl⟩ := map_at hx
        obtain ⟨g, hgi, hgt⟩ := tk2.get hy
        have hg := List.mem_of_getElem? hgi
        have gd := Fo.kid_depth hg
        have hcj : (f.kids.map fun g => g.cnt (2 ^ w) e)[j]? = some (g.cnt (2 ^ w) e) := by rw [List.getElem?_map, hgi]; rfl
        have es := sum_take_snoc hcj
        have tl := sum_take_le (f.kids.map fun g => g.cnt (2 ^ w) e) (j + 1)
        rw [← ck] at tl
        obtain ⟨r, hr'⟩ : ∃ r : Nat, (most : Int) - ((((f.kids.map fun g => g.cnt (2 ^ w) e).take j).sum : Nat) : Int) = (r : Nat) := ⟨most - ((f.kids.map fun g => g.cnt (2 ^ w) e).take j).sum, by omega⟩
        have hr2 : r = most - ((f.kids.map fun g => g.cnt (2 ^ w) e).take j).sum := by omega
        refine ⟨_, rfl, _, rfl, _, rfl, _, rfl, _, rfl, _, rfl, _, _, rfl, rfl, g, y, inn, w, kvs, e, r, by rw [← hr']; rfl, by omega, (Iin.kid hg hns hgt).same s3, by omega, fun H4 s4 => ⟨_, _, rfl, rfl, ?_⟩⟩
        have s24 := s3.trans s4
        refine ⟨_, rfl, _, rfl, _, _, rfl, rfl, _, rfl, ?_⟩
        refine ite2 (fun h => ?_) (fun h => ?_)
        · have h := of_decide_eq_true h
          refine ⟨_, rfl, _, _, rfl, rfl, ?_⟩
          have k2 := q H4 (s02.trans s24)
          rw [Nat.min_eq_right (by omega)] at k2
          exact k2
        · have h2 : ¬ (((((f.kids.map fun g => g.cnt (2 ^ w) e).take j).sum : Nat) : Int) + ((min (g.cnt (2 ^ w) e) (r + 1) : Nat) : Int) > (most : Int)) := fun c => h (decide_eq_true c)
          have hv : V.int (((((f.kids.map fun g => g.cnt (2 ^ w) e).take j).sum : Nat) : Int) + ((min (g.cnt (2 ^ w) e) (r + 1) : Nat) : Int)) = V.int ((((f.kids.map fun g => g.cnt (2 ^ w) e).take (j + 1)).sum : Nat) : Int) := by
            rw [Nat.min_eq_left (by omega), es, ← Int.natCast_add]
          exact ⟨some (.ref y), congrArg (fun v => [some (V.ref t), some (.int (2 ^ w)), some (.ref vd), some (.int (most : Nat)), some v, some (.ref inn), none, none, some (.ref y)]) hv, by rw [es]; omega, s24⟩
      · rintro σ H3 ⟨v, rfl, cj, s3⟩
        rw [List.length_map, ly, show f.kids.length = (f.kids.map fun g => g.cnt (2 ^ w) e).length by simp, List.take_length, ← ck] at cj
        have k := q H3 (s02.trans s3)
        rw [Nat.min_eq_left (by omega)] at k
        rw [List.length_map, ly, show f.kids.length = (f.kids.map fun g => g.cnt (2 ^ w) e).length by simp, List.take_length, ← ck]
        exact ⟨_, rfl, k⟩

end
end KW
set_option Elab.async false
set_option linter.all false
set_option maxRecDepth 100000
set_option maxHeartbeats 8000000
namespace KW
open PySem PySem.Spec PyProof.Rows L2 He Sw L2H
section
variable {P : Program} {w : World} {K : PySem.W.Frag} {mg : Str → Option Value} {base : Heap}
local macro_rules | `(tactic| row_room_at ne) => `(tactic| first | with_reducible assumption | exact strs_st (by assumption) (by row_room_at hp) | exact StAt.ne_tup (by assumption) (by row_room_at hp) | exact (StAt.fresh (by assumption) (by assumption)).1)
local macro_rules | `(tactic| row_room_at hp) => `(tactic| first
  | with_reducible assumption
  | (apply SqL.of; row_room_at hp)
  | (apply SqT.of; row_room_at hp)
  | (apply Sw.Same.use; with_reducible assumption; row_room_at hp)
  | (apply FoAt.same; rotate_left; with_reducible assumption; row_room_at hp)
  | (apply TrAt.same; rotate_left; with_reducible assumption; row_room_at hp)
  | (apply SameBut.use; with_reducible assumption; rotate_left; row_room_at hp; row_room_at ne))
local macro_rules | `(tactic| row_room_at ati) => `(tactic| first | with_reducible assumption | rfl | (apply atI_nat; rfl))
local macro_rules | `(tactic| row_room_at cc) => `(tactic| first | with_reducible assumption | omega | decide | (refine ⟨?_, ?_⟩ <;> first | decide | omega) | (refine ⟨?_, ?_, ?_⟩ <;> first | decide | omega) | (left; refine ⟨?_, ?_⟩ <;> first | decide | omega) | (right; refine ⟨?_, ?_⟩ <;> first | decide | omega))
local macro_rules | `(tactic| row_room_at rd1) => `(tactic| with_reducible first
  | refine rd_consV (by with_unfolding_all rfl) ?_
  | refine rd_consC ?_
  | refine rd_cons ?_
  | refine rd_nil ?_
  | refine rd_kt ?_
  | refine rd_asg ?_
  | refine rd_gName ?_
  | refine rd_seqN fun _ _ => ?_
  | refine rd_var (by with_unfolding_all rfl) ?_
  | refine rd_call ?_
  | refine rd_op ?_
  | refine rd_c ?_
  | refine rd_ixL (by with_unfolding_all row_room_at hp) (by with_unfolding_all row_room_at ati) ?_
  | refine rd_ixT (by with_unfolding_all row_room_at hp) (by with_unfolding_all row_room_at ati) ?_
  | refine rd_I0 ?_
  | refine rd_test ?_
  | refine rd_eq (by with_unfolding_all rfl) ?_
  | refine rd_ne (by with_unfolding_all rfl) ?_
  | refine rd_ifS ?_
  | refine rd_bl ?_
  | refine rd_ite1 ?_
  | refine rd_ite0 ?_
  | refine rd_iteN1 ?_
  | refine rd_iteN0 ?_
  | refine rd_make ?_
  | refine rd_next ?_
  | refine rd_ret ?_
  | refine rd_CB ?_
  | refine rd_drop ?_
  | refine rd_tup ?_
  | refine rd_lst ?_
  | refine rd_sz (by with_unfolding_all first | decide | (simp only [List.length_append, List.length_map, List.length_cons, List.length_nil, List.length_take]; omega)) ?_
  | refine rd_sl ?_
  | refine rd_nopart ?_
  | refine rd_part ?_
  | refine rd_slL (by with_unfolding_all row_room_at hp) ?_
  | refine rd_cat (by with_unfolding_all row_room_at hp) (by with_unfolding_all row_room_at hp) (by with_unfolding_all first | decide | (simp only [List.length_append, List.length_map, List.length_cons, List.length_nil, List.length_take]; omega)) ?_
  | refine rd_un ?_
  | refine rd_U ?_
  | refine rd_and ?_
  | refine rd_or ?_
  | refine rd_not ?_
  | refine rd_andV ?_
  | refine rd_orV ?_
  | refine rd_notV ?_
  | refine rd_if ?_
  | refine rd_B ?_
  | refine rd_b62 (by with_unfolding_all first | decide | (constructor <;> omega)) ?_
  | refine rd_int1 ?_
  | refine rd_1I ?_
  | refine rd_2I ?_
  | refine rd_iv ?_
  | refine rd_I (by with_unfolding_all row_room_at cc) ?_
  | refine rd_lenQ (by with_unfolding_all first | exact .inl (by row_room_at hp) | exact .inr (by row_room_at hp)) ?_
  | refine rd_len (by with_unfolding_all first | exact .inl (by row_room_at hp) | exact .inr (by row_room_at hp)) ?_
  | refine rd_dget ?_
  | refine rd_dget' (by with_unfolding_all row_room_at hp) (by with_unfolding_all rfl) (by with_unfolding_all assumption) ?_
  | refine rd_dgetS (by with_unfolding_all row_room_at hp) (by with_unfolding_all assumption) ?_
  | refine rd_1B ?_
  | refine rd_dput ?_
  | refine rd_methI ?_
  | refine rd_lenK (by with_unfolding_all first | exact .inl (by row_room_at hp) | exact .inr (by row_room_at hp)) ?_
  | refine rd_dictK (by with_unfolding_all row_room_at hp) ?_
  | refine rd_brk ?_
  | refine rd_cont ?_
  | refine rd_retN ?_
  | refine rd_for ?_
  | refine rd_rng1 ?_
  | refine rd_ilist ?_
  | refine rd_ilist' (by with_unfolding_all row_room_at hp) ?_
  | refine rd_itup ?_
  | refine rd_itup' (by with_unfolding_all row_room_at hp) ?_
  | refine rd_lc ?_
  | refine rd_yes ?_
  | refine rd_bm ?_
  | refine rd_ty (by with_unfolding_all row_room_at hp) ?_
  | refine rd_append (by with_unfolding_all row_room_at hp) (by with_unfolding_all first | decide | (simp only [List.length_append, List.length_map, List.length_cons, List.length_nil]; omega)) ?_
  | refine rd_iteT (by with_unfolding_all decide +kernel) ?_
  | refine rd_iteF (by with_unfolding_all decide +kernel) ?_
  | refine rd_iteNT (by with_unfolding_all decide +kernel) ?_
  | refine rd_iteNF (by with_unfolding_all decide +kernel) ?_
  | refine rd_unN (by with_reducible assumption) ?_)
local macro_rules | `(tactic| row_room_at rd) => `(tactic| repeat row_room_at rd1)
/-! ### == of formulas, of a thing with itself -/
def SelfR (K : PySem.W.Frag) : Addr → Addr → Hp → Prop := fun a b H => a = b ∧ ∃ f, FoAt K H f a
theorem FoAt.flat {K : PySem.W.Frag} {H : Hp} {f : Fo} {a : Addr} (h : FoAt K H f a) : ∃ dx t th, H a = some (.ins (ga K f.cls) dx (flds (.str f.kind) (.ref t) f.parts f.depth)) ∧ H t = some (.tup th) ∧ ∀ x ∈ th, flatV x = true ∨ ∃ a, x = .ref a := by
  obtain ⟨dx, t, th, xs, ha, et, sh, fk⟩ := h.opened
  refine ⟨dx, t, th, ha, et, fun x hx => ?_⟩
  cases sh <;> simp only [List.mem_cons, List.not_mem_nil, or_false] at hx <;> (rcases hx with rfl | rfl | rfl) <;> first | exact .inl rfl | exact .inr ⟨_, rfl⟩
theorem sc_Formula___eq__ : FnScope ["self", "other"] ["self", "other"] (defScope s_Formula___eq__) := ⟨rfl, rfl, rfl, by decide +kernel, rfl, by decide +kernel, by decide +kernel⟩
theorem ok_Formula___eq__ (T : Txt K mg) : Cal P w K mg base CX0 (3) (ma K (ga K "Formula") "__eq__") ["self", "other"] (spEq (SelfR K)) := by
  obtain ⟨fd, F⟩ := T.f_Formula___eq__
  refine ⟨fd, ?_, F.kp, F.bindsN fun _ _ _ _ _ _ us hl => match us, hl with | [_, _], _ => rfl⟩
  refine F.ok sc_Formula___eq__ (fun vs H Q E h => ?_) (fun cdv A outer s H vs Q E hr h => ?_)
  · obtain ⟨_, _, rfl, _⟩ := h
    rfl
  have nod := sc_Formula___eq__.nd
  have hu := hu_of hr
  refine ⟨_, PSs.nox (pss_one (ps_ret (pe_and (pe_callB call_isi rfl (T.f "isinstance") (by decide +kernel) (pa_cons (pv 1) (pa_cons (pe_glob (v := .ref (ga K "Formula")) rfl (T.g "Formula") rfl) pa_nil))) (pe_and (pe_cmpR op_eq (pe_fld (pv 0) rfl) (pe_fld (pv 1) rfl) (nomark _)) (pe_one (pe_cmpR (op_eqG (rcG_tup mon_same eqG_same) (hr.mono (by omega))) (pe_fld (pv 0) rfl) (pe_fld (pv 1) rfl) (nomark _))))))), ?_⟩
  obtain ⟨a, b, rfl, ⟨rfl, f, hf⟩, q⟩ := h
  obtain ⟨dx, t, th, ha, et, fl⟩ := hf.flat
  have I := T.ins _ f.cls_mem
  have nk := I.no "kind" (by decide +kernel)
  have nt := I.no "things" (by decide +kernel)
  refine ⟨_, rfl, .ref a, _, _, _, true, rfl, .own _, .base (.ins ha I.cl I.ha I.hn I.ht I.hm), kitF T f.cls_mem, _, rfl, ?_⟩
  refine ite2 (fun _ => ?_) (fun h => absurd rfl h)
  refine ⟨_, rfl, a, _, dx, _, _, rfl, ha, I.cl, nk, rfl, _, rfl, a, _, dx, _, _, rfl, ha, I.cl, nk, rfl, rfl, _, rfl, ?_⟩
  refine ite2 (fun _ => ?_) (fun h => absurd (decide_eq_true rfl) h)
  exact ⟨_, rfl, a, _, dx, _, _, rfl, ha, I.cl, nt, rfl, _, rfl, a, _, dx, _, _, rfl, ha, I.cl, nt, rfl, ⟨t, t, th, th, rfl, rfl, SqT.of et, SqT.of et, prs_same fl⟩, fun H' e => q H' e⟩
def spEqualF (K : PySem.W.Frag) : Sp := fun vs H Q _ => ∃ (f : Fo) (a : Addr), vs = [.ref a, .ref a] ∧ FoAt K H f a ∧ (f.cls = "Call" ∨ f.cls = "Formula" ∨ f.cls = "Sum") ∧ ∀ H', Same H H' → Q (.bl true) H'
theorem ok_equalF {fd : FuncData} (T : Txt K mg) (F : FnG K "_law_equal" s__law_equal fd) : FnOk P w K mg base CX0 9 (ga K "_law_equal") fd ["_law_one", "_law_other"] (spEqualF K) := by
  obtain ⟨fdq, GQ, kq, bq⟩ := ok_Formula___eq__ (P := P) (w := w) (base := base) T
  obtain ⟨sC, iC, _⟩ := T.mth "Call" (by decide +kernel) "__eq__" (by decide +kernel)
  obtain ⟨sF, iF, _⟩ := T.mth "Formula" (by decide +kernel) "__eq__" (by decide +kernel)
  obtain ⟨sS, iS, _⟩ := T.mth "Sum" (by decide +kernel) "__eq__" (by decide +kernel)
  refine F.ok scEqual (fun vs H Q E h => ?_) (fun cdv A outer s H vs Q E hr h => ?_)
  · obtain ⟨f, a, rfl, _⟩ := h
    rfl
  obtain ⟨f, a, rfl, hf, hc, q⟩ := h
  refine ⟨_, PSs.nox (pss_cons (ps_if (PW.pt (pw_or (pt_val (pe_callB call_isi rfl (T.f "isinstance") (by decide +kernel) (pa_cons (pv 0) (pa_cons (pe_bltn (v := .ty "bool") rfl (T.f "bool") (by decide +kernel) rfl) pa_nil))))
      (pw_or1 (pt_val (pe_callB call_isi rfl (T.f "isinstance") (by decide +kernel) (pa_cons (pv 1) (pa_cons (pe_bltn (v := .ty "bool") rfl (T.f "bool") (by decide +kernel) rfl) pa_nil)))))))
      (pss_one (ps_ret (pe_and (pe_callB call_isi rfl (T.f "isinstance") (by decide +kernel) (pa_cons (pv 0) (pa_cons (pe_bltn (v := .ty "bool") rfl (T.f "bool") (by decide +kernel) rfl) pa_nil)))
        (pe_and (pe_callB call_isi rfl (T.f "isinstance") (by decide +kernel) (pa_cons (pv 1) (pa_cons (pe_bltn (v := .ty "bool") rfl (T.f "bool") (by decide +kernel) rfl) pa_nil)))
          (pe_one (pe_cmpR op_eq (pv 0) (pv 1) (nomark _))))))) pss_nil)
    (pss_one (ps_ret (pe_cmpR ((op_eqG (rcG_ins (C := ga K "Call") GQ sC iC bq pass0) (hr.mono (by omega))).or ((op_eqG (rcG_ins (C := ga K "Formula") GQ sF iF bq pass0) (hr.mono (by omega))).or (op_eqG (rcG_ins (C := ga K "Sum") GQ sS iS bq pass0) (hr.mono (by omega))))) (pv 0) (pv 1) (nomark _))))), ?_⟩
  obtain ⟨dx, fs, e⟩ := hf.ins
  have I := T.ins _ f.cls_mem
  have kb := T.clB _ f.cls_mem
  refine ⟨_, rfl, .ref a, .ty "bool", _, .type "bool", false, rfl, .ty _, .base (.ins e I.cl I.ha I.hn I.ht I.hm), kb, _, rfl, ?_⟩
  refine ite2 (fun h => absurd h (by decide)) (fun _ => ?_)
  refine ⟨_, rfl, .ref a, .ty "bool", _, .type "bool", false, rfl, .ty _, .base (.ins e I.cl I.ha I.hn I.ht I.hm), kb, _, rfl, ?_⟩
  refine ite2 (fun h => absurd h (by decide)) (fun _ => ?_)
  refine ⟨_, rfl, _, rfl, ?_⟩
  rcases hc with hc | hc | hc <;> rw [hc] at e
  · exact .inl ⟨⟨a, a, dx, dx, fs, fs, rfl, rfl, e, e, rfl, f, hf⟩, fun H' x => q H' x⟩
  · exact .inr (.inl ⟨⟨a, a, dx, dx, fs, fs, rfl, rfl, e, e, rfl, f, hf⟩, fun H' x => q H' x⟩)
  · exact .inr (.inr ⟨⟨a, a, dx, dx, fs, fs, rfl, rfl, e, e, rfl, f, hf⟩, fun H' x => q H' x⟩)
theorem c_equal (T : Txt K mg) : Cal P w K mg base CX0 9 (ga K "_law_equal") ["_law_one", "_law_other"] (fun vs H Q E => spEqual vs H Q E ∨ spEqualF K vs H Q E) := by
  obtain ⟨fd, F⟩ := T.f__law_equal
  exact ⟨fd, fnok_or ((ok_equal T F).mono (by omega)) (ok_equalF T F), F.kp, F.bindsN fun _ _ _ _ _ _ us hl => match us, hl with | [_, _], _ => rfl⟩

end
end KW
set_option Elab.async false
set_option linter.all false
set_option maxRecDepth 100000
set_option maxHeartbeats 8000000
namespace KW
open PySem PySem.Spec PyProof.Rows L2 He Sw L2H
section
variable {P : Program} {w : World} {K : PySem.W.Frag} {mg : Str → Option Value} {base : Heap}
local macro_rules | `(tactic| row_room_at ne) => `(tactic| first | with_reducible assumption | exact strs_st (by assumption) (by row_room_at hp) | exact StAt.ne_tup (by assumption) (by row_room_at hp) | exact (StAt.fresh (by assumption) (by assumption)).1)
local macro_rules | `(tactic| row_room_at hp) => `(tactic| first
  | with_reducible assumption
  | (apply SqL.of; row_room_at hp)
  | (apply SqT.of; row_room_at hp)
  | (apply Sw.Same.use; with_reducible assumption; row_room_at hp)
  | (apply FoAt.same; rotate_left; with_reducible assumption; row_room_at hp)
  | (apply TrAt.same; rotate_left; with_reducible assumption; row_room_at hp)
  | (apply SameBut.use; with_reducible assumption; rotate_left; row_room_at hp; row_room_at ne))
local macro_rules | `(tactic| row_room_at ati) => `(tactic| first | with_reducible assumption | rfl | (apply atI_nat; rfl))
local macro_rules | `(tactic| row_room_at cc) => `(tactic| first | with_reducible assumption | omega | decide | (refine ⟨?_, ?_⟩ <;> first | decide | omega) | (refine ⟨?_, ?_, ?_⟩ <;> first | decide | omega) | (left; refine ⟨?_, ?_⟩ <;> first | decide | omega) | (right; refine ⟨?_, ?_⟩ <;> first | decide | omega))
local macro_rules | `(tactic| row_room_at rd1) => `(tactic| with_reducible first
  | refine rd_consV (by with_unfolding_all rfl) ?_
  | refine rd_consC ?_
  | refine rd_cons ?_
  | refine rd_nil ?_
  | refine rd_kt ?_
  | refine rd_asg ?_
  | refine rd_gName ?_
  | refine rd_seqN fun _ _ => ?_
  | refine rd_var (by with_unfolding_all rfl) ?_
  | refine rd_call ?_
  | refine rd_op ?_
  | refine rd_c ?_
  | refine rd_ixL (by with_unfolding_all row_room_at hp) (by with_unfolding_all row_room_at ati) ?_
  | refine rd_ixT (by with_unfolding_all row_room_at hp) (by with_unfolding_all row_room_at ati) ?_
  | refine rd_I0 ?_
  | refine rd_test ?_
  | refine rd_eq (by with_unfolding_all rfl) ?_
  | refine rd_ne (by with_unfolding_all rfl) ?_
  | refine rd_ifS ?_
  | refine rd_bl ?_
  | refine rd_ite1 ?_
  | refine rd_ite0 ?_
  | refine rd_iteN1 ?_
  | refine rd_iteN0 ?_
  | refine rd_make ?_
  | refine rd_next ?_
  | refine rd_ret ?_
  | refine rd_CB ?_
  | refine rd_drop ?_
  | refine rd_tup ?_
  | refine rd_lst ?_
  | refine rd_sz (by with_unfolding_all first | decide | (simp only [List.length_append, List.length_map, List.length_cons, List.length_nil, List.length_take]; omega)) ?_
  | refine rd_sl ?_
  | refine rd_nopart ?_
  | refine rd_part ?_
  | refine rd_slL (by with_unfolding_all row_room_at hp) ?_
  | refine rd_cat (by with_unfolding_all row_room_at hp) (by with_unfolding_all row_room_at hp) (by with_unfolding_all first | decide | (simp only [List.length_append, List.length_map, List.length_cons, List.length_nil, List.length_take]; omega)) ?_
  | refine rd_un ?_
  | refine rd_U ?_
  | refine rd_and ?_
  | refine rd_or ?_
  | refine rd_not ?_
  | refine rd_andV ?_
  | refine rd_orV ?_
  | refine rd_notV ?_
  | refine rd_if ?_
  | refine rd_B ?_
  | refine rd_b62 (by with_unfolding_all first | decide | (constructor <;> omega)) ?_
  | refine rd_int1 ?_
  | refine rd_1I ?_
  | refine rd_2I ?_
  | refine rd_iv ?_
  | refine rd_I (by with_unfolding_all row_room_at cc) ?_
  | refine rd_lenQ (by with_unfolding_all first | exact .inl (by row_room_at hp) | exact .inr (by row_room_at hp)) ?_
  | refine rd_len (by with_unfolding_all first | exact .inl (by row_room_at hp) | exact .inr (by row_room_at hp)) ?_
  | refine rd_dget ?_
  | refine rd_dget' (by with_unfolding_all row_room_at hp) (by with_unfolding_all rfl) (by with_unfolding_all assumption) ?_
  | refine rd_dgetS (by with_unfolding_all row_room_at hp) (by with_unfolding_all assumption) ?_
  | refine rd_1B ?_
  | refine rd_dput ?_
  | refine rd_methI ?_
  | refine rd_lenK (by with_unfolding_all first | exact .inl (by row_room_at hp) | exact .inr (by row_room_at hp)) ?_
  | refine rd_dictK (by with_unfolding_all row_room_at hp) ?_
  | refine rd_brk ?_
  | refine rd_cont ?_
  | refine rd_retN ?_
  | refine rd_for ?_
  | refine rd_rng1 ?_
  | refine rd_ilist ?_
  | refine rd_ilist' (by with_unfolding_all row_room_at hp) ?_
  | refine rd_itup ?_
  | refine rd_itup' (by with_unfolding_all row_room_at hp) ?_
  | refine rd_lc ?_
  | refine rd_yes ?_
  | refine rd_bm ?_
  | refine rd_ty (by with_unfolding_all row_room_at hp) ?_
  | refine rd_append (by with_unfolding_all row_room_at hp) (by with_unfolding_all first | decide | (simp only [List.length_append, List.length_map, List.length_cons, List.length_nil]; omega)) ?_
  | refine rd_iteT (by with_unfolding_all decide +kernel) ?_
  | refine rd_iteF (by with_unfolding_all decide +kernel) ?_
  | refine rd_iteNT (by with_unfolding_all decide +kernel) ?_
  | refine rd_iteNF (by with_unfolding_all decide +kernel) ?_
  | refine rd_unN (by with_reducible assumption) ?_)
local macro_rules | `(tactic| row_room_at rd) => `(tactic| repeat row_room_at rd1)
theorem c_lInt (T : Txt K mg) : Cal P w K mg base CX0 1 (ga K "_law_is_integer") ["_law_thing"] spIsInt := by
  obtain ⟨fd, F⟩ := T.f__law_is_integer
  exact ⟨fd, ok_lInt T F, F.kp, F.bindsN fun _ _ _ _ _ _ us hl => match us, hl with | [_], _ => rfl⟩
/-! ### _law_tried, _law_holds -/
/-- the words of the errors -/
def kindAt : Str → Option (Nat × Str) := fun C => if C = "BadWidth" then some (1, "width") else if C = "BadFormula" then some (4, "formula") else if C = "BadValue" then some (5, "value") else if C = "TooLong" then some (7, "long") else none
theorem kind_ok : ∀ C ∈ errL, ∃ i wd, kindAt C = some (i, wd) ∧ words[i]? = some wd ∧ ∀ j : _root_.Fin kinds.length, decide (C = kinds[j]) = decide (j.val = i) := by
  intro C hC
  simp only [errL, List.mem_cons, List.not_mem_nil, or_false] at hC
  rcases hC with rfl | rfl | rfl | rfl
  · exact ⟨1, "width", by decide +kernel, rfl, by decide +kernel⟩
  · exact ⟨4, "formula", by decide +kernel, rfl, by decide +kernel⟩
  · exact ⟨5, "value", by decide +kernel, rfl, by decide +kernel⟩
  · exact ⟨7, "long", by decide +kernel, rfl, by decide +kernel⟩
theorem TOut.err {H : Hp} {v wv vv u : V} {C : Str} (h : TOut K H v wv vv (.inr (C, u))) : C ∈ errL := by cases h <;> decide +kernel
theorem BadT.sameT {H H' : Hp} {v : V} (h : BadT K H v) (s : Same H H') : BadT K H' v := h.same s
theorem TOut.same {H H' : Hp} {v wv vv : V} {r : (Nat × Int) ⊕ (Str × V)} (h : TOut K H v wv vv r) (s : Same H H') : TOut K H' v wv vv r := by
  cases h with
  | badF b => exact .badF (b.same s)
  | badW F t n => exact .badW (F.same s) (t.same s) n
  | badV F a b c d e f => exact .badV (F.same s) a b (c.same s) d e f
  | long F a b c d e => exact .long (F.same s) a b (c.same s) d e
  | fine F a b c d e => exact .fine (F.same s) a b (c.same s) d e
def pickI (cb : Bool) (c : Nat) (x : Int) : Int := if cb = true then (c : Int) else x
def spTried (K : PySem.W.Frag) : Sp := fun vs H Q _ => ∃ (v wv vv : V) (cb : Bool) (r : (Nat × Int) ⊕ (Str × V)), vs = [v, wv, vv, .bl cb] ∧ TOut K H v wv vv r ∧
  (∀ c x, r = .inl (c, x) → ∀ H' t, Same H H' → H' t = some (.tup [.str "told", .int (pickI cb c x), .non]) → Q (.ref t) H') ∧
  (∀ C u, r = .inr (C, u) → ∀ i wd H' t, kindAt C = some (i, wd) → Same H H' → H' t = some (.tup [.str "refused", .str wd, u]) → Q (.ref t) H')
theorem sc__law_tried : FnScope ["_law_formula", "_law_width", "_law_values", "_law_counting", "_law_found", "_law_e"] ["_law_formula", "_law_width", "_law_values", "_law_counting"] (defScope s__law_tried) := ⟨rfl, rfl, rfl, by decide +kernel, rfl, by decide +kernel, by decide +kernel⟩
theorem ok__law_tried (T : Txt K mg) : Cal P w K mg base CX0 221 (ga K "_law_tried") ["_law_formula", "_law_width", "_law_values", "_law_counting"] (spTried K) := by
  obtain ⟨fd, F⟩ := T.f__law_tried
  obtain ⟨fdM, GM, kM, bM⟩ := okE_told (P := P) (w := w) (base := base) T
  obtain ⟨fdN, GN, kN, bN⟩ := okE_turns (P := P) (w := w) (base := base) T
  obtain ⟨fdC, FC'⟩ := T.f__law_class
  have GC : FnE P w K mg base CX0 1 (ga K "_law_class") fdC ["_law_e"] (spClass K) := ok_class T FC'
  have bC : Binds K fdC ["_law_e"] [] := FC'.bindsN fun _ _ _ _ _ _ us hl => match us, hl with | [_], _ => rfl
  refine ⟨fd, ?_, F.kp, F.bindsN fun _ _ _ _ _ _ us hl => match us, hl with | [_, _, _, _], _ => rfl⟩
  refine F.ok sc__law_tried (fun vs H Q E h => ?_) (fun cdv A outer s H vs Q E hr h => ?_)
  · obtain ⟨v, wv, vv, cb, r, rfl, _⟩ := h
    rfl
  obtain ⟨v, wv, vv, cb, r, rfl, o, qm, qr⟩ := h
  have nod := sc__law_tried.nd
  refine ⟨_, pss_cons (ps_set (i := 4) nod rfl (Or.inl rfl) pe_non)
    (pss_cons (L2N.ps_try_as (i := 5) (x := "SameError") (c := .ref (ga K "SameError")) (Wout := fun _ _ _ _ => False) rfl rfl nod rfl rfl ⟨rfl, by decide, .inl (T.g "SameError")⟩ (fun _ _ ⟨_, _, _, _, _, _, _, _, _, _, _, _, _, _, _, _, w⟩ => w.elim)
      (fun W pn xe tkW po => pss_one (ps_if (pt_val (pv 3))
        (pss_one (ps_set (i := 4) nod rfl (Or.inl rfl) (pe_tup (pa_cons pe_str (pa_cons (pe_callS (E := L2.WE W) GN (hr.mono (by omega)) rfl (T.g "turns") kN bN (fun σ => L2N.passAt tkW σ) (pa_cons (pv 0) (pa_cons (pv 1) (pa_cons (pv 2) pa_nil)))) (pa_cons pe_non pa_nil))))))
        (pss_one (ps_set (i := 4) nod rfl (Or.inl rfl) (pe_tup (pa_cons pe_str (pa_cons (pe_callS (E := L2.WE W) GM (hr.mono (by omega)) rfl (T.g "told") kM bM (fun σ => L2N.passAt tkW σ) (pa_cons (pv 0) (pa_cons (pv 1) (pa_cons (pv 2) pa_nil)))) (pa_cons pe_non pa_nil))))))))
      (fun a oe cls d pn hz hf => pss_one (ps_set (i := 4) nod rfl (Or.inl rfl) (pe_tup (pa_cons pe_str
        (pa_cons (pe_callE (E := fun _ _ _ _ => False) (p := (a, oe)) (Z := fun p => p.1 = a ∧ Zc cls d p.2 ∧ ∃ ws, p.2.data = .fields ws) ⟨rfl, hz.zc, hf⟩ GC (roomH_mark (hr.mono (by decide)) _) ⟨rfl, by obtain ⟨ws, e⟩ := hf; exact ⟨ws, e, hz.2.2 ws e⟩⟩ List.mem_cons_self rfl (T.g "_law_class") FC'.kp bC (fun _ _ _ _ _ _ _ h => h.elim) (pa_cons (pv 5) pa_nil))
        (pa_cons (pe_xfE hz.zc hf (pv 5)) pa_nil)))))))
    (pss_one (ps_ret (pv 4)))), ?_⟩
  cases cb with
  | true =>
  refine ⟨_, rfl, true, rfl, ite2 (fun _ => ?_) (fun h => absurd rfl h)⟩
  refine ⟨_, rfl, _, rfl, _, rfl, v, wv, vv, r, rfl, o, fun c x er H1 s1 => ?_, fun C u er H' d s0 hd ed => ?_⟩
  · refine ⟨tsz (by show 3 ≤ 1000000; decide), fun p hp => ?_⟩
    have s2 := upd_new (o := .tup [V.str "told", .int (c : Nat), .non]) hp
    have e2 : (upd H1 p (.tup [V.str "told", .int (c : Nat), .non])) p = some (.tup [V.str "told", .int (c : Nat), .non]) := upd_same
    generalize upd H1 p (.tup [V.str "told", .int (c : Nat), .non]) = H2 at s2 e2 ⊢
    refine rd_gName ?_
    row_room_at rd
    exact qm c x er H2 p (s1.trans s2) e2
  · subst er
    have hC := o.err
    have TB := T.err C hC
    obtain ⟨i, wd, ek, hw, hk⟩ := kind_ok C hC
    refine ⟨true, T.exmE C hC, fun _ a ha => ?_, fun z => nomatch z⟩
    refine ⟨_, rfl, fun p ⟨pa, hz, hf⟩ => ⟨ga K C, d, [("value", u)], i, wd, by rw [pa], hz, hf, TB.e, ed, fun j y hj => ?_, T.kveE C hC, hw, fun H1 s1 => ?_⟩⟩
    · have hy : y ∈ kinds := List.mem_of_getElem? hj
      have hl : j < kinds.length := (List.getElem?_eq_some_iff.mp hj).1
      obtain ⟨_, hyj⟩ := List.getElem?_eq_some_iff.mp hj
      rw [T.kitE C hC y hy, ← hyj]
      exact congrArg some (hk ⟨j, hl⟩)
    · refine ⟨_, rfl, rfl, ga K C, d, [("value", u)], u, rfl, TB.xf, TB.nv, rfl, s1 _ _ ed, rfl, ?_⟩
      refine ⟨tsz (by show 3 ≤ 1000000; decide), fun r hr' => ?_⟩
      have s2 := upd_new (o := .tup [V.str "refused", .str wd, u]) hr'
      have er : (upd H1 r (.tup [V.str "refused", .str wd, u])) r = some (.tup [V.str "refused", .str wd, u]) := upd_same
      generalize upd H1 r (.tup [V.str "refused", .str wd, u]) = H2 at s2 er ⊢
      refine rd_gName ?_
      row_room_at rd
      exact qr C u rfl i wd H2 r ek ((s0.trans s1).trans s2) er
  | false =>
  refine ⟨_, rfl, false, rfl, ite2 (fun h => Bool.noConfusion h) (fun _ => ?_)⟩
  refine ⟨_, rfl, _, rfl, _, rfl, v, wv, vv, r, rfl, o, fun c x er H1 s1 => ?_, fun C u er H' d s0 hd ed => ?_⟩
  · refine ⟨tsz (by show 3 ≤ 1000000; decide), fun p hp => ?_⟩
    have s2 := upd_new (o := .tup [V.str "told", .int x, .non]) hp
    have e2 : (upd H1 p (.tup [V.str "told", .int x, .non])) p = some (.tup [V.str "told", .int x, .non]) := upd_same
    generalize upd H1 p (.tup [V.str "told", .int x, .non]) = H2 at s2 e2 ⊢
    refine rd_gName ?_
    row_room_at rd
    exact qm c x er H2 p (s1.trans s2) e2
  · subst er
    have hC := o.err
    have TB := T.err C hC
    obtain ⟨i, wd, ek, hw, hk⟩ := kind_ok C hC
    refine ⟨true, T.exmE C hC, fun _ a ha => ?_, fun z => nomatch z⟩
    refine ⟨_, rfl, fun p ⟨pa, hz, hf⟩ => ⟨ga K C, d, [("value", u)], i, wd, by rw [pa], hz, hf, TB.e, ed, fun j y hj => ?_, T.kveE C hC, hw, fun H1 s1 => ?_⟩⟩
    · have hy : y ∈ kinds := List.mem_of_getElem? hj
      have hl : j < kinds.length := (List.getElem?_eq_some_iff.mp hj).1
      obtain ⟨_, hyj⟩ := List.getElem?_eq_some_iff.mp hj
      rw [T.kitE C hC y hy, ← hyj]
      exact congrArg some (hk ⟨j, hl⟩)
    · refine ⟨_, rfl, rfl, ga K C, d, [("value", u)], u, rfl, TB.xf, TB.nv, rfl, s1 _ _ ed, rfl, ?_⟩
      refine ⟨tsz (by show 3 ≤ 1000000; decide), fun r hr' => ?_⟩
      have s2 := upd_new (o := .tup [V.str "refused", .str wd, u]) hr'
      have er : (upd H1 r (.tup [V.str "refused", .str wd, u])) r = some (.tup [V.str "refused", .str wd, u]) := upd_same
      generalize upd H1 r (.tup [V.str "refused", .str wd, u]) = H2 at s2 er ⊢
      refine rd_gName ?_
      row_room_at rd
      exact qr C u rfl i wd H2 r ek ((s0.trans s1).trans s2) er

end
end KW
set_option Elab.async false
set_option linter.all false
set_option maxRecDepth 100000
set_option maxHeartbeats 8000000
namespace KW
open PySem PySem.Spec PyProof.Rows L2 He Sw L2H
section
variable {P : Program} {w : World} {K : PySem.W.Frag} {mg : Str → Option Value} {base : Heap}
local macro_rules | `(tactic| row_room_at ne) => `(tactic| first | with_reducible assumption | exact strs_st (by assumption) (by row_room_at hp) | exact StAt.ne_tup (by assumption) (by row_room_at hp) | exact (StAt.fresh (by assumption) (by assumption)).1)
local macro_rules | `(tactic| row_room_at hp) => `(tactic| first
  | with_reducible assumption
  | (apply SqL.of; row_room_at hp)
  | (apply SqT.of; row_room_at hp)
  | (apply Sw.Same.use; with_reducible assumption; row_room_at hp)
  | (apply FoAt.same; rotate_left; with_reducible assumption; row_room_at hp)
  | (apply TrAt.same; rotate_left; with_reducible assumption; row_room_at hp)
  | (apply SameBut.use; with_reducible assumption; rotate_left; row_room_at hp; row_room_at ne))
local macro_rules | `(tactic| row_room_at ati) => `(tactic| first | with_reducible assumption | rfl | (apply atI_nat; rfl))
local macro_rules | `(tactic| row_room_at cc) => `(tactic| first | with_reducible assumption | omega | decide | (refine ⟨?_, ?_⟩ <;> first | decide | omega) | (refine ⟨?_, ?_, ?_⟩ <;> first | decide | omega) | (left; refine ⟨?_, ?_⟩ <;> first | decide | omega) | (right; refine ⟨?_, ?_⟩ <;> first | decide | omega))
local macro_rules | `(tactic| row_room_at rd1) => `(tactic| with_reducible first
  | refine rd_consV (by with_unfolding_all rfl) ?_
  | refine rd_consC ?_
  | refine rd_cons ?_
  | refine rd_nil ?_
  | refine rd_kt ?_
  | refine rd_asg ?_
  | refine rd_gName ?_
  | refine rd_seqN fun _ _ => ?_
  | refine rd_var (by with_unfolding_all rfl) ?_
  | refine rd_call ?_
  | refine rd_op ?_
  | refine rd_c ?_
  | refine rd_ixL (by with_unfolding_all row_room_at hp) (by with_unfolding_all row_room_at ati) ?_
  | refine rd_ixT (by with_unfolding_all row_room_at hp) (by with_unfolding_all row_room_at ati) ?_
  | refine rd_I0 ?_
  | refine rd_test ?_
  | refine rd_eq (by with_unfolding_all rfl) ?_
  | refine rd_ne (by with_unfolding_all rfl) ?_
  | refine rd_ifS ?_
  | refine rd_bl ?_
  | refine rd_ite1 ?_
  | refine rd_ite0 ?_
  | refine rd_iteN1 ?_
  | refine rd_iteN0 ?_
  | refine rd_make ?_
  | refine rd_next ?_
  | refine rd_ret ?_
  | refine rd_CB ?_
  | refine rd_drop ?_
  | refine rd_tup ?_
  | refine rd_lst ?_
  | refine rd_sz (by with_unfolding_all first | decide | (simp only [List.length_append, List.length_map, List.length_cons, List.length_nil, List.length_take]; omega)) ?_
  | refine rd_sl ?_
  | refine rd_nopart ?_
  | refine rd_part ?_
  | refine rd_slL (by with_unfolding_all row_room_at hp) ?_
  | refine rd_cat (by with_unfolding_all row_room_at hp) (by with_unfolding_all row_room_at hp) (by with_unfolding_all first | decide | (simp only [List.length_append, List.length_map, List.length_cons, List.length_nil, List.length_take]; omega)) ?_
  | refine rd_un ?_
  | refine rd_U ?_
  | refine rd_and ?_
  | refine rd_or ?_
  | refine rd_not ?_
  | refine rd_andV ?_
  | refine rd_orV ?_
  | refine rd_notV ?_
  | refine rd_if ?_
  | refine rd_B ?_
  | refine rd_b62 (by with_unfolding_all first | decide | (constructor <;> omega)) ?_
  | refine rd_int1 ?_
  | refine rd_1I ?_
  | refine rd_2I ?_
  | refine rd_iv ?_
  | refine rd_I (by with_unfolding_all row_room_at cc) ?_
  | refine rd_lenQ (by with_unfolding_all first | exact .inl (by row_room_at hp) | exact .inr (by row_room_at hp)) ?_
  | refine rd_len (by with_unfolding_all first | exact .inl (by row_room_at hp) | exact .inr (by row_room_at hp)) ?_
  | refine rd_dget ?_
  | refine rd_dget' (by with_unfolding_all row_room_at hp) (by with_unfolding_all rfl) (by with_unfolding_all assumption) ?_
  | refine rd_dgetS (by with_unfolding_all row_room_at hp) (by with_unfolding_all assumption) ?_
  | refine rd_1B ?_
  | refine rd_dput ?_
  | refine rd_methI ?_
  | refine rd_lenK (by with_unfolding_all first | exact .inl (by row_room_at hp) | exact .inr (by row_room_at hp)) ?_
  | refine rd_dictK (by with_unfolding_all row_room_at hp) ?_
  | refine rd_brk ?_
  | refine rd_cont ?_
  | refine rd_retN ?_
  | refine rd_for ?_
  | refine rd_rng1 ?_
  | refine rd_ilist ?_
  | refine rd_ilist' (by with_unfolding_all row_room_at hp) ?_
  | refine rd_itup ?_
  | refine rd_itup' (by with_unfolding_all row_room_at hp) ?_
  | refine rd_lc ?_
  | refine rd_yes ?_
  | refine rd_bm ?_
  | refine rd_ty (by with_unfolding_all row_room_at hp) ?_
  | refine rd_append (by with_unfolding_all row_room_at hp) (by with_unfolding_all first | decide | (simp only [List.length_append, List.length_map, List.length_cons, List.length_nil]; omega)) ?_
  | refine rd_iteT (by with_unfolding_all decide +kernel) ?_
  | refine rd_iteF (by with_unfolding_all decide +kernel) ?_
  | refine rd_iteNT (by with_unfolding_all decide +kernel) ?_
  | refine rd_iteNF (by with_unfolding_all decide +kernel) ?_
  | refine rd_unN (by with_reducible assumption) ?_)
local macro_rules | `(tactic| row_room_at rd) => `(tactic| repeat row_room_at rd1)
/-! ### _law_holds -/
def DueT (H : Hp) (dl : Addr) : (Nat × Int) ⊕ (Str × V) → Prop
  | .inl p => H dl = some (.tup [.str "told", .int p.2, .int (p.1 : Nat)])
  | .inr p => ∃ i wd, kindAt p.1 = some (i, wd) ∧ H dl = some (.tup [.str wd, p.2])
theorem DueT.same {H H' : Hp} {dl : Addr} {r : (Nat × Int) ⊕ (Str × V)} (h : DueT H dl r) (s : Same H H') : DueT H' dl r := by
  cases r with
  | inl p => exact s _ _ h
  | inr p => obtain ⟨i, wd, a, b⟩ := h; exact ⟨i, wd, a, s _ _ b⟩
def EqOk (K : PySem.W.Frag) (H : Hp) (u : V) : Prop := (∃ n, Th H u n) ∨ ∃ f a, u = .ref a ∧ FoAt K H f a ∧ (f.cls = "Call" ∨ f.cls = "Formula" ∨ f.cls = "Sum")
theorem EqOk.same {H H' : Hp} {u : V} (h : EqOk K H u) (s : Same H H') : EqOk K H' u := h.elim (fun ⟨n, t⟩ => .inl ⟨n, t.same s⟩) fun ⟨f, a, e, hf, c⟩ => .inr ⟨f, a, e, hf.same s, c⟩
theorem EqOk.run {H : Hp} {u : V} {Q : VK} {E : XK} (h : EqOk K H u) (q : ∀ H', Same H H' → Q (.bl true) H') : spEqual [u, u] H Q E ∨ spEqualF K [u, u] H Q E := by
  rcases h with ⟨n, t⟩ | ⟨f, a, rfl, hf, c⟩
  · exact .inl ⟨u, n, rfl, t, q H (Same.refl _)⟩
  · exact .inr ⟨f, a, rfl, hf, c, q⟩
theorem not_told : ∀ j : _root_.Fin words.length, decide (V.str words[j] = V.str "told") = false := by decide +kernel
def spHolds (K : PySem.W.Frag) : Sp := fun vs H Q _ => ∃ (v wv vv : V) (dl : Addr) (r : (Nat × Int) ⊕ (Str × V)), vs = [v, wv, vv, .ref dl] ∧ TOut K H v wv vv r ∧ DueT H dl r ∧ (∀ C u, r = .inr (C, u) → EqOk K H u) ∧ ∀ H', Same H H' → Q (.bl true) H'
theorem sc__law_holds : FnScope ["_law_formula", "_law_width", "_law_values", "_law_due_here", "_law_k", "_law_found"] ["_law_formula", "_law_width", "_law_values", "_law_due_here"] (defScope s__law_holds) := ⟨rfl, rfl, rfl, by decide +kernel, rfl, by decide +kernel, by decide +kernel⟩
theorem ok__law_holds (T : Txt K mg) : Cal P w K mg base CX0 (223) (ga K "_law_holds") ["_law_formula", "_law_width", "_law_values", "_law_due_here"] (spHolds K) := by
  obtain ⟨fd, F⟩ := T.f__law_holds
  refine ⟨fd, ?_, F.kp, F.bindsN fun _ _ _ _ _ _ us hl => match us, hl with | [_, _, _, _], _ => rfl⟩
  refine F.ok sc__law_holds (fun vs H Q E h => ?_) (fun cdv A outer s H vs Q E hr h => ?_)
  · obtain ⟨_, _, _, _, _, rfl, _⟩ := h
    rfl
  have nod := sc__law_holds.nd
  have hu := hu_of hr
  refine ⟨_, PSs.nox (pss_cons (ps_for PassesOwn.never rfl (pi_range1 rfl (T.f "range") (pa_cons pe_int pa_nil)) (pg_name (i := 4) nod rfl (Or.inl rfl))
    (pss_cons (ps_set (i := 5) nod rfl (Or.inl rfl) (pe_callC (ok__law_tried T) (hr.mono (by omega)) rfl (T.g "_law_tried") pass0 (pa_cons (pv 0) (pa_cons (pv 1) (pa_cons (pv 2) (pa_cons (pe_cmpR op_eq (pv 4) pe_int (nomark _)) pa_nil))))))
    (pss_one (ps_if (pt_cmpR op_eq (pe_ix ix_tup (pv 3) pe_int (fun _ _ => rfl)) pe_str (nomark _))
      (pss_one (ps_if (PW.pt (pw_or (pt_cmpR op_ne (pe_ix ix_tup (pv 5) pe_int (fun _ _ => rfl)) pe_str (nomark _)) (pw_or (pt_not (pt_val (pe_callC (c_lInt T) (hr.mono (by omega)) rfl (T.g "_law_is_integer") pass0 (pa_cons (pe_ix ix_tup (pv 5) pe_int (fun _ _ => rfl)) pa_nil)))) (pw_or1 (pt_cmpR op_ne (pe_ix ix_tup (pv 5) pe_int (fun _ _ => rfl)) (pe_ix ix_tup (pv 3) (pe_op op_add pe_int (pv 4)) (fun _ _ => rfl)) (nomark _))))))
        (pss_one (ps_ret pe_bl))
        pss_nil))
      (pss_one (ps_if (PW.pt (pw_or (pt_cmpR op_ne (pe_ix ix_tup (pv 5) pe_int (fun _ _ => rfl)) pe_str (nomark _)) (pw_or (pt_cmpR op_ne (pe_ix ix_tup (pv 5) pe_int (fun _ _ => rfl)) (pe_ix ix_tup (pv 3) pe_int (fun _ _ => rfl)) (nomark _)) (pw_or1 (pt_not (pt_val (pe_callC (c_equal T) (hr.mono (by omega)) rfl (T.g "_law_equal") pass0 (pa_cons (pe_ix ix_tup (pv 5) pe_int (fun _ _ => rfl)) (pa_cons (pe_ix ix_tup (pv 3) pe_int (fun _ _ => rfl)) pa_nil)))))))))
        (pss_one (ps_ret pe_bl))
        pss_nil))))))
  (pss_one (ps_ret pe_bl))), ?_⟩
  obtain ⟨v, wv, vv, dl, r, rfl, o, du, eo, q⟩ := h
  row_room_at rd
  refine for_range (lo := 0) (n := 2) (fun j σ H' => ∃ v4 v5, σ = [some v, some wv, some vv, some (.ref dl), v4, v5] ∧ Same H H') ⟨none, none, rfl, Same.refl _⟩ ?_ ?_
  · rintro j σ H1 hj ⟨v4, v5, rfl, s1⟩
    row_room_at rd
    refine ⟨v, wv, vv, decide (V.int (0 + (j : Int)) = V.int 1), r, rfl, o.same s1, fun c x er H2 t s2 e2 => ?_, fun C u er i wd H2 t ek s2 e2 => ?_⟩
    · subst er
      have du2 : H2 dl = some (.tup [.str "told", .int x, .int (c : Nat)]) := s2 _ _ (s1 _ _ du)
      have hat : atI [V.str "told", .int x, .int (c : Nat)] (1 + (0 + (j : Int))) = some (.int (pickI (decide (V.int (0 + (j : Int)) = V.int 1)) c x)) := by
        have : j = 0 ∨ j = 1 := by omega
        rcases this with rfl | rfl
        · rfl
        · rfl
      generalize pickI (decide (V.int (0 + (j : Int)) = V.int 1)) c x = pk at hat e2
      row_room_at rd
      refine ⟨_, _, rfl, .int _, ?_⟩
      refine ⟨_, rfl, ?_⟩
      refine ite2 (fun h => Bool.noConfusion (show false = true from h)) (fun _ => ?_)
      row_room_at rd
      refine ite2 (fun h => absurd h (by simp)) (fun _ => ?_)
      row_room_at rd
      exact ⟨_, _, rfl, s1.trans s2⟩
    · subst er
      obtain ⟨i', wd', ek', du1⟩ := du
      have ew : (i', wd') = (i, wd) := Option.some.inj (ek'.symm.trans ek)
      injection ew with e1 ew
      subst ew
      have du2 := s2 _ _ (s1 _ _ du1)
      obtain ⟨i2, wd2, ek2, hw2, _⟩ := kind_ok C (TOut.err o)
      have ew2 : (i2, wd2) = (i, wd') := Option.some.inj (ek2.symm.trans ek)
      injection ew2 with e3 e4
      subst e4
      obtain ⟨hl, hwj⟩ := List.getElem?_eq_some_iff.mp hw2
      have nt := not_told ⟨i2, hl⟩
      rw [show words[(⟨i2, hl⟩ : _root_.Fin words.length)] = wd2 from hwj] at nt
      row_room_at rd
      refine ite2 (fun h => absurd h (by rw [nt]; decide)) (fun _ => ?_)
      row_room_at rd
      refine ite2 (fun h => absurd h (by simp)) (fun _ => ?_)
      row_room_at rd
      refine ((eo C u rfl).same (s1.trans s2)).run fun H3 s3 => ?_
      row_room_at rd
      exact ⟨_, _, rfl, (s1.trans s2).trans s3⟩
  · rintro σ H1 ⟨v4, v5, rfl, s1⟩
    row_room_at rd
    exact q _ s1
/-! ### _law_due -/
inductive DOut (f : Fo) : V → (Str → V) → (Nat × Int) ⊕ (Str × V) → Prop
  | badW {wv : V} {g : Str → V} : isWth wv = false → DOut f wv g (.inr ("BadWidth", wv))
  | badV {bw : Nat} {g : Str → V} {z : Str} : 1 ≤ bw → bw ≤ 64 → z ∈ f.free → isWd bw (g z) = false → (∀ y ∈ f.free, isWd bw (g y) = false → sle z y) → DOut f (.int bw) g (.inr ("BadValue", .str z))
  | long {bw : Nat} {g : Str → V} {e : Str → Int} : 1 ≤ bw → bw ≤ 64 → (∀ z ∈ f.free, g z = .int (e z) ∧ 0 ≤ e z ∧ e z < 2 ^ bw) → 20000 < f.cnt (2 ^ bw) e → DOut f (.int bw) g (.inr ("TooLong", .non))
  | fine {bw : Nat} {g : Str → V} {e : Str → Int} : 1 ≤ bw → bw ≤ 64 → (∀ z ∈ f.free, g z = .int (e z) ∧ 0 ≤ e z ∧ e z < 2 ^ bw) → f.cnt (2 ^ bw) e ≤ 20000 → DOut f (.int bw) g (.inl (f.cnt (2 ^ bw) e, f.val (2 ^ bw) e))
theorem DOut.tout {H : Hp} {f : Fo} {a : Addr} {wv vv : V} {n : String} {g : Str → V} {r : (Nat × Int) ⊕ (Str × V)} (d : DOut f wv g r) (F : Fg K H f a) (t : Th H wv n) (va : ValsAt H vv g) : TOut K H (.ref a) wv vv r := by
  cases d with
  | badW h => exact .badW F t h
  | badV a b c d e => exact .badV F a b va c d e
  | long a b c d => exact .long F a b va c d
  | fine a b c d => exact .fine F a b va c d
theorem DOut.eqOk {H : Hp} {f : Fo} {wv : V} {n : String} {g : Str → V} {r : (Nat × Int) ⊕ (Str × V)} (d : DOut f wv g r) (t : Th H wv n) (ok : f.Ok) : ∀ C u, r = .inr (C, u) → EqOk K H u := fun C u e => by
  cases d with
  | badW h => cases e; exact .inl ⟨n, t⟩
  | badV a b c d _ => cases e; exact .inl ⟨_, .str _ (by have := (Fo.free_good f ok _ c).2; omega)⟩
  | long a b c d => cases e; exact .inl ⟨_, .non⟩
  | fine a b c d => cases e

end
end KW
set_option Elab.async false
set_option linter.all false
set_option maxRecDepth 100000
set_option maxHeartbeats 8000000
namespace KW
open PySem PySem.Spec PyProof.Rows L2 He Sw L2H
section
variable {P : Program} {w : World} {K : PySem.W.Frag} {mg : Str → Option Value} {base : Heap}
local macro_rules | `(tactic| row_room_at ne) => `(tactic| first | with_reducible assumption | exact strs_st (by assumption) (by row_room_at hp) | exact StAt.ne_tup (by assumption) (by row_room_at hp) | exact (StAt.fresh (by assumption) (by assumption)).1)
local macro_rules | `(tactic| row_room_at hp) => `(tactic| first
  | with_reducible assumption
  | (apply SqL.of; row_room_at hp)
  | (apply SqT.of; row_room_at hp)
  | (apply Sw.Same.use; with_reducible assumption; row_room_at hp)
  | (apply FoAt.same; rotate_left; with_reducible assumption; row_room_at hp)
  | (apply TrAt.same; rotate_left; with_reducible assumption; row_room_at hp)
  | (apply SameBut.use; with_reducible assumption; rotate_left; row_room_at hp; row_room_at ne))
local macro_rules | `(tactic| row_room_at ati) => `(tactic| first | with_reducible assumption | rfl | (apply atI_nat; rfl))
local macro_rules | `(tactic| row_room_at cc) => `(tactic| first | with_reducible assumption | omega | decide | (refine ⟨?_, ?_⟩ <;> first | decide | omega) | (refine ⟨?_, ?_, ?_⟩ <;> first | decide | omega) | (left; refine ⟨?_, ?_⟩ <;> first | decide | omega) | (right; refine ⟨?_, ?_⟩ <;> first | decide | omega))
local macro_rules | `(tactic| row_room_at rd1) => `(tactic| with_reducible first
  | refine rd_consV (by with_unfolding_all rfl) ?_
  | refine rd_consC ?_
  | refine rd_cons ?_
  | refine rd_nil ?_
  | refine rd_kt ?_
  | refine rd_asg ?_
  | refine rd_gName ?_
  | refine rd_seqN fun _ _ => ?_
  | refine rd_var (by with_unfolding_all rfl) ?_
  | refine rd_call ?_
  | refine rd_op ?_
  | refine rd_c ?_
  | refine rd_ixL (by with_unfolding_all row_room_at hp) (by with_unfolding_all row_room_at ati) ?_
  | refine rd_ixT (by with_unfolding_all row_room_at hp) (by with_unfolding_all row_room_at ati) ?_
  | refine rd_I0 ?_
  | refine rd_test ?_
  | refine rd_eq (by with_unfolding_all rfl) ?_
  | refine rd_ne (by with_unfolding_all rfl) ?_
  | refine rd_ifS ?_
  | refine rd_bl ?_
  | refine rd_ite1 ?_
  | refine rd_ite0 ?_
  | refine rd_iteN1 ?_
  | refine rd_iteN0 ?_
  | refine rd_make ?_
  | refine rd_next ?_
  | refine rd_ret ?_
  | refine rd_CB ?_
  | refine rd_drop ?_
  | refine rd_tup ?_
  | refine rd_lst ?_
  | refine rd_sz (by with_unfolding_all first | decide | (simp only [List.length_append, List.length_map, List.length_cons, List.length_nil, List.length_take]; omega)) ?_
  | refine rd_sl ?_
  | refine rd_nopart ?_
  | refine rd_part ?_
  | refine rd_slL (by with_unfolding_all row_room_at hp) ?_
  | refine rd_cat (by with_unfolding_all row_room_at hp) (by with_unfolding_all row_room_at hp) (by with_unfolding_all first | decide | (simp only [List.length_append, List.length_map, List.length_cons, List.length_nil, List.length_take]; omega)) ?_
  | refine rd_un ?_
  | refine rd_U ?_
  | refine rd_and ?_
  | refine rd_or ?_
  | refine rd_not ?_
  | refine rd_andV ?_
  | refine rd_orV ?_
  | refine rd_notV ?_
  | refine rd_if ?_
  | refine rd_B ?_
  | refine rd_b62 (by with_unfolding_all first | decide | (constructor <;> omega)) ?_
  | refine rd_int1 ?_
  | refine rd_1I ?_
  | refine rd_2I ?_
  | refine rd_iv ?_
  | refine rd_I (by with_unfolding_all row_room_at cc) ?_
  | refine rd_lenQ (by with_unfolding_all first | exact .inl (by row_room_at hp) | exact .inr (by row_room_at hp)) ?_
  | refine rd_len (by with_unfolding_all first | exact .inl (by row_room_at hp) | exact .inr (by row_room_at hp)) ?_
  | refine rd_dget ?_
  | refine rd_dget' (by with_unfolding_all row_room_at hp) (by with_unfolding_all rfl) (by with_unfolding_all assumption) ?_
  | refine rd_dgetS (by with_unfolding_all row_room_at hp) (by with_unfolding_all assumption) ?_
  | refine rd_1B ?_
  | refine rd_dput ?_
  | refine rd_methI ?_
  | refine rd_lenK (by with_unfolding_all first | exact .inl (by row_room_at hp) | exact .inr (by row_room_at hp)) ?_
  | refine rd_dictK (by with_unfolding_all row_room_at hp) ?_
  | refine rd_brk ?_
  | refine rd_cont ?_
  | refine rd_retN ?_
  | refine rd_for ?_
  | refine rd_rng1 ?_
  | refine rd_ilist ?_
  | refine rd_ilist' (by with_unfolding_all row_room_at hp) ?_
  | refine rd_itup ?_
  | refine rd_itup' (by with_unfolding_all row_room_at hp) ?_
  | refine rd_lc ?_
  | refine rd_yes ?_
  | refine rd_bm ?_
  | refine rd_ty (by with_unfolding_all row_room_at hp) ?_
  | refine rd_append (by with_unfolding_all row_room_at hp) (by with_unfolding_all first | decide | (simp only [List.length_append, List.length_map, List.length_cons, List.length_nil]; omega)) ?_
  | refine rd_iteT (by with_unfolding_all decide +kernel) ?_
  | refine rd_iteF (by with_unfolding_all decide +kernel) ?_
  | refine rd_iteNT (by with_unfolding_all decide +kernel) ?_
  | refine rd_iteNF (by with_unfolding_all decide +kernel) ?_
  | refine rd_unN (by with_reducible assumption) ?_)
local macro_rules | `(tactic| row_room_at rd) => `(tactic| repeat row_room_at rd1)
theorem dp_strs {H : Hp} : ∀ fs : List Str, DpAll K H (fs.map V.str) (fs.map PyData.str)
  | [] => .nil
  | z :: fs => .cons (.str z) (dp_strs fs)
theorem strOk_good {z : Str} (h : GoodN z) : PyData.strOk z = true := by
  have h1 : low z = true := by
    have h := h.1
    unfold isNmS at h
    simp only [Bool.and_eq_true] at h
    exact h.2.2.2
  unfold PyData.strOk
  rw [← Array.all_toList, List.all_eq_true]
  intro c hc
  unfold low at h1
  rw [List.all_eq_true] at h1
  have h2 := of_decide_eq_true (h1 c hc)
  have h3 : ∀ c ∈ LET.cps.toList, c < 0x110000 := by decide +kernel
  exact decide_eq_true (h3 c h2)
theorem sh_strs : ∀ (fs : List Str), (∀ z ∈ fs, GoodN z) → SeqAt.shaped (.list (fs.map PyData.str)) = true := fun fs h => by
  have h1 : ∀ fs : List Str, (∀ z ∈ fs, GoodN z) → PyData.canLayAll0 (fs.map PyData.str) = true ∧ PyData.depthAll (fs.map PyData.str) = 0 := by
    intro fs
    induction fs with
    | nil => intro _; exact ⟨by simp [PyData.canLayAll0], by simp [PyData.depthAll]⟩
    | cons z fs ih =>
      intro h
      obtain ⟨a1, a2⟩ := ih fun y hy => h y (List.mem_cons_of_mem _ hy)
      have a3 := strOk_good (h z List.mem_cons_self)
      exact ⟨by simp [PyData.canLayAll0, PyData.canLay0, a1, a3], by simp [PyData.depthAll, PyData.depth, a2]⟩
  obtain ⟨a1, a2⟩ := h1 fs h
  unfold SeqAt.shaped
  simp [PyData.canLay0, PyData.depth, a1, a2]
theorem kat_kw : kindAt "BadWidth" = some (1, ("width" : Str)) := by decide +kernel
theorem kat_kv : kindAt "BadValue" = some (5, ("value" : Str)) := by decide +kernel
theorem kat_kl : kindAt "TooLong" = some (7, ("long" : Str)) := by decide +kernel
theorem kat_kf : kindAt "BadFormula" = some (4, ("formula" : Str)) := by decide +kernel
theorem shr_all : ∀ w : _root_.Fin 65, (2 : Int) ^ 64 / 2 ^ (64 - w.val) = 2 ^ w.val := by decide +kernel
theorem size_eq {w : Nat} (h : w ≤ 64) : (2 : Int) ^ (64 : Int).toNat / 2 ^ ((64 : Int) - (w : Int)).toNat = 2 ^ w := by
  have h1 := shr_all ⟨w, by omega⟩
  rw [show ((64 : Int) - (w : Int)).toNat = 64 - w by omega]
  exact h1
def eOf (g : Str → V) : Str → Int := fun z => match g z with | .int i => i | _ => 0
theorem eOf_wd {bw : Nat} {g : Str → V} {z : Str} (h : isWd bw (g z) = true) : g z = .int (eOf g z) ∧ 0 ≤ eOf g z ∧ eOf g z < 2 ^ bw := by
  obtain ⟨i, e, h0, h1⟩ := isWd_int h
  unfold eOf
  rw [e]
  exact ⟨rfl, h0, h1⟩
theorem isWth_iff {v : V} (h : isWth v = false) (hI : isI v = true) : ∃ i, v = .int i ∧ (i < 1 ∨ 64 < i) := by
  cases v with
  | int i =>
    have h := of_decide_eq_false h
    exact ⟨i, rfl, by omega⟩
  | _ => cases hI
def spDue : Sp := fun vs H Q _ => ∃ (f : Fo) (t : Addr) (wv vv : V) (n : String) (g : Str → V), vs = [.ref t, wv, vv] ∧ f.Ok ∧ f.Few ∧ f.Fits ∧ TrAt H f t ∧ Th H wv n ∧ ValsAt H vv g ∧ (∀ vd kvs, vv = .ref vd → H vd = some (.dK kvs) → kvs.length ≤ 100) ∧
  ∀ H' dl r, Same H H' → DOut f wv g r → DueT H' dl r → Q (.ref dl) H'
theorem sc__law_due : FnScope ["_law_tree", "_law_width", "_law_values", "_law_size", "_law_inputs_here", "_law_name", "_law_count"] ["_law_tree", "_law_width", "_law_values"] (defScope s__law_due) := ⟨rfl, rfl, rfl, by decide +kernel, rfl, by decide +kernel, by decide +kernel⟩
theorem ok__law_due (T : Txt K mg) : Cal P w K mg base CX0 (220) (ga K "_law_due") ["_law_tree", "_law_width", "_law_values"] spDue := by
  obtain ⟨fd, F⟩ := T.f__law_due
  refine ⟨fd, ?_, F.kp, F.bindsN fun _ _ _ _ _ _ us hl => match us, hl with | [_, _, _], _ => rfl⟩
  refine F.ok sc__law_due (fun vs H Q E h => ?_) (fun cdv A outer s H vs Q E hr h => ?_)
  · obtain ⟨_, _, _, _, _, _, rfl, _⟩ := h
    rfl
  have nod := sc__law_due.nd
  have hu := hu_of hr
  refine ⟨_, PSs.nox (pss_cons (ps_if (PW.pt (pw_or (pt_not (pt_val (pe_callC (c_lInt T) (hr.mono (by omega)) rfl (T.g "_law_is_integer") pass0 (pa_cons (pv 1) pa_nil)))) (pw_or (pt_cmpR op_lt (pv 1) pe_int (nomark _)) (pw_or1 (pt_cmpR op_gt (pv 1) pe_int (nomark _))))))
    (pss_one (ps_ret (pe_tup (pa_cons pe_str (pa_cons (pv 1) pa_nil)))))
    pss_nil)
  (pss_cons (ps_set (i := 3) nod rfl (Or.inl rfl) (pe_op op_shr (pe_op op_pow pe_int pe_int) (pe_op op_sub pe_int (pv 1))))
  (pss_cons (ps_set (i := 4) nod rfl (Or.inl rfl) (pe_lst pa_nil))
  (pss_cons (ps_expr (pe_callC (ok__law_inputs T 60) (hr.mono (by omega)) rfl (T.g "_law_inputs") pass0 (pa_cons (pv 0) (pa_cons (pe_lst pa_nil) (pa_cons (pv 4) (pa_cons pe_bl pa_nil))))))
  (pss_cons (ps_for PassesOwn.never rfl (pi_list (pe_callB cr_sortedS rfl (T.f "sorted") (by decide +kernel) (pa_cons (pv 4) pa_nil))) (pg_name (i := 5) nod rfl (Or.inl rfl))
    (pss_cons (ps_if (PW.pt (pw_or (pt_not (pt_val (pe_callB call_isi rfl (T.f "isinstance") (by decide +kernel) (pa_cons (pv 2) (pa_cons (pe_bltn (v := .ty "dict") rfl (T.f "dict") (by decide +kernel) rfl) pa_nil))))) (pw_or1 (pt_cmp (pc_dnotin hu (pv 5) (pv 2))))))
      (pss_one (ps_ret (pe_tup (pa_cons pe_str (pa_cons (pv 5) pa_nil)))))
      pss_nil)
    (pss_one (ps_if (PW.pt (pw_or (pt_not (pt_val (pe_callC (c_lInt T) (hr.mono (by omega)) rfl (T.g "_law_is_integer") pass0 (pa_cons (pe_dget hu (pv 2) (pv 5) (fun _ _ => rfl)) pa_nil)))) (pw_or (pt_cmpR op_lt (pe_dget hu (pv 2) (pv 5) (fun _ _ => rfl)) pe_int (nomark _)) (pw_or1 (pt_cmpR op_ge (pe_dget hu (pv 2) (pv 5) (fun _ _ => rfl)) (pv 3) (nomark _))))))
      (pss_one (ps_ret (pe_tup (pa_cons pe_str (pa_cons (pv 5) pa_nil)))))
      pss_nil))))
  (C8.pss_cut (ps_if (pt_cmpR (op_eqD hr.units) (pv 4) (pe_lst pa_nil) (nomark _))
    (pss_one (ps_set (i := 2) nod rfl (Or.inl rfl) pe_dnewK))
    pss_nil)
  (pss_cons (ps_set (i := 6) nod rfl (Or.inl rfl) (pe_callC (ok__law_turns T 60) (hr.mono (by omega)) rfl (T.g "_law_turns") pass0 (pa_cons (pv 0) (pa_cons (pv 3) (pa_cons (pv 2) (pa_cons pe_int pa_nil))))))
  (pss_cons (ps_if (pt_cmpR op_gt (pv 6) pe_int (nomark _))
    (pss_one (ps_ret (pe_tup (pa_cons pe_str (pa_cons pe_non pa_nil)))))
    pss_nil)
  (pss_one (ps_ret (pe_tup (pa_cons pe_str (pa_cons (pe_callC (ok__law_word T 60) (hr.mono (by omega)) rfl (T.g "_law_word") pass0 (pa_cons (pv 0) (pa_cons (pv 3) (pa_cons (pv 2) pa_nil)))) (pa_cons (pv 6) pa_nil)))))))))))))), ?_⟩
  obtain ⟨f, t, wv, vv, n, g, rfl, ok, few, fit, ht, tw, va, vl, q⟩ := h
  have newt : ∀ {H1 : Hp} {p : Addr} {xs : List V}, Same H H1 → H1 p = none → Same H (upd H1 p (.tup xs)) := fun {H1 p xs} s hp => s.trans (upd_new hp)
  row_room_at rd
  refine ⟨wv, n, rfl, tw, ?_⟩
  refine ⟨_, rfl, ?_⟩
  have badw : isWth wv = false → ∀ p, H p = none → Q (.ref p) (upd H p (.tup [.str "width", wv])) := fun hw p hp => q _ p _ (upd_new hp) (.badW hw) ⟨1, "width", kat_kw, upd_same⟩
  by_cases hI : isI wv = true
  case neg =>
    have e2 : isI wv = false := by cases h : isI wv <;> first | rfl | exact absurd h hI
    have e : isWth wv = false := by cases tw <;> first | rfl | exact absurd rfl hI
    rw [e2]
    refine ite2 (fun _ => ?_) (fun h => absurd (show (!false) = true from rfl) h)
    row_room_at rd
    exact badw e
  rw [hI]
  refine ite2 (fun h => Bool.noConfusion (show false = true from h)) (fun _ => ?_)
  obtain ⟨i, rfl⟩ : ∃ i, wv = .int i := by cases tw <;> first | exact ⟨_, rfl⟩ | cases hI
  row_room_at rd
  by_cases i1 : i < 1
  · refine ite2 (fun _ => ?_) (fun h => absurd (decide_eq_true i1) h)
    row_room_at rd
    exact badw (by simp [isWth]; omega)
  refine ite2 (fun h => absurd (of_decide_eq_true h) i1) (fun _ => ?_)
  row_room_at rd
  by_cases i2 : i > 64
  · refine ite2 (fun _ => ?_) (fun h => absurd (decide_eq_true i2) h)
    row_room_at rd
    exact badw (by simp [isWth]; omega)
  refine ite2 (fun h => absurd (of_decide_eq_true h) i2) (fun _ => ?_)
  obtain ⟨bw, rfl, w0, w1⟩ : ∃ bw : Nat, i = (bw : Nat) ∧ 1 ≤ bw ∧ bw ≤ 64 := ⟨i.toNat, by omega, by omega, by omega⟩
  clear i1 i2 badw hI tw
  row_room_at rd
  rw [size_eq w1]
  have pw := two_pos bw
  -- the inputs
  refine rd_new fun fl H1 hfl s1 e1 => ?_
  row_room_at rd
  refine rd_new fun hl H2 hhl s2 e2 => ?_
  row_room_at rd
  have e1 : H1 fl = some (.lst (([] : List Str).map V.str)) := e1
  have e2 : H2 hl = some (.lst (([] : List Str).map V.str)) := e2
  have nhf : hl ≠ fl := fun z => by rw [z, e1] at hhl; cases hhl
  have fp := fit.1
  have fd40 := fit.2
  have fle := Fo.depth_le f
  refine ⟨f, t, hl, fl, [], [], false, rfl, by omega, ok, (by row_room_at hp), e2, s2 _ _ e1, nhf, by show 0 + _ ≤ _; omega, by show 0 + _ ≤ _; omega, fun H3 fd B3 e3 c3 => ?_⟩
  have s3 : Same H H3 := fun b o e => B3 b o (fun z => by rw [z, hfl] at e; cases e) (s2 _ _ (s1 _ _ e))
  have mem : ∀ z, z ∈ fd ↔ z ∈ f.free := fun z => by
    rw [c3.mem]
    exact ⟨fun h => h.elim (fun h => by cases h) fun h => h.2, fun h => .inr ⟨fun h => (by cases h), h⟩⟩
  have ndf := c3.nd List.nodup_nil
  have l64 := Fo.few false ok few fd ndf mem
  clear B3 c3 e1 e2 s1 s2 hfl hhl nhf
  row_room_at rd
  refine ⟨fl, fd, rfl, SqL.of e3, l64, fun ys p py so hp => ?_⟩
  have s4 := upd_new (o := .lst (ys.map V.str)) hp
  have e4 : (upd H3 p (.lst (ys.map V.str))) p = some (.lst (ys.map V.str)) := upd_same
  have e3' := s4 _ _ e3
  generalize upd H3 p (.lst (ys.map V.str)) = H4 at s4 e4 e3' ⊢
  have s04 := s3.trans s4
  have memy : ∀ z, z ∈ ys ↔ z ∈ f.free := fun z => by rw [py.mem_iff]; exact mem z
  have ndy : ys.Nodup := py.symm.nodup ndf
  row_room_at rd
  refine for_list (xs := ys.map V.str) (fun j σ H' => ∃ v5, σ = [some (.ref t), some (.int (bw : Nat)), some vv, some (.int (2 ^ bw)), some (.ref fl), v5, none] ∧ Same H4 H' ∧ ∀ y ∈ ys.take j, isWd bw (g y) = true) ⟨none, rfl, Same.refl _, fun y hy => by simp at hy⟩ (fun j σ H' _ ⟨_, _, s, _⟩ => SqL.of (s _ _ e4)) ?_ ?_
  · rintro j x σ H5 hx ⟨v5, rfl, s5, hd⟩
    obtain ⟨z, hz, rfl⟩ := map_at hx
    have s05 := s04.trans s5
    have bad : isWd bw (g z) = false → ∀ p, H5 p = none → Q (.ref p) (upd H5 p (.tup [.str "value", .str z])) := fun hb p hp => q _ p _ (newt s05 hp) (.badV w0 w1 ((memy z).mp (List.mem_of_getElem? hz)) hb fun y hy by_ => first_least (bad := fun y => isWd bw (g y) = false) so hz (fun y hy e => by rw [hd y hy] at e; cases e) y ((memy y).mpr hy) by_) ⟨5, "value", kat_kv, upd_same⟩
    have go : isWd bw (g z) = true → ∀ y ∈ ys.take (j + 1), isWd bw (g y) = true := fun hg y hy => by
      rw [take_at hz] at hy
      rcases List.mem_append.mp hy with hy | hy
      · exact hd y hy
      · rw [List.mem_singleton.mp hy]; exact hg
    row_room_at rd
    cases va with
    | no nd =>
      obtain ⟨n, ty, kt⟩ := (nd.same s05).ty (K := K)
      refine ⟨vv, _, _, .type "dict", false, rfl, .ty _, ty, kt, _, rfl, ?_⟩
      refine ite2 (fun _ => ?_) (fun h => absurd (show (!false) = true from rfl) h)
      row_room_at rd
      exact bad rfl
    | @dict vd kvs ed pl =>
      have ed5 := s05 _ _ ed
      refine ⟨.ref vd, _, _, .type "dict", true, rfl, .ty _, .base (.dK ed5), kit_ty (show kitB _ _ = some true by decide +kernel), _, rfl, ?_⟩
      refine ite2 (fun h => Bool.noConfusion (show false = true from h)) (fun _ => ?_)
      have bad : isWd bw ((valV kvs (.inr z)).getD .non) = false → _ := bad
      have go : isWd bw ((valV kvs (.inr z)).getD .non) = true → _ := go
      cases hv : valV kvs (.inr z) with
      | none =>
        rw [hv] at bad
        refine ⟨_, rfl, _, rfl, vd, none, rfl, .inl ⟨kvs, .inr z, .inl ed5, rfl, hv.symm⟩, ?_⟩
        refine ⟨_, rfl, ite2 (fun _ => ?_) (fun h => absurd rfl h)⟩
        row_room_at rd
        exact bad rfl
      | some v =>
        rw [hv] at bad go
        have bad : isWd bw v = false → _ := bad
        have go : isWd bw v = true → _ := go
        have get : DGet H5 vd (V.str z) (some v) := .inl ⟨kvs, .inr z, .inl ed5, rfl, hv.symm⟩
        refine ⟨_, rfl, _, rfl, vd, some v, rfl, get, ?_⟩
        refine ⟨_, rfl, ite2 (fun h => Bool.noConfusion (show false = true from h)) (fun _ => ?_)⟩
        obtain ⟨n', tv⟩ := (pl z v hv).th (H := H5)
        row_room_at rd
        refine ⟨vd, v, rfl, get, ?_⟩
        row_room_at rd
        refine ⟨v, n', rfl, tv, ?_⟩
        refine ⟨_, rfl, ?_⟩
        by_cases hI : isI v = true
        case neg =>
          have e2 : isI v = false := by cases h : isI v <;> first | rfl | exact absurd h hI
          have e : isWd bw v = false := by cases tv <;> first | rfl | exact absurd rfl hI
          rw [e2]
          refine ite2 (fun _ => ?_) (fun h => absurd (show (!false) = true from rfl) h)
          row_room_at rd
          exact bad e
        rw [hI]
        refine ite2 (fun h => Bool.noConfusion (show false = true from h)) (fun _ => ?_)
        obtain ⟨i, rfl⟩ : ∃ i, v = .int i := by cases tv <;> first | exact ⟨_, rfl⟩ | cases hI
        row_room_at rd
        refine ⟨vd, .int i, rfl, get, ?_⟩
        row_room_at rd
        by_cases i1 : i < 0
        · refine ite2 (fun _ => ?_) (fun h => absurd (decide_eq_true i1) h)
          row_room_at rd
          exact bad (by simp [isWd]; omega)
        refine ite2 (fun h => absurd (of_decide_eq_true h) i1) (fun _ => ?_)
        row_room_at rd
        refine ⟨vd, .int i, rfl, get, ?_⟩
        row_room_at rd
        by_cases i2 : i ≥ 2 ^ bw
        · refine ite2 (fun _ => ?_) (fun h => absurd (decide_eq_true i2) h)
          row_room_at rd
          exact bad (by simp [isWd]; omega)
        refine ite2 (fun h => absurd (of_decide_eq_true h) i2) (fun _ => ?_)
        row_room_at rd
        exact ⟨_, rfl, s5, go (by simp [isWd]; omega)⟩
  rintro σ H5 ⟨v5, rfl, s5, hd⟩
  rw [List.length_map, List.take_length] at hd
  have s05 := s04.trans s5
  have good : ∀ z ∈ f.free, g z = .int (eOf g z) ∧ 0 ≤ eOf g z ∧ eOf g z < 2 ^ bw := fun z hz => eOf_wd (hd z ((memy z).mpr hz))
  have e5 := s5 _ _ e3'
  clear e4 e3 e3' s4
  row_room_at rd
  refine rd_cut (fun σ' H' => ∃ vd kvs, σ' = [some (.ref t), some (.int (bw : Nat)), some (.ref vd), some (.int (2 ^ bw)), some (.ref fl), v5, none] ∧ Same H H' ∧ H' vd = some (.dK kvs) ∧ kvs.length ≤ 100 ∧ ∀ z ∈ f.free, valV kvs (.inr z) = some (.int (eOf g z))) ?_ ?_
  · row_room_at rd
    refine rd_new fun el H6 hel s6 e6 => ?_
    refine ⟨_, _, .lst (SqL.of (s6 _ _ e5)) (dp_strs fd), .lst (SqL.of e6) .nil, sh_strs fd (fun z hz => Fo.free_good f ok z ((mem z).mp hz)), rfl, _, rfl, ?_⟩
    refine ite2 (fun he => ?_) (fun hne => ?_)
    · have fe : fd = [] := by
        cases fd with
        | nil => rfl
        | cons a b => cases he
      row_room_at rd
      refine fun nd hnd => ?_
      refine rd_gName ⟨nd, [], rfl, (s05.trans s6).trans (upd_new hnd), upd_same, Nat.zero_le _, fun z hz => ?_⟩
      rw [← mem z, fe] at hz
      cases hz
    · have fe : ∃ z, z ∈ fd := by
        cases fd with
        | nil => exact absurd rfl hne
        | cons a b => exact ⟨a, List.mem_cons_self⟩
      obtain ⟨z0, hz0⟩ := fe
      cases va with
      | no nd => exact absurd (good z0 ((mem z0).mp hz0)).1 (fun h => by cases h)
      | @dict vd kvs ed pl =>
        refine ⟨vd, kvs, rfl, s05.trans s6, (s05.trans s6) _ _ ed, vl vd kvs rfl ed, fun z hz => ?_⟩
        have h := (good z hz).1
        have h : (valV kvs (.inr z)).getD .non = .int (eOf (fun z => (valV kvs (.inr z)).getD .non) z) := h
        cases hv : valV kvs (.inr z) with
        | none => rw [hv] at h; cases h
        | some v => rw [hv] at h; exact congrArg some h
  rintro σ' H6 ⟨vd, kvs, rfl, s06, ed6, lk, hv⟩
  have L6 : LIn H6 f t vd bw kvs (eOf g) := ⟨ok, few.1, ht.same s06, w1, ed6, by omega, hv, fun z hz => (good z hz).2⟩
  row_room_at rd
  refine ⟨f, t, vd, bw, kvs, eOf g, 20000, rfl, by omega, L6, Nat.le_refl _, fun H7 s7 => ?_⟩
  have s07 := s06.trans s7
  row_room_at rd
  by_cases big : 20000 < f.cnt (2 ^ bw) (eOf g)
  · refine ite2 (fun _ => ?_) (fun h => absurd (decide_eq_true (by omega)) h)
    row_room_at rd
    exact fun p hp => q _ p _ (newt s07 hp) (.long w0 w1 good big) ⟨7, "long", kat_kl, upd_same⟩
  refine ite2 (fun h => absurd (of_decide_eq_true h) (by omega)) (fun _ => ?_)
  row_room_at rd
  refine ⟨f, t, vd, bw, kvs, eOf g, rfl, by omega, L6.same s7, by omega, fun H8 s8 => ?_⟩
  row_room_at rd
  rw [Nat.min_eq_left (by omega : f.cnt (2 ^ bw) (eOf g) ≤ 20000 + 1)]
  exact fun p hp => q _ p _ (newt (s07.trans s8) hp) (.fine w0 w1 good (by omega)) upd_same

end
end KW
set_option Elab.async false
set_option linter.all false
set_option maxRecDepth 100000
set_option maxHeartbeats 8000000
namespace KW
open PySem PySem.Spec PyProof.Rows L2 He Sw L2H
section
variable {P : Program} {w : World} {K : PySem.W.Frag} {mg : Str → Option Value} {base : Heap}
local macro_rules | `(tactic| row_room_at ne) => `(tactic| first | with_reducible assumption | exact strs_st (by assumption) (by row_room_at hp) | exact StAt.ne_tup (by assumption) (by row_room_at hp) | exact (StAt.fresh (by assumption) (by assumption)).1)
local macro_rules | `(tactic| row_room_at hp) => `(tactic| first
  | with_reducible assumption
  | (apply SqL.of; row_room_at hp)
  | (apply SqT.of; row_room_at hp)
  | (apply Sw.Same.use; with_reducible assumption; row_room_at hp)
  | (apply FoAt.same; rotate_left; with_reducible assumption; row_room_at hp)
  | (apply TrAt.same; rotate_left; with_reducible assumption; row_room_at hp)
  | (apply SameBut.use; with_reducible assumption; rotate_left; row_room_at hp; row_room_at ne))
local macro_rules | `(tactic| row_room_at ati) => `(tactic| first | with_reducible assumption | rfl | (apply atI_nat; rfl))
local macro_rules | `(tactic| row_room_at cc) => `(tactic| first | with_reducible assumption | omega | decide | (refine ⟨?_, ?_⟩ <;> first | decide | omega) | (refine ⟨?_, ?_, ?_⟩ <;> first | decide | omega) | (left; refine ⟨?_, ?_⟩ <;> first | decide | omega) | (right; refine ⟨?_, ?_⟩ <;> first | decide | omega))
local macro_rules | `(tactic| row_room_at rd1) => `(tactic| with_reducible first
  | refine rd_consV (by with_unfolding_all rfl) ?_
  | refine rd_consC ?_
  | refine rd_cons ?_
  | refine rd_nil ?_
  | refine rd_kt ?_
  | refine rd_asg ?_
  | refine rd_gName ?_
  | refine rd_seqN fun _ _ => ?_
  | refine rd_var (by with_unfolding_all rfl) ?_
  | refine rd_call ?_
  | refine rd_op ?_
  | refine rd_c ?_
  | refine rd_ixL (by with_unfolding_all row_room_at hp) (by with_unfolding_all row_room_at ati) ?_
  | refine rd_ixT (by with_unfolding_all row_room_at hp) (by with_unfolding_all row_room_at ati) ?_
  | refine rd_I0 ?_
  | refine rd_test ?_
  | refine rd_eq (by with_unfolding_all rfl) ?_
  | refine rd_ne (by with_unfolding_all rfl) ?_
  | refine rd_ifS ?_
  | refine rd_bl ?_
  | refine rd_ite1 ?_
  | refine rd_ite0 ?_
  | refine rd_iteN1 ?_
  | refine rd_iteN0 ?_
  | refine rd_make ?_
  | refine rd_next ?_
  | refine rd_ret ?_
  | refine rd_CB ?_
  | refine rd_drop ?_
  | refine rd_tup ?_
  | refine rd_lst ?_
  | refine rd_sz (by with_unfolding_all first | decide | (simp only [List.length_append, List.length_map, List.length_cons, List.length_nil, List.length_take]; omega)) ?_
  | refine rd_sl ?_
  | refine rd_nopart ?_
  | refine rd_part ?_
  | refine rd_slL (by with_unfolding_all row_room_at hp) ?_
  | refine rd_cat (by with_unfolding_all row_room_at hp) (by with_unfolding_all row_room_at hp) (by with_unfolding_all first | decide | (simp only [List.length_append, List.length_map, List.length_cons, List.length_nil, List.length_take]; omega)) ?_
  | refine rd_un ?_
  | refine rd_U ?_
  | refine rd_and ?_
  | refine rd_or ?_
  | refine rd_not ?_
  | refine rd_andV ?_
  | refine rd_orV ?_
  | refine rd_notV ?_
  | refine rd_if ?_
  | refine rd_B ?_
  | refine rd_b62 (by with_unfolding_all first | decide | (constructor <;> omega)) ?_
  | refine rd_int1 ?_
  | refine rd_1I ?_
  | refine rd_2I ?_
  | refine rd_iv ?_
  | refine rd_I (by with_unfolding_all row_room_at cc) ?_
  | refine rd_lenQ (by with_unfolding_all first | exact .inl (by row_room_at hp) | exact .inr (by row_room_at hp)) ?_
  | refine rd_len (by with_unfolding_all first | exact .inl (by row_room_at hp) | exact .inr (by row_room_at hp)) ?_
  | refine rd_dget ?_
  | refine rd_dget' (by with_unfolding_all row_room_at hp) (by with_unfolding_all rfl) (by with_unfolding_all assumption) ?_
  | refine rd_dgetS (by with_unfolding_all row_room_at hp) (by with_unfolding_all assumption) ?_
  | refine rd_1B ?_
  | refine rd_dput ?_
  | refine rd_methI ?_
  | refine rd_lenK (by with_unfolding_all first | exact .inl (by row_room_at hp) | exact .inr (by row_room_at hp)) ?_
  | refine rd_dictK (by with_unfolding_all row_room_at hp) ?_
  | refine rd_brk ?_
  | refine rd_cont ?_
  | refine rd_retN ?_
  | refine rd_for ?_
  | refine rd_rng1 ?_
  | refine rd_ilist ?_
  | refine rd_ilist' (by with_unfolding_all row_room_at hp) ?_
  | refine rd_itup ?_
  | refine rd_itup' (by with_unfolding_all row_room_at hp) ?_
  | refine rd_lc ?_
  | refine rd_yes ?_
  | refine rd_bm ?_
  | refine rd_ty (by with_unfolding_all row_room_at hp) ?_
  | refine rd_append (by with_unfolding_all row_room_at hp) (by with_unfolding_all first | decide | (simp only [List.length_append, List.length_map, List.length_cons, List.length_nil]; omega)) ?_
  | refine rd_iteT (by with_unfolding_all decide +kernel) ?_
  | refine rd_iteF (by with_unfolding_all decide +kernel) ?_
  | refine rd_iteNT (by with_unfolding_all decide +kernel) ?_
  | refine rd_iteNF (by with_unfolding_all decide +kernel) ?_
  | refine rd_unN (by with_reducible assumption) ?_)
local macro_rules | `(tactic| row_room_at rd) => `(tactic| repeat row_room_at rd1)
/-! ### _law_long, _law_short, _law_hurt -/
theorem rd_disp {trs : List (TE × TE)} {σ : L2.St} {H : Hp} {Q : VK} (q : ∀ p H1, H p = none → Same H H1 → H1 p = some (.dK []) → tPairs trs σ H1 fun ps H2 => H2 p = some (.dK []) ∧ ∃ kvs : List (Key × V), ps = kvs.map (fun kv => (kV kv.1, kv.2)) ∧ kvs.length ≤ 15 ∧ Kt Q (.ref p) (upd H2 p (.dK (mergeK [] kvs)))) : tDisp trs σ H Q := fun p hp => q p _ hp (upd_new hp) upd_same
theorem draw_do {st : Addr} {ns : Addr × List Int} {H : Hp} {Q : VK} {E : XK} {many : Int} (S : StAt H st ns) (m0 : 0 < many) (m1 : many ≤ 10 ^ 30) (q : ∀ r H', 0 ≤ r → r < many → StAt H' st ns → SameBut st H H' → Q (.int r) H') : spDraw [.ref st, .int many] H Q E := ⟨st, many, ns, rfl, m0, m1, S, q⟩
structure TreeOk (H : Hp) (f : Fo) (t : Addr) : Prop where
  ok : f.Ok
  few : f.Few
  fit : f.Fits
  tr : TrAt H f t
theorem StAt.fresh {H : Hp} {st vd : Addr} {ns : Addr × List Int} (S : StAt H st ns) (h : H vd = none) : vd ≠ st ∧ vd ≠ ns.1 := by
  obtain ⟨a, b, c, e1, e2, r⟩ := S
  exact ⟨fun z => (by rw [z, e1] at h; cases h), fun z => (by rw [z, e2] at h; cases h)⟩
theorem StAt.but {H : Hp} {st vd : Addr} {ns : Addr × List Int} {o : HO} (S : StAt H st ns) (h1 : vd ≠ st) (h2 : vd ≠ ns.1) : StAt (upd H vd o) st ns := by
  obtain ⟨a, b, c, e1, e2, r⟩ := S
  exact ⟨a, b, c, by rw [upd_ne (Ne.symm h1)]; exact e1, by rw [upd_ne (Ne.symm h2)]; exact e2, r⟩
theorem TreeOk.sameT {H H' : Hp} {f : Fo} {t : Addr} (h : TreeOk H f t) (s : SameT H H') : TreeOk H' f t := ⟨h.ok, h.few, h.fit, h.tr.sameT s⟩
theorem tail_do {σ : L2.St} {H : Hp} {Q : VK} {t st NL : Addr} {f : Fo} {ns : Addr × List Int} {n0 : Str} {rest : List Str} {vE wE : TE} (h1 : σ[1]? = some (some (.ref NL))) (S : StAt H st ns) (eN : H NL = some (.lst ((n0 :: rest).map V.str))) (TO : TreeOk H f t)
    (hv : ∀ H' R, StAt H' st ns → (∀ m H'', StAt H'' st ns → SameBut st H' H'' → R (.int m) H'') → vE σ H' R) (hw : ∀ H' R, StAt H' st ns → (∀ m H'', StAt H'' st ns → SameBut st H' H'' → R (.int m) H'') → wE σ H' R)
    (q : ∀ H' p vd m bw, H' p = some (.tup [.ref t, .ref vd, .int bw]) → TreeOk H' f t → H' vd = some (.dK [(.inr n0, .int m)]) → Q (.ref p) H') :
    tCons (tDisp [(tOp (rIxL K) (tVar 1) (tC (.int 0)), vE)]) (tCons wE tNil) σ H (fun xs H2 => (V.ref t :: xs).length ≤ sizeLine ∧ ∀ p, H2 p = none → Kt Q (.ref p) (upd H2 p (.tup (V.ref t :: xs)))) := by
  refine rd_cons ?_
  refine rd_disp fun vd H1 hvd s1 e1 => ?_
  have S1 := S.same s1
  have nv := S.fresh hvd
  refine rd_op (rd_var h1 (rd_c (rd_ixL (SqL.of (s1 _ _ eN)) (atI_nat (j := 0) rfl) ?_)))
  refine hv _ _ S1 fun m H2 S2 B2 => ?_
  refine ⟨B2 _ _ nv.1 e1, [(.inr n0, .int m)], rfl, by show 1 ≤ 15; decide, ?_⟩
  have e3 : (upd H2 vd (.dK (mergeK [] [((.inr n0 : Key), .int m)]))) vd = some (.dK [(.inr n0, .int m)]) := upd_same
  have B3 : SameBut vd H2 (upd H2 vd (.dK (mergeK [] [((.inr n0 : Key), .int m)]))) := sameBut_upd
  have S3 : StAt (upd H2 vd (.dK (mergeK [] [((.inr n0 : Key), .int m)]))) st ns := S2.but nv.1 nv.2
  generalize upd H2 vd (.dK (mergeK [] [((.inr n0 : Key), .int m)])) = H3 at e3 B3 S3 ⊢
  have go3 : SameT H H3 := fun b o e hl => B3 b o (fun z => by rw [z, hvd] at e; cases e) (S1.go B2 b o (s1 _ _ e) hl)
  refine rd_kt (rd_cons ?_)
  refine hw _ _ S3 fun bw H4 S4 B4 => ?_
  refine rd_nil ⟨tsz (by show 3 ≤ 1000000; decide), rd_new fun p H5 hp s5 e5 => ?_⟩
  exact q H5 p vd m bw e5 (TO.sameT ((go3.trans (S3.go B4)).trans (SameT.of s5))) (s5 _ _ (B4 _ _ nv.1 e3))
def spLong : Sp := fun vs H Q _ => ∃ (st NL : Addr) (ns : Addr × List Int) (n0 n1 n2 : Str) (rest : List Str), vs = [.ref st, .ref NL] ∧ StAt H st ns ∧ H NL = some (.lst ((n0 :: n1 :: n2 :: rest).map V.str)) ∧ GoodN n0 ∧ GoodN n1 ∧ GoodN n2 ∧ n0 ≠ n1 ∧ n0 ≠ n2 ∧ n1 ≠ n2 ∧
  ∀ H' p f t vd m bw, H' p = some (.tup [.ref t, .ref vd, .int bw]) → TreeOk H' f t → H' vd = some (.dK [(.inr n0, .int m)]) → Q (.ref p) H'
theorem nc_few {f : Fo} {L : List Str} (nc : f.NC) (l : L.length < 64) (h : ∀ z ∈ f.alln, z ∈ L) : f.Few := ⟨nc, L, l, h⟩
theorem sc__law_long : FnScope ["_law_state", "_law_names_here", "_law_choice", "_law_one", "_law_many", "_law_tree"] ["_law_state", "_law_names_here"] (defScope s__law_long) := ⟨rfl, rfl, rfl, by decide +kernel, rfl, by decide +kernel, by decide +kernel⟩
theorem ok__law_long (T : Txt K mg) : Cal P w K mg base CX0 (3) (ga K "_law_long") ["_law_state", "_law_names_here"] spLong := by
  obtain ⟨fd, F⟩ := T.f__law_long
  refine ⟨fd, ?_, F.kp, F.bindsN fun _ _ _ _ _ _ us hl => match us, hl with | [_, _], _ => rfl⟩
  refine F.ok sc__law_long (fun vs H Q E h => ?_) (fun cdv A outer s H vs Q E hr h => ?_)
  · obtain ⟨_, _, _, _, _, _, _, rfl, _⟩ := h
    rfl
  have nod := sc__law_long.nd
  have hu := hu_of hr
  refine ⟨_, PSs.nox (pss_cons (ps_set (i := 2) nod rfl (Or.inl rfl) (pe_callC (c_draw T) (hr.mono (by omega)) rfl (T.g "_law_draw") pass0 (pa_cons (pv 0) (pa_cons pe_int pa_nil))))
  (pss_cons (ps_set (i := 3) nod rfl (Or.inl rfl) (pe_tup (pa_cons pe_str (pa_cons (pe_ix ix_list (pv 1) pe_int (fun _ _ => rfl)) pa_nil))))
  (pss_cons (ps_if (pt_cmpR op_eq (pv 2) pe_int (nomark _))
    (pss_one (ps_ret (pe_tup (pa_cons (pe_tup (pa_cons pe_str (pa_cons (pe_ix ix_list (pv 1) pe_int (fun _ _ => rfl)) (pa_cons (pv 3) (pa_cons (pe_tup (pa_cons pe_str (pa_cons pe_int pa_nil))) pa_nil))))) (pa_cons (pe_disp (pps_cons (pe_ix ix_list (pv 1) pe_int (fun _ _ => rfl)) (pe_op op_add pe_int (pe_callC (c_draw T) (hr.mono (by omega)) rfl (T.g "_law_draw") pass0 (pa_cons (pv 0) (pa_cons pe_int pa_nil)))) pps_nil) (by rfl) (by rfl) (fun z => by cases z) (by decide)) (pa_cons (pe_op op_add pe_int (pe_callC (c_draw T) (hr.mono (by omega)) rfl (T.g "_law_draw") pass0 (pa_cons (pv 0) (pa_cons pe_int pa_nil)))) pa_nil))))))
    pss_nil)
  (pss_cons (ps_if (pt_cmpR op_eq (pv 2) pe_int (nomark _))
    (pss_cons (ps_set (i := 4) nod rfl (Or.inl rfl) (pe_op op_add pe_int (pe_callC (c_draw T) (hr.mono (by omega)) rfl (T.g "_law_draw") pass0 (pa_cons (pv 0) (pa_cons pe_int pa_nil)))))
    (pss_cons (ps_set (i := 5) nod rfl (Or.inl rfl) (pe_tup (pa_cons pe_str (pa_cons (pe_tup (pa_cons pe_str (pa_cons (pe_ix ix_list (pv 1) pe_int (fun _ _ => rfl)) (pa_cons (pv 3) (pa_cons (pe_tup (pa_cons pe_str (pa_cons (pe_ix ix_list (pv 1) pe_int (fun _ _ => rfl)) pa_nil))) pa_nil))))) (pa_cons (pe_tup (pa_cons pe_str (pa_cons (pe_ix ix_list (pv 1) pe_int (fun _ _ => rfl)) (pa_cons (pv 3) (pa_cons (pe_tup (pa_cons pe_str (pa_cons pe_int pa_nil))) pa_nil))))) pa_nil)))))
    (pss_one (ps_ret (pe_tup (pa_cons (pv 5) (pa_cons (pe_disp (pps_cons (pe_ix ix_list (pv 1) pe_int (fun _ _ => rfl)) (pv 4) pps_nil) (by rfl) (by rfl) (fun z => by cases z) (by decide)) (pa_cons (pe_op op_add pe_int (pe_callC (c_draw T) (hr.mono (by omega)) rfl (T.g "_law_draw") pass0 (pa_cons (pv 0) (pa_cons pe_int pa_nil)))) pa_nil))))))))
    pss_nil)
  (pss_cons (ps_if (pt_cmpR op_eq (pv 2) pe_int (nomark _))
    (pss_cons (ps_set (i := 5) nod rfl (Or.inl rfl) (pe_tup (pa_cons pe_str (pa_cons (pe_ix ix_list (pv 1) pe_int (fun _ _ => rfl)) (pa_cons (pe_tup (pa_cons pe_str (pa_cons pe_int pa_nil))) (pa_cons (pe_tup (pa_cons pe_str (pa_cons (pe_ix ix_list (pv 1) pe_int (fun _ _ => rfl)) (pa_cons (pv 3) (pa_cons (pe_tup (pa_cons pe_str (pa_cons (pe_ix ix_list (pv 1) pe_int (fun _ _ => rfl)) pa_nil))) pa_nil))))) pa_nil))))))
    (pss_one (ps_ret (pe_tup (pa_cons (pv 5) (pa_cons (pe_disp (pps_cons (pe_ix ix_list (pv 1) pe_int (fun _ _ => rfl)) (pe_op op_add pe_int (pe_callC (c_draw T) (hr.mono (by omega)) rfl (T.g "_law_draw") pass0 (pa_cons (pv 0) (pa_cons pe_int pa_nil)))) pps_nil) (by rfl) (by rfl) (fun z => by cases z) (by decide)) (pa_cons (pe_op op_add pe_int (pe_callC (c_draw T) (hr.mono (by omega)) rfl (T.g "_law_draw") pass0 (pa_cons (pv 0) (pa_cons pe_int pa_nil)))) pa_nil)))))))
    pss_nil)
  (pss_cons (ps_if (pt_cmpR op_eq (pv 2) pe_int (nomark _))
    (pss_cons (ps_set (i := 5) nod rfl (Or.inl rfl) (pe_tup (pa_cons pe_str (pa_cons (pe_ix ix_list (pv 1) pe_int (fun _ _ => rfl)) (pa_cons (pe_tup (pa_cons pe_str (pa_cons (pe_op op_sub (pe_op op_pow pe_int pe_int) pe_int) pa_nil))) (pa_cons (pe_tup (pa_cons pe_str (pa_cons (pe_ix ix_list (pv 1) pe_int (fun _ _ => rfl)) (pa_cons (pv 3) (pa_cons (pe_tup (pa_cons pe_str (pa_cons pe_int pa_nil))) pa_nil))))) pa_nil))))))
    (pss_one (ps_ret (pe_tup (pa_cons (pv 5) (pa_cons (pe_disp (pps_cons (pe_ix ix_list (pv 1) pe_int (fun _ _ => rfl)) (pe_op op_sub (pe_op op_pow pe_int pe_int) pe_int) pps_nil) (by rfl) (by rfl) (fun z => by cases z) (by decide)) (pa_cons pe_int pa_nil)))))))
    pss_nil)
  (pss_cons (ps_set (i := 5) nod rfl (Or.inl rfl) (pe_tup (pa_cons pe_str (pa_cons (pe_ix ix_list (pv 1) pe_int (fun _ _ => rfl)) (pa_cons (pv 3) (pa_cons (pe_tup (pa_cons pe_str (pa_cons (pe_tup (pa_cons pe_str (pa_cons pe_int pa_nil))) (pa_cons (pe_tup (pa_cons pe_str (pa_cons (pe_ix ix_list (pv 1) pe_int (fun _ _ => rfl)) (pa_cons (pe_tup (pa_cons pe_str (pa_cons (pe_ix ix_list (pv 1) pe_int (fun _ _ => rfl)) pa_nil))) (pa_cons (pv 3) pa_nil))))) pa_nil)))) pa_nil))))))
  (pss_one (ps_ret (pe_tup (pa_cons (pv 5) (pa_cons (pe_disp (pps_cons (pe_ix ix_list (pv 1) pe_int (fun _ _ => rfl)) (pe_op op_add pe_int (pe_callC (c_draw T) (hr.mono (by omega)) rfl (T.g "_law_draw") pass0 (pa_cons (pv 0) (pa_cons pe_int pa_nil)))) pps_nil) (by rfl) (by rfl) (fun z => by cases z) (by decide)) (pa_cons (pe_op op_add pe_int (pe_callC (c_draw T) (hr.mono (by omega)) rfl (T.g "_law_draw") pass0 (pa_cons (pv 0) (pa_cons pe_int pa_nil)))) pa_nil))))))))))))), ?_⟩
  obtain ⟨st, NL, ns, n0, n1, n2, rest, rfl, S, eN, g0, g1, g2, d01, d02, d12, q⟩ := h
  have nN := strs_st S eN
  have at0 : atI ((n0 :: n1 :: n2 :: rest).map V.str) 0 = some (.str n0) := atI_nat (j := 0) rfl
  have at1 : atI ((n0 :: n1 :: n2 :: rest).map V.str) 1 = some (.str n1) := atI_nat (j := 1) rfl
  have at2 : atI ((n0 :: n1 :: n2 :: rest).map V.str) 2 = some (.str n2) := atI_nat (j := 2) rfl
  row_room_at rd
  refine draw_do S (by decide) (by decide) fun c H1 c0 c1 S1 B1 => ?_
  have eN1 := B1 _ _ nN eN
  clear B1 S eN
  row_room_at rd
  refine rd_new fun o H2 ho s2 e2 => ?_
  have S2 := S1.same s2
  have eN2 := s2 _ _ eN1
  clear S1 eN1 s2 ho H1
  row_room_at rd
  -- what is drawn for the dict and the width
  refine ite2 (fun _ => ?_) (fun _ => ?_)
  · row_room_at rd
    refine rd_new fun b H3 hb s3 e3 => ?_
    have eN3 := s3 _ _ eN2
    have S3 := S2.same s3
    have e2 := s3 _ _ e2
    row_room_at rd
    refine rd_new fun t H4 ht s4 e4 => ?_
    have eN4 := s4 _ _ eN3
    have S4 := S3.same s4
    have e2 := s4 _ _ e2
    have e3 := s4 _ _ e3
    have tr : TrAt H4 (.sum n1 (.nam n0) (.num 3)) t := by simp only [TrAt]; exact ⟨o, b, e4, e2, e3⟩
    have TO : TreeOk H4 (.sum n1 (.nam n0) (.num 3)) t := ⟨by simp [Fo.Ok, Fo.leaf, Fo.ixs, g0, g1, g2, d01, d02, d12, d01.symm, d02.symm, d12.symm], nc_few (L := [n0, n1, n2]) (by simp [Fo.NC]) (by simp) (by simp [Fo.alln]), ⟨by simp [Fo.parts, Fo.partsL], by simp [Fo.depth, Fo.depthL]⟩, tr⟩
    refine tail_do (n0 := n0) rfl S4 eN4 TO (fun H' R S' k => by
        row_room_at rd
        refine draw_do S' (by decide) (by decide) fun r H'' _ _ S'' B => ?_
        row_room_at rd
        exact k _ _ S'' B) (fun H' R S' k => by
        row_room_at rd
        refine draw_do S' (by decide) (by decide) fun r H'' _ _ S'' B => ?_
        row_room_at rd
        exact k _ _ S'' B) fun H9 p vd m bw e9 TO9 ed9 => q H9 p _ t vd m bw e9 TO9 ed9
  row_room_at rd
  refine ite2 (fun _ => ?_) (fun _ => ?_)
  · row_room_at rd
    refine draw_do S2 (by decide) (by decide) fun dd H2b dd0 dd1 S2b B2b => ?_
    have eN2 := B2b _ _ nN eN2
    have e2 := B2b _ _ (StAt.ne_tup S2 e2) e2
    row_room_at rd
    refine rd_new fun a1 H3 ha1 s3 e3 => ?_
    have eN3 := s3 _ _ eN2
    have S3 := S2b.same s3
    have e2 := s3 _ _ e2
    row_room_at rd
    refine rd_new fun b1 H4 hb1 s4 e4 => ?_
    have eN4 := s4 _ _ eN3
    have S4 := S3.same s4
    have e2 := s4 _ _ e2
    have e3 := s4 _ _ e3
    row_room_at rd
    refine rd_new fun a2 H5 ha2 s5 e5 => ?_
    have eN5 := s5 _ _ eN4
    have S5 := S4.same s5
    have e2 := s5 _ _ e2
    have e3 := s5 _ _ e3
    have e4 := s5 _ _ e4
    row_room_at rd
    refine rd_new fun b2 H6 hb2 s6 e6 => ?_
    have eN6 := s6 _ _ eN5
    have S6 := S5.same s6
    have e2 := s6 _ _ e2
    have e3 := s6 _ _ e3
    have e4 := s6 _ _ e4
    have e5 := s6 _ _ e5
    row_room_at rd
    refine rd_new fun t H7 ht s7 e7 => ?_
    have eN7 := s7 _ _ eN6
    have S7 := S6.same s7
    have e2 := s7 _ _ e2
    have e3 := s7 _ _ e3
    have e4 := s7 _ _ e4
    have e5 := s7 _ _ e5
    have e6 := s7 _ _ e6
    row_room_at rd
    have tr : TrAt H7 (.bin .plus (.sum n1 (.nam n0) (.nam n1)) (.sum n2 (.nam n0) (.num 1))) t := by simp only [TrAt]; exact ⟨b1, b2, e7, ⟨o, a1, e4, e2, e3⟩, ⟨o, a2, e6, e2, e5⟩⟩
    have TO : TreeOk H7 (.bin .plus (.sum n1 (.nam n0) (.nam n1)) (.sum n2 (.nam n0) (.num 1))) t := ⟨by simp [Fo.Ok, Fo.leaf, Fo.ixs, g0, g1, g2, d01, d02, d12, d01.symm, d02.symm, d12.symm], nc_few (L := [n0, n1, n2]) (by simp [Fo.NC]) (by simp) (by simp [Fo.alln]), ⟨by simp [Fo.parts, Fo.partsL], by simp [Fo.depth, Fo.depthL]⟩, tr⟩
    refine tail_do (n0 := n0) rfl S7 eN7 TO (fun H' R S' k => by
        row_room_at rd
        exact k _ _ S' SameBut.refl) (fun H' R S' k => by
        row_room_at rd
        refine draw_do S' (by decide) (by decide) fun r H'' _ _ S'' B => ?_
        row_room_at rd
        exact k _ _ S'' B) fun H9 p vd m bw e9 TO9 ed9 => q H9 p _ t vd m bw e9 TO9 ed9
  row_room_at rd
  refine ite2 (fun _ => ?_) (fun _ => ?_)
  · row_room_at rd
    refine rd_new fun a1 H3 ha1 s3 e3 => ?_
    have eN3 := s3 _ _ eN2
    have S3 := S2.same s3
    have e2 := s3 _ _ e2
    row_room_at rd
    refine rd_new fun a2 H4 ha2 s4 e4 => ?_
    have eN4 := s4 _ _ eN3
    have S4 := S3.same s4
    have e2 := s4 _ _ e2
    have e3 := s4 _ _ e3
    row_room_at rd
    refine rd_new fun b2 H5 hb2 s5 e5 => ?_
    have eN5 := s5 _ _ eN4
    have S5 := S4.same s5
    have e2 := s5 _ _ e2
    have e3 := s5 _ _ e3
    have e4 := s5 _ _ e4
    row_room_at rd
    refine rd_new fun t H6 ht s6 e6 => ?_
    have eN6 := s6 _ _ eN5
    have S6 := S5.same s6
    have e2 := s6 _ _ e2
    have e3 := s6 _ _ e3
    have e4 := s6 _ _ e4
    have e5 := s6 _ _ e5
    row_room_at rd
    have tr : TrAt H6 (.sum n1 (.num 100) (.sum n2 (.nam n0) (.nam n1))) t := by simp only [TrAt]; exact ⟨a1, b2, e6, e3, ⟨o, a2, e5, e2, e4⟩⟩
    have TO : TreeOk H6 (.sum n1 (.num 100) (.sum n2 (.nam n0) (.nam n1))) t := ⟨by simp [Fo.Ok, Fo.leaf, Fo.ixs, g0, g1, g2, d01, d02, d12, d01.symm, d02.symm, d12.symm], nc_few (L := [n0, n1, n2]) (by simp [Fo.NC]) (by simp) (by simp [Fo.alln]), ⟨by simp [Fo.parts, Fo.partsL], by simp [Fo.depth, Fo.depthL]⟩, tr⟩
    refine tail_do (n0 := n0) rfl S6 eN6 TO (fun H' R S' k => by
        row_room_at rd
        refine draw_do S' (by decide) (by decide) fun r H'' _ _ S'' B => ?_
        row_room_at rd
        exact k _ _ S'' B) (fun H' R S' k => by
        row_room_at rd
        refine draw_do S' (by decide) (by decide) fun r H'' _ _ S'' B => ?_
        row_room_at rd
        exact k _ _ S'' B) fun H9 p vd m bw e9 TO9 ed9 => q H9 p _ t vd m bw e9 TO9 ed9
  row_room_at rd
  refine ite2 (fun _ => ?_) (fun _ => ?_)
  · row_room_at rd
    refine rd_new fun a1 H3 ha1 s3 e3 => ?_
    have eN3 := s3 _ _ eN2
    have S3 := S2.same s3
    have e2 := s3 _ _ e2
    row_room_at rd
    refine rd_new fun a2 H4 ha2 s4 e4 => ?_
    have eN4 := s4 _ _ eN3
    have S4 := S3.same s4
    have e2 := s4 _ _ e2
    have e3 := s4 _ _ e3
    row_room_at rd
    refine rd_new fun b2 H5 hb2 s5 e5 => ?_
    have eN5 := s5 _ _ eN4
    have S5 := S4.same s5
    have e2 := s5 _ _ e2
    have e3 := s5 _ _ e3
    have e4 := s5 _ _ e4
    row_room_at rd
    refine rd_new fun t H6 ht s6 e6 => ?_
    have eN6 := s6 _ _ eN5
    have S6 := S5.same s6
    have e2 := s6 _ _ e2
    have e3 := s6 _ _ e3
    have e4 := s6 _ _ e4
    have e5 := s6 _ _ e5
    row_room_at rd
    have tr : TrAt H6 (.sum n1 (.num (10 ^ 30 - 1)) (.sum n2 (.nam n0) (.num 1))) t := by simp only [TrAt]; exact ⟨a1, b2, e6, e3, ⟨o, a2, e5, e2, e4⟩⟩
    have TO : TreeOk H6 (.sum n1 (.num (10 ^ 30 - 1)) (.sum n2 (.nam n0) (.num 1))) t := ⟨by simp [Fo.Ok, Fo.leaf, Fo.ixs, g0, g1, g2, d01, d02, d12, d01.symm, d02.symm, d12.symm], nc_few (L := [n0, n1, n2]) (by simp [Fo.NC]) (by simp) (by simp [Fo.alln]), ⟨by simp [Fo.parts, Fo.partsL], by simp [Fo.depth, Fo.depthL]⟩, tr⟩
    refine tail_do (n0 := n0) rfl S6 eN6 TO (fun H' R S' k => by
        row_room_at rd
        exact k _ _ S' SameBut.refl) (fun H' R S' k => by
        row_room_at rd
        exact k _ _ S' SameBut.refl) fun H9 p vd m bw e9 TO9 ed9 => q H9 p _ t vd m bw e9 TO9 ed9
  row_room_at rd
  refine rd_new fun a1 H3 ha1 s3 e3 => ?_
  have eN3 := s3 _ _ eN2
  have S3 := S2.same s3
  have e2 := s3 _ _ e2
  row_room_at rd
  refine rd_new fun a2 H4 ha2 s4 e4 => ?_
  have eN4 := s4 _ _ eN3
  have S4 := S3.same s4
  have e2 := s4 _ _ e2
  have e3 := s4 _ _ e3
  row_room_at rd
  refine rd_new fun b2 H5 hb2 s5 e5 => ?_
  have eN5 := s5 _ _ eN4
  have S5 := S4.same s5
  have e2 := s5 _ _ e2
  have e3 := s5 _ _ e3
  have e4 := s5 _ _ e4
  row_room_at rd
  refine rd_new fun c2 H6 hc2 s6 e6 => ?_
  have eN6 := s6 _ _ eN5
  have S6 := S5.same s6
  have e2 := s6 _ _ e2
  have e3 := s6 _ _ e3
  have e4 := s6 _ _ e4
  have e5 := s6 _ _ e5
  row_room_at rd
  refine rd_new fun t H7 ht s7 e7 => ?_
  have eN7 := s7 _ _ eN6
  have S7 := S6.same s7
  have e2 := s7 _ _ e2
  have e3 := s7 _ _ e3
  have e4 := s7 _ _ e4
  have e5 := s7 _ _ e5
  have e6 := s7 _ _ e6
  row_room_at rd
  have tr : TrAt H7 (.sum n1 (.nam n0) (.bin .times (.num 2) (.sum n2 (.nam n1) (.nam n0)))) t := by simp only [TrAt]; exact ⟨o, c2, e7, e2, ⟨a1, b2, e6, e3, ⟨a2, o, e5, e4, e2⟩⟩⟩
  have TO : TreeOk H7 (.sum n1 (.nam n0) (.bin .times (.num 2) (.sum n2 (.nam n1) (.nam n0)))) t := ⟨by simp [Fo.Ok, Fo.leaf, Fo.ixs, g0, g1, g2, d01, d02, d12, d01.symm, d02.symm, d12.symm], nc_few (L := [n0, n1, n2]) (by simp [Fo.NC]) (by simp) (by simp [Fo.alln]), ⟨by simp [Fo.parts, Fo.partsL], by simp [Fo.depth, Fo.depthL]⟩, tr⟩
  refine tail_do (n0 := n0) rfl S7 eN7 TO (fun H' R S' k => by
      row_room_at rd
      refine draw_do S' (by decide) (by decide) fun r H'' _ _ S'' B => ?_
      row_room_at rd
      exact k _ _ S'' B) (fun H' R S' k => by
      row_room_at rd
      refine draw_do S' (by decide) (by decide) fun r H'' _ _ S'' B => ?_
      row_room_at rd
      exact k _ _ S'' B) fun H9 p vd m bw e9 TO9 ed9 => q H9 p _ t vd m bw e9 TO9 ed9

end
end KW
set_option Elab.async false
set_option linter.all false
set_option maxRecDepth 100000
set_option maxHeartbeats 8000000
namespace KW
open PySem PySem.Spec PyProof.Rows L2 He Sw L2H
section
variable {P : Program} {w : World} {K : PySem.W.Frag} {mg : Str → Option Value} {base : Heap}
local macro_rules | `(tactic| row_room_at ne) => `(tactic| first | with_reducible assumption | exact strs_st (by assumption) (by row_room_at hp) | exact StAt.ne_tup (by assumption) (by row_room_at hp) | exact (StAt.fresh (by assumption) (by assumption)).1)
local macro_rules | `(tactic| row_room_at hp) => `(tactic| first
  | with_reducible assumption
  | (apply SqL.of; row_room_at hp)
  | (apply SqT.of; row_room_at hp)
  | (apply Sw.Same.use; with_reducible assumption; row_room_at hp)
  | (apply FoAt.same; rotate_left; with_reducible assumption; row_room_at hp)
  | (apply TrAt.same; rotate_left; with_reducible assumption; row_room_at hp)
  | (apply SameBut.use; with_reducible assumption; rotate_left; row_room_at hp; row_room_at ne))
local macro_rules | `(tactic| row_room_at ati) => `(tactic| first | with_reducible assumption | rfl | (apply atI_nat; rfl))
local macro_rules | `(tactic| row_room_at cc) => `(tactic| first | with_reducible assumption | omega | decide | (refine ⟨?_, ?_⟩ <;> first | decide | omega) | (refine ⟨?_, ?_, ?_⟩ <;> first | decide | omega) | (left; refine ⟨?_, ?_⟩ <;> first | decide | omega) | (right; refine ⟨?_, ?_⟩ <;> first | decide | omega))
local macro_rules | `(tactic| row_room_at rd1) => `(tactic| with_reducible first
  | refine rd_consV (by with_unfolding_all rfl) ?_
  | refine rd_consC ?_
  | refine rd_cons ?_
  | refine rd_nil ?_
  | refine rd_kt ?_
  | refine rd_asg ?_
  | refine rd_gName ?_
  | refine rd_seqN fun _ _ => ?_
  | refine rd_var (by with_unfolding_all rfl) ?_
  | refine rd_call ?_
  | refine rd_op ?_
  | refine rd_c ?_
  | refine rd_ixL (by with_unfolding_all row_room_at hp) (by with_unfolding_all row_room_at ati) ?_
  | refine rd_ixT (by with_unfolding_all row_room_at hp) (by with_unfolding_all row_room_at ati) ?_
  | refine rd_I0 ?_
  | refine rd_test ?_
  | refine rd_eq (by with_unfolding_all rfl) ?_
  | refine rd_ne (by with_unfolding_all rfl) ?_
  | refine rd_ifS ?_
  | refine rd_bl ?_
  | refine rd_ite1 ?_
  | refine rd_ite0 ?_
  | refine rd_iteN1 ?_
  | refine rd_iteN0 ?_
  | refine rd_make ?_
  | refine rd_next ?_
  | refine rd_ret ?_
  | refine rd_CB ?_
  | refine rd_drop ?_
  | refine rd_tup ?_
  | refine rd_lst ?_
  | refine rd_sz (by with_unfolding_all first | decide | (simp only [List.length_append, List.length_map, List.length_cons, List.length_nil, List.length_take]; omega)) ?_
  | refine rd_sl ?_
  | refine rd_nopart ?_
  | refine rd_part ?_
  | refine rd_slL (by with_unfolding_all row_room_at hp) ?_
  | refine rd_cat (by with_unfolding_all row_room_at hp) (by with_unfolding_all row_room_at hp) (by with_unfolding_all first | decide | (simp only [List.length_append, List.length_map, List.length_cons, List.length_nil, List.length_take]; omega)) ?_
  | refine rd_un ?_
  | refine rd_U ?_
  | refine rd_and ?_
  | refine rd_or ?_
  | refine rd_not ?_
  | refine rd_andV ?_
  | refine rd_orV ?_
  | refine rd_notV ?_
  | refine rd_if ?_
  | refine rd_B ?_
  | refine rd_b62 (by with_unfolding_all first | decide | (constructor <;> omega)) ?_
  | refine rd_int1 ?_
  | refine rd_1I ?_
  | refine rd_2I ?_
  | refine rd_iv ?_
  | refine rd_I (by with_unfolding_all row_room_at cc) ?_
  | refine rd_lenQ (by with_unfolding_all first | exact .inl (by row_room_at hp) | exact .inr (by row_room_at hp)) ?_
  | refine rd_len (by with_unfolding_all first | exact .inl (by row_room_at hp) | exact .inr (by row_room_at hp)) ?_
  | refine rd_dget ?_
  | refine rd_dget' (by with_unfolding_all row_room_at hp) (by with_unfolding_all rfl) (by with_unfolding_all assumption) ?_
  | refine rd_dgetS (by with_unfolding_all row_room_at hp) (by with_unfolding_all assumption) ?_
  | refine rd_1B ?_
  | refine rd_dput ?_
  | refine rd_methI ?_
  | refine rd_lenK (by with_unfolding_all first | exact .inl (by row_room_at hp) | exact .inr (by row_room_at hp)) ?_
  | refine rd_dictK (by with_unfolding_all row_room_at hp) ?_
  | refine rd_brk ?_
  | refine rd_cont ?_
  | refine rd_retN ?_
  | refine rd_for ?_
  | refine rd_rng1 ?_
  | refine rd_ilist ?_
  | refine rd_ilist' (by with_unfolding_all row_room_at hp) ?_
  | refine rd_itup ?_
  | refine rd_itup' (by with_unfolding_all row_room_at hp) ?_
  | refine rd_lc ?_
  | refine rd_yes ?_
  | refine rd_bm ?_
  | refine rd_ty (by with_unfolding_all row_room_at hp) ?_
  | refine rd_append (by with_unfolding_all row_room_at hp) (by with_unfolding_all first | decide | (simp only [List.length_append, List.length_map, List.length_cons, List.length_nil]; omega)) ?_
  | refine rd_iteT (by with_unfolding_all decide +kernel) ?_
  | refine rd_iteF (by with_unfolding_all decide +kernel) ?_
  | refine rd_iteNT (by with_unfolding_all decide +kernel) ?_
  | refine rd_iteNF (by with_unfolding_all decide +kernel) ?_
  | refine rd_unN (by with_reducible assumption) ?_)
local macro_rules | `(tactic| row_room_at rd) => `(tactic| repeat row_room_at rd1)
def KT (H H' : Hp) : Prop := ∀ r xs, H r = some (.tup xs) → H' r = some (.tup xs)
theorem KT.trans {H H1 H2 : Hp} (a : KT H H1) (b : KT H1 H2) : KT H H2 := fun r xs h => b r xs (a r xs h)
theorem KT.of {H H' : Hp} (s : Same H H') : KT H H' := fun r xs h => s _ _ h
theorem KT.st {H H' : Hp} {st : Addr} {ns : Addr × List Int} (S : StAt H st ns) (B : SameBut st H H') : KT H H' := fun r xs h => B _ _ (StAt.ne_tup S h) h
theorem KT.put {H : Hp} {vd : Addr} {kvs : List (Key × V)} {o : HO} (h : H vd = some (.dK kvs)) : KT H (upd H vd o) := fun r xs e => by
  rw [upd_ne (fun z => by rw [z, h] at e; cases e)]; exact e
mutual
theorem TrAt.kt {H H' : Hp} (s : KT H H') : ∀ {f : Fo} {a : Addr}, TrAt H f a → TrAt H' f a
  | .num n, a, h => by simp only [TrAt] at h ⊢; exact s _ _ h
  | .nam z, a, h => by simp only [TrAt] at h ⊢; exact s _ _ h
  | .neg f, a, h => by simp only [TrAt] at h ⊢; obtain ⟨x, e, q⟩ := h; exact ⟨x, s _ _ e, TrAt.kt s q⟩
  | .shl f n, a, h => by simp only [TrAt] at h ⊢; obtain ⟨x, e, q⟩ := h; exact ⟨x, s _ _ e, TrAt.kt s q⟩
  | .bin o f g, a, h => by simp only [TrAt] at h ⊢; obtain ⟨x, y, e, q, r⟩ := h; exact ⟨x, y, s _ _ e, TrAt.kt s q, TrAt.kt s r⟩
  | .sum i b f, a, h => by simp only [TrAt] at h ⊢; obtain ⟨x, y, e, q, r⟩ := h; exact ⟨x, y, s _ _ e, TrAt.kt s q, TrAt.kt s r⟩
  | .call z fs, a, h => by simp only [TrAt] at h ⊢; obtain ⟨u, xs, e, e2, q⟩ := h; exact ⟨u, xs, s _ _ e, s _ _ e2, TrAts.kt s q⟩
theorem TrAts.kt {H H' : Hp} (s : KT H H') : ∀ {fs : List Fo} {xs : List Addr}, TrAts H fs xs → TrAts H' fs xs
  | [], xs, h => by simp only [TrAts] at h ⊢; exact h
  | f :: fs, xs, h => by simp only [TrAts] at h ⊢; obtain ⟨x, ys, e, q, r⟩ := h; exact ⟨x, ys, e, TrAt.kt s q, TrAts.kt s r⟩
end
def dk (ks : List Str) (e : Str → Int) : List (Key × V) := ks.map fun z => (Sum.inr z, V.int (e z))
theorem dk_len (ks : List Str) (e : Str → Int) : (dk ks e).length = ks.length := by simp [dk]
theorem dk_val {ks : List Str} {e : Str → Int} {z : Str} (h : z ∈ ks) : valV (dk ks e) (.inr z) = some (.int (e z)) := by
  induction ks with
  | nil => cases h
  | cons y ks ih =>
    by_cases c : y = z
    · rw [c]; exact valV_pos rfl
    · have e1 : valV (dk (y :: ks) e) (.inr z) = valV (dk ks e) (.inr z) := valV_neg (fun q => c (by injection q))
      rw [e1]
      exact ih ((List.mem_cons.mp h).resolve_left fun q => c q.symm)
theorem dk_none {ks : List Str} {e : Str → Int} {z : Str} (h : z ∉ ks) : valV (dk ks e) (.inr z) = none := by
  induction ks with
  | nil => rfl
  | cons y ks ih =>
    have c : y ≠ z := fun q => h (by rw [q]; exact List.mem_cons_self)
    have e1 : valV (dk (y :: ks) e) (.inr z) = valV (dk ks e) (.inr z) := valV_neg (fun q => c (by injection q))
    rw [e1]
    exact ih fun q => h (List.mem_cons_of_mem _ q)
theorem dk_app {ks : List Str} {e : Str → Int} {z : Str} (h : z ∉ ks) : putK (dk ks e) (.inr z) (.int (e z)) = dk (ks ++ [z]) e := by
  rw [putK_new _ (dk_none h)]
  simp [dk]
theorem dk_congr {ks : List Str} {e e' : Str → Int} (h : ∀ z ∈ ks, e z = e' z) : dk ks e = dk ks e' := by
  unfold dk
  exact List.map_congr_left fun z hz => by rw [h z hz]
theorem dk_new {ks : List Str} {e : Str → Int} {z : Str} {v : Int} (h : z ∉ ks) : putK (dk ks e) (.inr z) (.int v) = dk (ks ++ [z]) (updE e z v) := by
  have e1 : dk ks e = dk ks (updE e z v) := dk_congr fun y hy => by rw [updE_ne (fun q => h (by rw [← q]; exact hy))]
  have := dk_app (e := updE e z v) h
  rw [updE_same] at this
  rw [e1, this]
theorem dk_old {ks : List Str} {e : Str → Int} {z : Str} {v : Int} (h : z ∈ ks) : putK (dk ks e) (.inr z) (.int v) = dk ks (updE e z v) := by
  have hany : ((dk ks e).any fun kv => decide (kv.1 = (.inr z : Key))) = true := by
    rw [List.any_eq_true]
    exact ⟨(.inr z, .int (e z)), List.mem_map.mpr ⟨z, h, rfl⟩, decide_eq_true rfl⟩
  unfold putK
  rw [if_pos hany]
  unfold dk
  rw [List.map_map]
  refine List.map_congr_left fun y hy => ?_
  show (if (Sum.inr y : Key) = .inr z then (Sum.inr y, V.int v) else (Sum.inr y, V.int (e y))) = (Sum.inr y, V.int (updE e z v y))
  by_cases c : y = z
  · rw [if_pos (by rw [c]), c, updE_same]
  · rw [if_neg (fun q => c (by injection q)), updE_ne c]
theorem dk_put {ks : List Str} {e : Str → Int} {z : Str} {v : Int} (nd : ks.Nodup) : ∃ ks', putK (dk ks e) (.inr z) (.int v) = dk ks' (updE e z v) ∧ ks'.Nodup ∧ (∀ y, y ∈ ks' ↔ y ∈ ks ∨ y = z) ∧ ks'.length ≤ ks.length + 1 := by
  by_cases c : z ∈ ks
  · exact ⟨ks, dk_old c, nd, fun y => ⟨.inl, fun h => h.elim id fun h => by rw [h]; exact c⟩, by omega⟩
  · refine ⟨ks ++ [z], dk_new c, ?_, fun y => by simp, by simp⟩
    rw [List.nodup_append]
    exact ⟨nd, by simp, fun a ha b hb e => by rw [List.mem_singleton.mp hb] at e; rw [e] at ha; exact c ha⟩
/-- a drawn tree -/
structure Sht (zs : List Str) (j : Nat) (f : Fo) : Prop where
  ok : f.Ok
  nc : f.NC
  al : ∀ z ∈ f.alln, z ∈ zs
  ix : ∀ i ∈ f.ixs, ∃ m, m < j ∧ zs[4 + m]? = some i
  p : f.parts + 4 ≤ 5 * 2 ^ j
  d : f.depth ≤ 1 + 3 * j
theorem Sht.sum {zs : List Str} {j : Nat} {f : Fo} {x i : Str} (h : Sht zs j f) (nd : zs.Nodup) (hx : zs[j]? = some x) (hi : zs[4 + j]? = some i) (g : ∀ z ∈ zs, GoodN z) : Sht zs (j + 1) (.bin .plus f (.sum i (.nam x) (.bin .times f (.nam i)))) := by
  have gx := g x (List.mem_of_getElem? hx)
  have gi := g i (List.mem_of_getElem? hi)
  have ne : x ≠ i := nth_ne nd (i := j) (j := 4 + j) (by omega) hx hi
  have ni : i ∉ f.ixs := fun q => by
    obtain ⟨m, hm, e⟩ := h.ix i q
    exact nth_ne nd (i := 4 + m) (j := 4 + j) (by omega) e hi rfl
  have hd := h.d
  have hp := h.p
  refine ⟨?_, ?_, fun z hz => ?_, fun z hz => ?_, ?_, ?_⟩
  · simp [Fo.Ok, Fo.leaf, Fo.ixs, h.ok, gx, gi, ne, ni]
  · simp [Fo.NC, h.nc]
  · simp only [Fo.alln, List.mem_append, List.mem_cons, List.not_mem_nil, or_false] at hz
    rcases hz with hz | rfl | rfl | hz | rfl
    · exact h.al z hz
    · exact List.mem_of_getElem? hi
    · exact List.mem_of_getElem? hx
    · exact h.al z hz
    · exact List.mem_of_getElem? hi
  · simp only [Fo.ixs, List.mem_append, List.mem_cons, List.not_mem_nil, or_false] at hz
    rcases hz with hz | rfl | hz
    · obtain ⟨m, a, b⟩ := h.ix z hz; exact ⟨m, by omega, b⟩
    · exact ⟨j, by omega, hi⟩
    · obtain ⟨m, a, b⟩ := h.ix z hz; exact ⟨m, by omega, b⟩
  · simp only [Fo.parts]
    rw [Nat.pow_succ]; omega
  · simp only [Fo.depth]
    omega
theorem Sht.minus {zs : List Str} {j : Nat} {f : Fo} {x : Str} (h : Sht zs j f) (hx : zs[j]? = some x) (g : ∀ z ∈ zs, GoodN z) : Sht zs (j + 1) (.bin .minus (.nam x) f) := by
  have gx := g x (List.mem_of_getElem? hx)
  have hd := h.d
  have hp := h.p
  have h2 : 1 ≤ 2 ^ j := Nat.one_le_two_pow
  refine ⟨?_, ?_, fun z hz => ?_, fun z hz => ?_, ?_, ?_⟩
  · simp [Fo.Ok, h.ok, gx]
  · simp [Fo.NC, h.nc]
  · simp only [Fo.alln, List.mem_append, List.mem_cons, List.not_mem_nil, or_false] at hz
    rcases hz with rfl | hz
    · exact List.mem_of_getElem? hx
    · exact h.al z hz
  · simp only [Fo.ixs, List.nil_append] at hz
    obtain ⟨m, a, b⟩ := h.ix z hz; exact ⟨m, by omega, b⟩
  · simp only [Fo.parts]
    rw [Nat.pow_succ]; omega
  · simp only [Fo.depth]
    omega
def spShort : Sp := fun vs H Q _ => ∃ (st NL : Addr) (ns : Addr × List Int) (zs : List Str) (bw : Nat), vs = [.ref st, .ref NL, .int bw] ∧ StAt H st ns ∧ H NL = some (.lst (zs.map V.str)) ∧ zs.length = 9 ∧ zs.Nodup ∧ (∀ z ∈ zs, GoodN z) ∧ bw ≤ 64 ∧
  ∀ H' p f t vd ks e, StAt H' st ns → SameBut st H H' → H' p = some (.tup [.ref t, .ref vd]) → TreeOk H' f t → f.parts ≤ 76 → f.depth ≤ 13 → H' vd = some (.dK (dk ks e)) → H vd = none → ks.Nodup → ks.length ≤ 4 → (∀ z ∈ ks, GoodN z) → Q (.ref p) H'
theorem sc__law_short : FnScope ["_law_state", "_law_names_here", "_law_width", "_law_size", "_law_tree", "_law_values", "_law_k"] ["_law_state", "_law_names_here", "_law_width"] (defScope s__law_short) := ⟨rfl, rfl, rfl, by decide +kernel, rfl, by decide +kernel, by decide +kernel⟩
theorem ok__law_short (T : Txt K mg) : Cal P w K mg base CX0 (3) (ga K "_law_short") ["_law_state", "_law_names_here", "_law_width"] spShort := by
  obtain ⟨fd, F⟩ := T.f__law_short
  refine ⟨fd, ?_, F.kp, F.bindsN fun _ _ _ _ _ _ us hl => match us, hl with | [_, _, _], _ => rfl⟩
  refine F.ok sc__law_short (fun vs H Q E h => ?_) (fun cdv A outer s H vs Q E hr h => ?_)
  · obtain ⟨_, _, _, _, _, rfl, _⟩ := h
    rfl
  have nod := sc__law_short.nd
  have hu := hu_of hr
  refine ⟨_, PSs.nox (pss_cons (ps_set (i := 3) nod rfl (Or.inl rfl) (pe_op op_shr (pe_op op_pow pe_int pe_int) (pe_op op_sub pe_int (pv 2))))
  (pss_cons (ps_set (i := 4) nod rfl (Or.inl rfl) (pe_tup (pa_cons pe_str (pa_cons (pe_callC (c_large T) (hr.mono (by omega)) rfl (T.g "_law_large") pass0 (pa_cons (pv 0) (pa_cons (pe_op op_pow pe_int pe_int) pa_nil))) pa_nil))))
  (pss_cons (ps_set (i := 5) nod rfl (Or.inl rfl) pe_dnewK)
  (pss_cons (ps_for PassesOwn.never rfl (pi_range1 rfl (T.f "range") (pa_cons (pe_callC (c_draw T) (hr.mono (by omega)) rfl (T.g "_law_draw") pass0 (pa_cons (pv 0) (pa_cons pe_int pa_nil))) pa_nil)) (pg_name (i := 6) nod rfl (Or.inl rfl))
    (pss_cons (ps_dput hu (pv 5) (pe_ix ix_list (pv 1) (pv 6) (fun _ _ => rfl)) (pe_callC (c_large T) (hr.mono (by omega)) rfl (T.g "_law_large") pass0 (pa_cons (pv 0) (pa_cons (pv 3) pa_nil))) rfl)
    (pss_one (ps_if (pt_cmpR op_eq (pe_callC (c_draw T) (hr.mono (by omega)) rfl (T.g "_law_draw") pass0 (pa_cons (pv 0) (pa_cons pe_int pa_nil))) pe_int (nomark _))
      (pss_cons (ps_dput hu (pv 5) (pe_ix ix_list (pv 1) (pv 6) (fun _ _ => rfl)) (pe_op op_mod (pe_callTy call_int1 rfl (T.f "int") (by decide +kernel) (pa_cons (pe_callC (c_draw T) (hr.mono (by omega)) rfl (T.g "_law_draw") pass0 (pa_cons (pv 0) (pa_cons pe_int pa_nil))) pa_nil)) (pv 3)) rfl)
      (pss_one (ps_set (i := 4) nod rfl (Or.inl rfl) (pe_tup (pa_cons pe_str (pa_cons (pv 4) (pa_cons (pe_tup (pa_cons pe_str (pa_cons (pe_ix ix_list (pv 1) (pe_op op_add pe_int (pv 6)) (fun _ _ => rfl)) (pa_cons (pe_tup (pa_cons pe_str (pa_cons (pe_ix ix_list (pv 1) (pv 6) (fun _ _ => rfl)) pa_nil))) (pa_cons (pe_tup (pa_cons pe_str (pa_cons (pv 4) (pa_cons (pe_tup (pa_cons pe_str (pa_cons (pe_ix ix_list (pv 1) (pe_op op_add pe_int (pv 6)) (fun _ _ => rfl)) pa_nil))) pa_nil)))) pa_nil))))) pa_nil)))))))
      (pss_one (ps_set (i := 4) nod rfl (Or.inl rfl) (pe_tup (pa_cons pe_str (pa_cons (pe_tup (pa_cons pe_str (pa_cons (pe_ix ix_list (pv 1) (pv 6) (fun _ _ => rfl)) pa_nil))) (pa_cons (pv 4) pa_nil))))))))))
  (pss_one (ps_ret (pe_tup (pa_cons (pv 4) (pa_cons (pv 5) pa_nil))))))))), ?_⟩
  obtain ⟨st, NL, ns, zs, bw, rfl, S, eN, lz, nd, gz, w1, q⟩ := h
  have nN := strs_st S eN
  row_room_at rd
  rw [size_eq w1]
  have pw := two_pos bw
  have p30 : (2 : Int) ^ bw ≤ 10 ^ 30 := Int.le_trans (two_le w1) (by decide)
  refine draw_do S (by decide) (by decide) fun n H1 n0 n1 S1 B1 => ?_
  have eN1 := B1 _ _ nN eN
  row_room_at rd
  refine rd_new fun t0 H2 ht0 s2 e2 => ?_
  have S2 := S1.same s2
  have eN2 := s2 _ _ eN1
  have B2 := B1.trans (SameBut.of s2)
  row_room_at rd
  refine fun vd hvd => ?_
  have nv := S2.fresh hvd
  have hvd0 : H vd = none := by
    cases h : H vd with
    | none => rfl
    | some o => rw [B2 _ _ nv.1 h] at hvd; cases hvd
  have s3 := upd_new (o := .dK []) hvd
  have e3 : (upd H2 vd (.dK [])) vd = some (.dK (dk [] fun _ => 0)) := upd_same
  have S3 := S2.same s3
  have eN3 := s3 _ _ eN2
  have B3 := B2.trans (SameBut.of s3)
  have e2 := s3 _ _ e2
  generalize upd H2 vd (.dK []) = H3 at s3 e3 S3 eN3 B3 e2 ⊢
  show gName 5 _ _ _ _
  refine rd_gName ?_
  row_room_at rd
  refine draw_do S3 (by decide) (by decide) fun many H4 m0 m1 S4 B4 => ?_
  obtain ⟨mn, rfl⟩ := Int.eq_ofNat_of_zero_le m0
  have e24 := B4 _ _ (StAt.ne_tup S3 e2) e2
  have T4 : TrAt H4 (.num n) t0 := by simp only [TrAt]; exact e24
  have Sht0 : Sht zs 0 (.num n) := ⟨by simp [Fo.Ok]; exact ⟨n0, n1⟩, by simp [Fo.NC], fun z hz => by simp [Fo.alln] at hz, fun z hz => by simp [Fo.ixs] at hz, by simp [Fo.parts], by simp [Fo.depth]⟩
  have eN4 := B4 _ _ nN eN3
  have e4 := B4 _ _ nv.1 e3
  have B04 := B3.trans B4
  clear S S1 S2 S3 B1 B2 B3 B4 eN eN1 eN2 eN3 s2 s3 e2 e3 e24 ht0
  row_room_at rd
  refine for_range (lo := 0) (n := mn) (fun j σ H' => ∃ v6 f t ks e, σ = [some (.ref st), some (.ref NL), some (.int (bw : Nat)), some (.int (2 ^ bw)), some (.ref t), some (.ref vd), v6] ∧ StAt H' st ns ∧ SameBut st H H' ∧ H' NL = some (.lst (zs.map V.str)) ∧ TrAt H' f t ∧ Sht zs j f ∧ H' vd = some (.dK (dk ks e)) ∧ ks.Nodup ∧ ks.length ≤ j ∧ ∀ z ∈ ks, z ∈ zs)
    ⟨none, _, t0, [], _, rfl, S4, B04, eN4, T4, Sht0, e4, .nil, Nat.le_refl _, fun z hz => by cases hz⟩ ?_ ?_
  · clear T4 Sht0 e4 eN4 S4
    rintro j σ H5 hj ⟨v6, f, t, ks, e, rfl, S5, B5, eN5, T5, sh, e5, ndk, lk, kz⟩
    have m1' : (mn : Int) < 5 := m1
    have j4 : j < 4 := by omega
    obtain ⟨x, hx⟩ : ∃ x, zs[j]? = some x := ⟨_, List.getElem?_eq_getElem (by omega)⟩
    obtain ⟨i, hi⟩ : ∃ i, zs[4 + j]? = some i := ⟨_, List.getElem?_eq_getElem (by omega)⟩
    have atx : atI (zs.map V.str) (0 + (j : Int)) = some (.str x) := by rw [Int.zero_add]; exact atI_nat (by rw [List.getElem?_map, hx]; rfl)
    have ati : atI (zs.map V.str) (4 + (0 + (j : Int))) = some (.str i) := by
      rw [show (4 : Int) + (0 + (j : Int)) = ((4 + j : Nat) : Int) by omega]; exact atI_nat (by rw [List.getElem?_map, hi]; rfl)
    row_room_at rd
    refine draw_do S5 pw p30 fun r6 H6 _ _ S6 B6 => ?_
    have B06 := B5.trans B6
    have eN6 := B6 _ _ nN eN5
    have e6 := B6 _ _ nv.1 e5
    have T6 := T5.kt (KT.st S5 B6)
    clear B5 B6 eN5 e5 T5 S5
    row_room_at rd
    obtain ⟨ks7, ek7, nd7, mem7, l7⟩ := dk_put (ks := ks) (e := e) (z := x) (v := r6) ndk
    refine ⟨vd, _, rfl, DPut.k (k := .inr x) e6 (tlt (by rw [dk_len]; omega)), ?_⟩
    have nNv : NL ≠ vd := fun z => by rw [z, e6] at eN6; cases eN6
    have e7 : (upd H6 vd (.dK (putK (dk ks e) (.inr x) (.int r6)))) vd = some (.dK (dk ks7 (updE e x r6))) := by rw [upd_same, ek7]
    have B7 : SameBut vd H6 (upd H6 vd (.dK (putK (dk ks e) (.inr x) (.int r6)))) := sameBut_upd
    have T7 := T6.kt (KT.put (o := .dK (putK (dk ks e) (.inr x) (.int r6))) e6)
    have S7 : StAt (upd H6 vd (.dK (putK (dk ks e) (.inr x) (.int r6)))) st ns := S6.but nv.1 nv.2
    generalize upd H6 vd (.dK (putK (dk ks e) (.inr x) (.int r6))) = H7 at e7 B7 T7 S7 ⊢
    have eN7 := B7 _ _ nNv eN6
    have B07 : SameBut st H H7 := fun b o hb ob => B7 _ _ (fun z => by rw [z, hvd0] at ob; cases ob) (B06 b o hb ob)
    have kz7 : ∀ z ∈ ks7, z ∈ zs := fun z hz => ((mem7 z).mp hz).elim (kz z) fun h => by rw [h]; exact List.mem_of_getElem? hx
    have xk7 : x ∈ ks7 := (mem7 x).mpr (.inr rfl)
    have len7 : ks7.length ≤ j + 1 := by omega
    clear e6 eN6 T6 S6 B7 B06 ek7 mem7
    row_room_at rd
    refine draw_do S7 (by decide) (by decide) fun r8 H8 _ _ S8 B8 => ?_
    have B08 := B07.trans B8
    have eN8 := B8 _ _ nN eN7
    have e8 := B8 _ _ nv.1 e7
    have T8 := T7.kt (KT.st S7 B8)
    clear B07 B8 eN7 e7 T7 S7
    row_room_at rd
    refine ite2 (fun _ => ?_) (fun _ => ?_)
    · row_room_at rd
      refine draw_do S8 (by decide) (by decide) fun r9 H9 _ _ S9 B9 => ?_
      have B09 := B08.trans B9
      have eN9 := B9 _ _ nN eN8
      have e9 := B9 _ _ nv.1 e8
      have T9 := T8.kt (KT.st S8 B9)
      clear B08 B9 eN8 e8 T8 S8
      row_room_at rd
      refine ⟨vd, _, rfl, DPut.k (k := .inr x) e9 (tlt (by rw [dk_len]; omega)), ?_⟩
      have nNv : NL ≠ vd := fun z => by rw [z, e9] at eN9; cases eN9
      have eA : (upd H9 vd (.dK (putK (dk ks7 (updE e x r6)) (.inr x) (.int (r9 % 2 ^ bw))))) vd = some (.dK (dk ks7 (updE (updE e x r6) x (r9 % 2 ^ bw)))) := by rw [upd_same, dk_old xk7]
      have BA : SameBut vd H9 (upd H9 vd (.dK (putK (dk ks7 (updE e x r6)) (.inr x) (.int (r9 % 2 ^ bw))))) := sameBut_upd
      have TA := T9.kt (KT.put (o := .dK (putK (dk ks7 (updE e x r6)) (.inr x) (.int (r9 % 2 ^ bw)))) e9)
      have SA : StAt (upd H9 vd (.dK (putK (dk ks7 (updE e x r6)) (.inr x) (.int (r9 % 2 ^ bw))))) st ns := S9.but nv.1 nv.2
      generalize upd H9 vd (.dK (putK (dk ks7 (updE e x r6)) (.inr x) (.int (r9 % 2 ^ bw)))) = HA at eA BA TA SA ⊢
      have eNA := BA _ _ nNv eN9
      have B0A : SameBut st H HA := fun b o hb ob => BA _ _ (fun z => by rw [z, hvd0] at ob; cases ob) (B09 b o hb ob)
      clear e9 eN9 T9 S9 BA B09
      row_room_at rd
      refine rd_new fun a1 HB ha1 sB eB => ?_
      have eNB := sB _ _ eNA
      row_room_at rd
      refine rd_new fun a2 HC ha2 sC eC => ?_
      row_room_at rd
      refine rd_new fun a3 HD ha3 sD eD => ?_
      row_room_at rd
      refine rd_new fun a4 HE ha4 sE eE => ?_
      row_room_at rd
      refine rd_new fun a5 HF ha5 sF eF => ?_
      have sAF := (((sB.trans sC).trans sD).trans sE).trans sF
      have sBF := ((sC.trans sD).trans sE).trans sF
      have sCF := (sD.trans sE).trans sF
      have TF := TA.kt (KT.of sAF)
      refine rd_gName ⟨_, _, a5, ks7, _, rfl, SA.same sAF, B0A.trans (SameBut.of sAF), sAF _ _ eNA, ?_, sh.sum nd hx hi gz, sAF _ _ eA, nd7, len7, kz7⟩
      simp only [TrAt]
      exact ⟨t, a4, eF, TF, a1, a3, sF _ _ eE, sBF _ _ eB, t, a2, (sE.trans sF) _ _ eD, TF, sCF _ _ eC⟩
    · row_room_at rd
      refine rd_new fun a1 HB ha1 sB eB => ?_
      row_room_at rd
      refine rd_new fun a2 HC ha2 sC eC => ?_
      have sAC := sB.trans sC
      have TF := T8.kt (KT.of sAC)
      refine rd_gName ⟨_, _, a2, ks7, _, rfl, S8.same sAC, B08.trans (SameBut.of sAC), sAC _ _ eN8, ?_, sh.minus hx gz, sAC _ _ e8, nd7, len7, kz7⟩
      simp only [TrAt]
      exact ⟨a1, t, eC, sC _ _ eB, TF⟩
  · rintro σ H5 ⟨v6, f, t, ks, e, rfl, S5, B5, eN5, T5, sh, e5, ndk, lk, kz⟩
    have m1' : (mn : Int) < 5 := m1
    have j4 : mn ≤ 4 := by omega
    have p5 : 5 * 2 ^ mn ≤ 5 * 2 ^ 4 := Nat.mul_le_mul_left _ (Nat.pow_le_pow_right (by decide) j4)
    have hp := sh.p
    have hd := sh.d
    have p76 : f.parts ≤ 76 := by omega
    have d13 : f.depth ≤ 13 := by omega
    row_room_at rd
    refine rd_new fun p H6 hp6 s6 e6 => ?_
    exact q H6 p f t vd ks e (S5.same s6) (B5.trans (SameBut.of s6)) e6 ⟨sh.ok, nc_few sh.nc (L := zs) (by omega) sh.al, ⟨by omega, by omega⟩, T5.same s6⟩ p76 d13 (s6 _ _ e5) hvd0 ndk (by omega) fun z hz => gz z (kz z hz)

end
end KW
set_option Elab.async false
set_option linter.all false
set_option maxRecDepth 100000
set_option maxHeartbeats 8000000
namespace KW
open PySem PySem.Spec PyProof.Rows L2 He Sw L2H
section
variable {P : Program} {w : World} {K : PySem.W.Frag} {mg : Str → Option Value} {base : Heap}
local macro_rules | `(tactic| row_room_at ne) => `(tactic| first | with_reducible assumption | exact strs_st (by assumption) (by row_room_at hp) | exact StAt.ne_tup (by assumption) (by row_room_at hp) | exact (StAt.fresh (by assumption) (by assumption)).1)
local macro_rules | `(tactic| row_room_at hp) => `(tactic| first
  | with_reducible assumption
  | (apply SqL.of; row_room_at hp)
  | (apply SqT.of; row_room_at hp)
  | (apply Sw.Same.use; with_reducible assumption; row_room_at hp)
  | (apply FoAt.same; rotate_left; with_reducible assumption; row_room_at hp)
  | (apply TrAt.same; rotate_left; with_reducible assumption; row_room_at hp)
  | (apply SameBut.use; with_reducible assumption; rotate_left; row_room_at hp; row_room_at ne))
local macro_rules | `(tactic| row_room_at ati) => `(tactic| first | with_reducible assumption | rfl | (apply atI_nat; rfl))
local macro_rules | `(tactic| row_room_at cc) => `(tactic| first | with_reducible assumption | omega | decide | (refine ⟨?_, ?_⟩ <;> first | decide | omega) | (refine ⟨?_, ?_, ?_⟩ <;> first | decide | omega) | (left; refine ⟨?_, ?_⟩ <;> first | decide | omega) | (right; refine ⟨?_, ?_⟩ <;> first | decide | omega))
local macro_rules | `(tactic| row_room_at rd1) => `(tactic| with_reducible first
  | refine rd_consV (by with_unfolding_all rfl) ?_
  | refine rd_consC ?_
  | refine rd_cons ?_
  | refine rd_nil ?_
  | refine rd_kt ?_
  | refine rd_asg ?_
  | refine rd_gName ?_
  | refine rd_seqN fun _ _ => ?_
  | refine rd_var (by with_unfolding_all rfl) ?_
  | refine rd_call ?_
  | refine rd_op ?_
  | refine rd_c ?_
  | refine rd_ixL (by with_unfolding_all row_room_at hp) (by with_unfolding_all row_room_at ati) ?_
  | refine rd_ixT (by with_unfolding_all row_room_at hp) (by with_unfolding_all row_room_at ati) ?_
  | refine rd_I0 ?_
  | refine rd_test ?_
  | refine rd_eq (by with_unfolding_all rfl) ?_
  | refine rd_ne (by with_unfolding_all rfl) ?_
  | refine rd_ifS ?_
  | refine rd_bl ?_
  | refine rd_ite1 ?_
  | refine rd_ite0 ?_
  | refine rd_iteN1 ?_
  | refine rd_iteN0 ?_
  | refine rd_make ?_
  | refine rd_next ?_
  | refine rd_ret ?_
  | refine rd_CB ?_
  | refine rd_drop ?_
  | refine rd_tup ?_
  | refine rd_lst ?_
  | refine rd_sz (by with_unfolding_all first | decide | (simp only [List.length_append, List.length_map, List.length_cons, List.length_nil, List.length_take]; omega)) ?_
  | refine rd_sl ?_
  | refine rd_nopart ?_
  | refine rd_part ?_
  | refine rd_slL (by with_unfolding_all row_room_at hp) ?_
  | refine rd_cat (by with_unfolding_all row_room_at hp) (by with_unfolding_all row_room_at hp) (by with_unfolding_all first | decide | (simp only [List.length_append, List.length_map, List.length_cons, List.length_nil, List.length_take]; omega)) ?_
  | refine rd_un ?_
  | refine rd_U ?_
  | refine rd_and ?_
  | refine rd_or ?_
  | refine rd_not ?_
  | refine rd_andV ?_
  | refine rd_orV ?_
  | refine rd_notV ?_
  | refine rd_if ?_
  | refine rd_B ?_
  | refine rd_b62 (by with_unfolding_all first | decide | (constructor <;> omega)) ?_
  | refine rd_int1 ?_
  | refine rd_1I ?_
  | refine rd_2I ?_
  | refine rd_iv ?_
  | refine rd_I (by with_unfolding_all row_room_at cc) ?_
  | refine rd_lenQ (by with_unfolding_all first | exact .inl (by row_room_at hp) | exact .inr (by row_room_at hp)) ?_
  | refine rd_len (by with_unfolding_all first | exact .inl (by row_room_at hp) | exact .inr (by row_room_at hp)) ?_
  | refine rd_dget ?_
  | refine rd_dget' (by with_unfolding_all row_room_at hp) (by with_unfolding_all rfl) (by with_unfolding_all assumption) ?_
  | refine rd_dgetS (by with_unfolding_all row_room_at hp) (by with_unfolding_all assumption) ?_
  | refine rd_1B ?_
  | refine rd_dput ?_
  | refine rd_methI ?_
  | refine rd_lenK (by with_unfolding_all first | exact .inl (by row_room_at hp) | exact .inr (by row_room_at hp)) ?_
  | refine rd_dictK (by with_unfolding_all row_room_at hp) ?_
  | refine rd_brk ?_
  | refine rd_cont ?_
  | refine rd_retN ?_
  | refine rd_for ?_
  | refine rd_rng1 ?_
  | refine rd_ilist ?_
  | refine rd_ilist' (by with_unfolding_all row_room_at hp) ?_
  | refine rd_itup ?_
  | refine rd_itup' (by with_unfolding_all row_room_at hp) ?_
  | refine rd_lc ?_
  | refine rd_yes ?_
  | refine rd_bm ?_
  | refine rd_ty (by with_unfolding_all row_room_at hp) ?_
  | refine rd_append (by with_unfolding_all row_room_at hp) (by with_unfolding_all first | decide | (simp only [List.length_append, List.length_map, List.length_cons, List.length_nil]; omega)) ?_
  | refine rd_iteT (by with_unfolding_all decide +kernel) ?_
  | refine rd_iteF (by with_unfolding_all decide +kernel) ?_
  | refine rd_iteNT (by with_unfolding_all decide +kernel) ?_
  | refine rd_iteNF (by with_unfolding_all decide +kernel) ?_
  | refine rd_unN (by with_reducible assumption) ?_)
local macro_rules | `(tactic| row_room_at rd) => `(tactic| repeat row_room_at rd1)
theorem rd_chain {r r' : R2} {ta tb tc : TE} {σ : L2.St} {H : Hp} {Q : VK} (q : ta σ H fun x H1 => tb σ H1 fun y H2 => r x y H2 fun z H3 => ∃ k, z = .bl k ∧ (if k = true then tc σ H3 fun w' H4 => r' y w' H4 Q else Q (.bl false) H3)) : tChain r r' ta tb tc σ H Q := q
theorem valV_drop {kvs : List (Key × V)} {k k' : Key} : valV (dropK kvs k) k' = if k' = k then none else valV kvs k' := by
  unfold dropK
  induction kvs with
  | nil => simp [valV]
  | cons p r ih =>
    by_cases c : p.1 = k
    · rw [List.filter_cons_of_neg (by simp [c]), ih]
      by_cases d : k' = k
      · rw [if_pos d, if_pos d]
      · rw [if_neg d, if_neg d, valV_neg (fun q => d (by rw [← q, c]))]
    · rw [List.filter_cons_of_pos (by simp [c])]
      by_cases d : p.1 = k'
      · rw [valV_pos d, valV_pos d, if_neg (fun q => c (by rw [d, q]))]
      · rw [valV_neg d, valV_neg d, ih]
def spHurt : Sp := fun vs H Q _ => ∃ (st vd : Addr) (ns : Addr × List Int) (ks : List Str) (e : Str → Int) (sz : Int), vs = [.ref st, .ref vd, .int sz] ∧ StAt H st ns ∧ H vd = some (.dK (dk ks e)) ∧ ks.Nodup ∧ ks.length ≤ 10 ∧
  ∀ H' gd kvs, StAt H' st ns → SameBut st H H' → H' gd = some (.dK kvs) → (∀ z v, valV kvs (.inr z) = some v → Pl v) → kvs.length ≤ 100 → Q (.ref gd) H'
theorem dk_get {ks : List Str} {e : Str → Int} {z : Str} {v : V} (h : valV (dk ks e) (.inr z) = some v) : v = .int (e z) := by
  have hz : z ∈ ks := by
    have := valV_in h
    unfold dk at this
    rw [List.map_map] at this
    obtain ⟨y, hy, e⟩ := List.mem_map.mp this
    have e : (Sum.inr y : Key) = .inr z := e
    injection e with e
    rw [← e]; exact hy
  rw [dk_val hz] at h
  exact (Option.some.inj h).symm
theorem sc__law_hurt : FnScope ["_law_state", "_law_values", "_law_size", "_law_given", "_law_name", "_law_pick"] ["_law_state", "_law_values", "_law_size"] (defScope s__law_hurt) := ⟨rfl, rfl, rfl, by decide +kernel, rfl, by decide +kernel, by decide +kernel⟩
theorem ok__law_hurt (T : Txt K mg) : Cal P w K mg base CX0 (3) (ga K "_law_hurt") ["_law_state", "_law_values", "_law_size"] spHurt := by
  obtain ⟨fd, F⟩ := T.f__law_hurt
  refine ⟨fd, ?_, F.kp, F.bindsN fun _ _ _ _ _ _ us hl => match us, hl with | [_, _, _], _ => rfl⟩
  refine F.ok sc__law_hurt (fun vs H Q E h => ?_) (fun cdv A outer s H vs Q E hr h => ?_)
  · obtain ⟨_, _, _, _, _, _, rfl, _⟩ := h
    rfl
  have nod := sc__law_hurt.nd
  have hu := hu_of hr
  refine ⟨_, PSs.nox (pss_cons (ps_set (i := 3) nod rfl (Or.inl rfl) (pe_callTy call_dictD rfl (T.f "dict") (by decide +kernel) (pa_cons (pv 1) pa_nil)))
  (pss_cons (ps_for PassesOwn.never rfl (pi_list (pe_callB ((call_sortedD rfl)) rfl (T.f "sorted") (by decide +kernel) (pa_cons (pv 1) pa_nil))) (pg_name (i := 4) nod rfl (Or.inl rfl))
    (pss_cons (ps_set (i := 5) nod rfl (Or.inl rfl) (pe_callC (c_draw T) (hr.mono (by omega)) rfl (T.g "_law_draw") pass0 (pa_cons (pv 0) (pa_cons pe_int pa_nil))))
    (C8.pss_cut (ps_if (pt_cmpR op_eq (pv 5) pe_int (nomark _))
      (pss_one (ps_expr (pe_dpop1 (pv 3) (pv 4) ⟨rfl, rfl, rfl, rfl⟩)))
      pss_nil)
    (pss_one (ps_if (pt_chain op_lt op_lt pe_int (pv 5) pe_int)
      (pss_one (ps_dput hu (pv 3) (pv 4) (pe_ix ix_list (pe_lst (pa_cons pe_bl (pa_cons pe_str (pa_cons (pe_un un_neg pe_int) (pa_cons (pv 2) pa_nil))))) (pe_op op_sub (pv 5) pe_int) (fun _ _ => rfl)) rfl))
      pss_nil)))))
  (pss_one (ps_ret (pv 3))))), ?_⟩
  obtain ⟨st, vd, ns, ks, e, sz, rfl, S, ev, nd, lk, q⟩ := h
  row_room_at rd
  refine ⟨vd, _, rfl, .inl ev, fun gd hgd => ?_⟩
  have nv := S.fresh hgd
  have s1 := upd_new (o := .dK (dk ks e)) hgd
  have e1 : (upd H gd (.dK (dk ks e))) gd = some (.dK (dk ks e)) := upd_same
  have S1 := S.same s1
  have ev1 := s1 _ _ ev
  generalize upd H gd (.dK (dk ks e)) = H1 at s1 e1 S1 ev1 ⊢
  show gName 3 _ _ _ _
  refine rd_gName ?_
  row_room_at rd
  refine ⟨vd, dk ks e, ks, rfl, .inl ev1, by unfold dk; rw [List.map_map]; rfl, by omega, fun ys p py so hp => ?_⟩
  have s2 := upd_new (o := .lst (ys.map V.str)) hp
  have e2 : (upd H1 p (.lst (ys.map V.str))) p = some (.lst (ys.map V.str)) := upd_same
  have S2 := S1.same s2
  have eg2 := s2 _ _ e1
  generalize upd H1 p (.lst (ys.map V.str)) = H2 at s2 e2 S2 eg2 ⊢
  have np := strs_st S2 e2
  have ngp : gd ≠ p := fun z => by rw [z, e2] at eg2; cases eg2
  have ly : ys.length ≤ 10 := by rw [py.length_eq]; exact lk
  have ndy : ys.Nodup := py.symm.nodup nd
  row_room_at rd
  refine for_list (xs := ys.map V.str) (fun j σ H' => ∃ v4 v5 kvs, σ = [some (.ref st), some (.ref vd), some (.int sz), some (.ref gd), v4, v5] ∧ StAt H' st ns ∧ SameBut st H H' ∧ H' p = some (.lst (ys.map V.str)) ∧ H' gd = some (.dK kvs) ∧ (∀ z v, valV kvs (.inr z) = some v → Pl v) ∧ kvs.length ≤ 10 + j ∧ ∀ z ∈ ys.drop j, ∃ v, valV kvs (.inr z) = some v)
    ⟨none, none, dk ks e, rfl, S2, SameBut.of (s1.trans s2), e2, eg2, fun z v h => by rw [dk_get h]; exact .inr (.inl ⟨_, rfl⟩), by rw [dk_len]; omega, fun z hz => ⟨_, dk_val (py.mem_iff.mp (List.mem_of_mem_drop hz))⟩⟩ (fun j σ H' _ ⟨_, _, _, _, _, _, h, _⟩ => SqL.of h) ?_ ?_
  · rintro j x σ H3 hx ⟨v4, v5, kvs, rfl, S3, B3, e3, g3, pl, l3, pr⟩
    obtain ⟨z, hz, rfl⟩ := map_at hx
    have hj := (List.getElem?_eq_some_iff.mp hz).1
    have dj : ys.drop j = z :: ys.drop (j + 1) := by
      obtain ⟨hj, ej⟩ := List.getElem?_eq_some_iff.mp hz
      rw [List.drop_eq_getElem_cons hj, ej]
    obtain ⟨vz, hvz⟩ := pr z (by rw [dj]; exact List.mem_cons_self)
    have nz : ∀ y ∈ ys.drop (j + 1), y ≠ z := fun y hy e => by
      obtain ⟨m, hm, em⟩ := List.getElem_of_mem hy
      rw [List.length_drop] at hm
      rw [List.getElem_drop] at em
      exact nth_ne ndy (i := j) (j := j + 1 + m) (by omega) hz (by rw [List.getElem?_eq_getElem (by omega), em]) e.symm
    row_room_at rd
    refine draw_do S3 (by decide) (by decide) fun pk H4 pk0 pk1 S4 B4 => ?_
    have B04 := B3.trans B4
    have e4 := B4 _ _ np e3
    have g4 := B4 _ _ nv.1 g3
    clear B3 B4 e3 g3 S3
    row_room_at rd
    refine rd_cut (fun σ' H' => ∃ kvs, σ' = [some (.ref st), some (.ref vd), some (.int sz), some (.ref gd), some (.str z), some (.int pk)] ∧ StAt H' st ns ∧ SameBut st H H' ∧ H' p = some (.lst (ys.map V.str)) ∧ H' gd = some (.dK kvs) ∧ (∀ z v, valV kvs (.inr z) = some v → Pl v) ∧ kvs.length ≤ 10 + j ∧ ∀ z ∈ ys.drop (j + 1), ∃ v, valV kvs (.inr z) = some v) ?_ ?_
    · row_room_at rd
      refine ite2 (fun _ => ?_) (fun _ => ?_)
      · row_room_at rd
        refine ⟨_, rfl, gd, rfl, .inl ⟨_, .inl g4⟩, _, rfl, kvs, .inr z, vz, g4, rfl, hvz, ?_⟩
        refine ⟨dropK kvs (.inr z), rfl, S4.but nv.1 nv.2, fun b o hb ob => by rw [upd_ne (ne_of_none ob hgd)]; exact B04 b o hb ob, by rw [upd_ne (Ne.symm ngp)]; exact e4, upd_same, fun y v h => ?_, by have := dropK_le kvs (.inr z); omega, fun y hy => ?_⟩
        · rw [valV_drop] at h
          split at h
          · cases h
          · exact pl y v h
        · obtain ⟨v, hv⟩ := pr y (by rw [dj]; exact List.mem_cons_of_mem _ hy)
          exact ⟨v, by rw [valV_drop, if_neg (fun q => nz y hy (by injection q))]; exact hv⟩
      · exact ⟨kvs, rfl, S4, B04, e4, g4, pl, l3, fun y hy => pr y (by rw [dj]; exact List.mem_cons_of_mem _ hy)⟩
    · clear e4 g4 S4 B04 pl l3 pr hvz
      clear kvs
      rintro σ' H5 ⟨kvs, rfl, S5, B5, e5, g5, pl, l5, pr⟩
      row_room_at rd
      refine rd_chain ?_
      row_room_at rd
      by_cases c0 : 0 < pk
      case neg =>
        refine ite2 (fun h => absurd (of_decide_eq_true h) c0) (fun _ => ?_)
        row_room_at rd
        exact ⟨_, _, kvs, rfl, S5, B5, e5, g5, pl, by omega, pr⟩
      refine ite2 (fun _ => ?_) (fun h => absurd (decide_eq_true c0) h)
      row_room_at rd
      by_cases c5 : pk < 5
      case neg =>
        refine ite2 (fun h => absurd (of_decide_eq_true h) c5) (fun _ => ?_)
        row_room_at rd
        exact ⟨_, _, kvs, rfl, S5, B5, e5, g5, pl, by omega, pr⟩
      refine ite2 (fun _ => ?_) (fun h => absurd (decide_eq_true c5) h)
      row_room_at rd
      refine rd_new fun L H6 hL s6 e6 => ?_
      obtain ⟨v, hat, hpl⟩ : ∃ v, atI [V.bl true, .str "1", .int (-1), .int sz] (pk - 1) = some v ∧ Pl v := by
        have : pk = 1 ∨ pk = 2 ∨ pk = 3 ∨ pk = 4 := by omega
        rcases this with rfl | rfl | rfl | rfl
        · exact ⟨_, rfl, .inl ⟨_, rfl⟩⟩
        · exact ⟨_, rfl, .inr (.inr rfl)⟩
        · exact ⟨_, rfl, .inr (.inl ⟨_, rfl⟩)⟩
        · exact ⟨_, rfl, .inr (.inl ⟨_, rfl⟩)⟩
      have g6 := s6 _ _ g5
      row_room_at rd
      refine ⟨gd, _, rfl, DPut.k (k := .inr z) g6 (tlt (by omega)), ?_⟩
      refine ⟨_, _, putK kvs (.inr z) v, rfl, (S5.same s6).but nv.1 nv.2, fun b o hb ob => by rw [upd_ne (ne_of_none ob hgd)]; exact s6 _ _ (B5 b o hb ob), by rw [upd_ne (Ne.symm ngp)]; exact s6 _ _ e5, upd_same, fun y u h => ?_, by have := putK_length kvs (.inr z) v; omega, fun y hy => ?_⟩
      · rw [val_put] at h
        split at h
        · rw [← Option.some.inj h]; exact hpl
        · exact pl y u h
      · obtain ⟨u, hu⟩ := pr y hy
        exact ⟨u, by rw [val_put, if_neg (fun q => nz y hy (by injection q))]; exact hu⟩
  · rintro σ H3 ⟨v4, v5, kvs, rfl, S3, B3, e3, g3, pl, l3, pr⟩
    rw [List.length_map] at l3
    row_room_at rd
    exact q H3 gd kvs S3 B3 g3 pl (by omega)

end
end KW
set_option Elab.async false
set_option linter.all false
set_option maxRecDepth 100000
set_option maxHeartbeats 8000000
namespace KW
open PySem PySem.Spec PyProof.Rows L2 He Sw L2H
section
variable {P : Program} {w : World} {K : PySem.W.Frag} {mg : Str → Option Value} {base : Heap}
local macro_rules | `(tactic| row_room_at ne) => `(tactic| first | with_reducible assumption | exact strs_st (by assumption) (by row_room_at hp) | exact StAt.ne_tup (by assumption) (by row_room_at hp) | exact (StAt.fresh (by assumption) (by assumption)).1)
local macro_rules | `(tactic| row_room_at hp) => `(tactic| first
  | with_reducible assumption
  | (apply SqL.of; row_room_at hp)
  | (apply SqT.of; row_room_at hp)
  | (apply Sw.Same.use; with_reducible assumption; row_room_at hp)
  | (apply FoAt.same; rotate_left; with_reducible assumption; row_room_at hp)
  | (apply TrAt.same; rotate_left; with_reducible assumption; row_room_at hp)
  | (apply SameBut.use; with_reducible assumption; rotate_left; row_room_at hp; row_room_at ne))
local macro_rules | `(tactic| row_room_at ati) => `(tactic| first | with_reducible assumption | rfl | (apply atI_nat; rfl))
local macro_rules | `(tactic| row_room_at cc) => `(tactic| first | with_reducible assumption | omega | decide | (refine ⟨?_, ?_⟩ <;> first | decide | omega) | (refine ⟨?_, ?_, ?_⟩ <;> first | decide | omega) | (left; refine ⟨?_, ?_⟩ <;> first | decide | omega) | (right; refine ⟨?_, ?_⟩ <;> first | decide | omega))
local macro_rules | `(tactic| row_room_at rd1) => `(tactic| with_reducible first
  | refine rd_consV (by with_unfolding_all rfl) ?_
  | refine rd_consC ?_
  | refine rd_cons ?_
  | refine rd_nil ?_
  | refine rd_kt ?_
  | refine rd_asg ?_
  | refine rd_gName ?_
  | refine rd_seqN fun _ _ => ?_
  | refine rd_var (by with_unfolding_all rfl) ?_
  | refine rd_call ?_
  | refine rd_op ?_
  | refine rd_c ?_
  | refine rd_ixL (by with_unfolding_all row_room_at hp) (by with_unfolding_all row_room_at ati) ?_
  | refine rd_ixT (by with_unfolding_all row_room_at hp) (by with_unfolding_all row_room_at ati) ?_
  | refine rd_I0 ?_
  | refine rd_test ?_
  | refine rd_eq (by with_unfolding_all rfl) ?_
  | refine rd_ne (by with_unfolding_all rfl) ?_
  | refine rd_ifS ?_
  | refine rd_bl ?_
  | refine rd_ite1 ?_
  | refine rd_ite0 ?_
  | refine rd_iteN1 ?_
  | refine rd_iteN0 ?_
  | refine rd_make ?_
  | refine rd_next ?_
  | refine rd_ret ?_
  | refine rd_CB ?_
  | refine rd_drop ?_
  | refine rd_tup ?_
  | refine rd_lst ?_
  | refine rd_sz (by with_unfolding_all first | decide | (simp only [List.length_append, List.length_map, List.length_cons, List.length_nil, List.length_take]; omega)) ?_
  | refine rd_sl ?_
  | refine rd_nopart ?_
  | refine rd_part ?_
  | refine rd_slL (by with_unfolding_all row_room_at hp) ?_
  | refine rd_cat (by with_unfolding_all row_room_at hp) (by with_unfolding_all row_room_at hp) (by with_unfolding_all first | decide | (simp only [List.length_append, List.length_map, List.length_cons, List.length_nil, List.length_take]; omega)) ?_
  | refine rd_un ?_
  | refine rd_U ?_
  | refine rd_and ?_
  | refine rd_or ?_
  | refine rd_not ?_
  | refine rd_andV ?_
  | refine rd_orV ?_
  | refine rd_notV ?_
  | refine rd_if ?_
  | refine rd_B ?_
  | refine rd_b62 (by with_unfolding_all first | decide | (constructor <;> omega)) ?_
  | refine rd_int1 ?_
  | refine rd_1I ?_
  | refine rd_2I ?_
  | refine rd_iv ?_
  | refine rd_I (by with_unfolding_all row_room_at cc) ?_
  | refine rd_lenQ (by with_unfolding_all first | exact .inl (by row_room_at hp) | exact .inr (by row_room_at hp)) ?_
  | refine rd_len (by with_unfolding_all first | exact .inl (by row_room_at hp) | exact .inr (by row_room_at hp)) ?_
  | refine rd_dget ?_
  | refine rd_dget' (by with_unfolding_all row_room_at hp) (by with_unfolding_all rfl) (by with_unfolding_all assumption) ?_
  | refine rd_dgetS (by with_unfolding_all row_room_at hp) (by with_unfolding_all assumption) ?_
  | refine rd_1B ?_
  | refine rd_dput ?_
  | refine rd_methI ?_
  | refine rd_lenK (by with_unfolding_all first | exact .inl (by row_room_at hp) | exact .inr (by row_room_at hp)) ?_
  | refine rd_dictK (by with_unfolding_all row_room_at hp) ?_
  | refine rd_brk ?_
  | refine rd_cont ?_
  | refine rd_retN ?_
  | refine rd_for ?_
  | refine rd_rng1 ?_
  | refine rd_ilist ?_
  | refine rd_ilist' (by with_unfolding_all row_room_at hp) ?_
  | refine rd_itup ?_
  | refine rd_itup' (by with_unfolding_all row_room_at hp) ?_
  | refine rd_lc ?_
  | refine rd_yes ?_
  | refine rd_bm ?_
  | refine rd_ty (by with_unfolding_all row_room_at hp) ?_
  | refine rd_append (by with_unfolding_all row_room_at hp) (by with_unfolding_all first | decide | (simp only [List.length_append, List.length_map, List.length_cons, List.length_nil]; omega)) ?_
  | refine rd_iteT (by with_unfolding_all decide +kernel) ?_
  | refine rd_iteF (by with_unfolding_all decide +kernel) ?_
  | refine rd_iteNT (by with_unfolding_all decide +kernel) ?_
  | refine rd_iteNF (by with_unfolding_all decide +kernel) ?_
  | refine rd_unN (by with_reducible assumption) ?_)
local macro_rules | `(tactic| row_room_at rd) => `(tactic| repeat row_room_at rd1)
/-! ### is_row and Call(..) of a tuple -/
def spRowT : Sp := fun vs H Q _ => ∃ (l : Addr) (xs : List V), vs = [.ref l] ∧ H l = some (.tup xs) ∧ ∀ H', Same H H' → Q (.bl true) H'
theorem scA_rowT : FnScope ["thing"] ["thing"] (defScope sIsRow) := ⟨rfl, rfl, rfl, by decide +kernel, rfl, by decide +kernel, by decide +kernel⟩
theorem rowT (T : Txt K mg) : Cal P w K mg base CX0 (1) (ga K "is_row") ["thing"] spRowT := by
  obtain ⟨fd, F⟩ := T.f_is_row
  refine ⟨fd, ?_, F.kp, F.bindsN fun _ _ _ _ _ _ us hl => match us, hl with | [_], _ => rfl⟩
  refine F.ok scA_rowT (fun vs H Q E h => ?_) (fun cdv A outer s H vs Q E hr h => ?_)
  · obtain ⟨_, _, rfl, _⟩ := h
    rfl
  have nod := scA_rowT.nd
  have hu := hu_of hr
  refine ⟨_, PSs.nox (pss_one (ps_ret (pe_callB call_isiT rfl (T.f "isinstance") (by decide +kernel) (pa_cons (pv 0) (pa_cons (pe_tup (pa_cons (pe_bltn (v := .ty "list") rfl (T.f "list") (by decide +kernel) rfl) (pa_cons (pe_bltn (v := .ty "tuple") rfl (T.f "tuple") (by decide +kernel) rfl) pa_nil))) pa_nil))))), ?_⟩
  obtain ⟨l, xs, rfl, el, q⟩ := h
  refine ⟨_, rfl, tsz (by show 2 ≤ 1000000; decide), fun tp htp => ?_⟩
  have s2 := upd_new (o := .tup [V.ty "list", .ty "tuple"]) htp
  exact ⟨.ref l, tp, _, .type "tuple", [.type "list", .type "tuple"], true, rfl, upd_same, .cons (.ty _) (.cons (.ty _) .nil), .base (.tup (s2 _ _ el)), kitAny_cons (b := false) (kit_ty (show kitB _ _ = some false by decide +kernel)) (fun _ => kitAny_cons (b := true) (kit_ty (show kitB _ _ = some true by decide +kernel)) (fun h => nomatch h) (fun _ => rfl)) (fun h => nomatch h), q _ s2⟩
def spCallT (K : PySem.W.Frag) : Sp := fun vs H Q _ => ∃ (a C dx l : Addr) (z : Str) (fs : List Fo) (xs : List Addr), vs = [.ref a, .str z, .ref l] ∧ GoodN z ∧ H a = some (.ins C dx []) ∧ InsT K C ∧ H l = some (.tup (xs.map V.ref)) ∧ 1 ≤ fs.length ∧ fs.length ≤ 4 ∧ FoAts K H fs xs ∧ (Fo.call z fs).Fits ∧
  ∀ H' t u, SameBut a H H' → H' a = some (.ins C dx (flds (.str "call") (.ref t) (Fo.call z fs).parts (Fo.call z fs).depth)) → H' t = some (.tup [.str z, .ref u]) → H' u = some (.tup (xs.map V.ref)) → Q .non H'
theorem scA_callT : FnScope ["self", "name", "things", "thing"] ["self", "name", "things"] (defScope sCall) := ⟨rfl, rfl, rfl, by decide +kernel, rfl, by decide +kernel, by decide +kernel⟩
theorem callT (T : Txt K mg) : Cal P w K mg base CX0 (4) (ma K (ga K "Call") "__init__") ["self", "name", "things"] (spCallT K) := by
  obtain ⟨fd, F⟩ := T.f_Call___init__
  refine ⟨fd, ?_, F.kp, F.bindsN fun _ _ _ _ _ _ us hl => match us, hl with | [_, _, _], _ => rfl⟩
  refine F.ok scA_callT (fun vs H Q E h => ?_) (fun cdv A outer s H vs Q E hr h => ?_)
  · obtain ⟨_, _, _, _, _, _, _, rfl, _⟩ := h
    rfl
  have nod := scA_callT.nd
  have hu := hu_of hr
  refine ⟨_, PSs.nox (pss_cons (ps_expr (pe_callC (c_check_name T) (hr.mono (by omega)) rfl (T.g "check_name") pass0 (pa_cons (pv 1) pa_nil)))
  (pss_cons (ps_if (PW.pt (pw_or (pt_not (pt_val (pe_callC (rowT T) (hr.mono (by omega)) rfl (T.g "is_row") pass0 (pa_cons (pv 2) pa_nil)))) (pw_or1 (pt_not (pt_chain op_le op_le pe_int (pe_callB call_len_seq rfl (T.f "len") (by decide +kernel) (pa_cons (pv 2) pa_nil)) (pe_gi (n := 4) rfl T.mThg))))))
    (pss_one ps_never)
    pss_nil)
  (pss_cons (ps_for PassesOwn.never rfl (pi_tup (pv 2)) (pg_name (i := 3) nod rfl (Or.inl rfl))
    (pss_one (ps_expr (pe_callC (ok_check_formula T) (hr.mono (by omega)) rfl (T.g "check_formula") pass0 (pa_cons (pv 3) pa_nil)))))
  (pss_one (ps_expr (pe_clfnC (c_form T) T.foI (hr.mono (by omega)) rfl (T.g "Formula") pass0 (pa_cons (pv 0) (pa_cons pe_str (pa_cons (pe_tup (pa_cons (pv 1) (pa_cons (pe_callTy call_tuple_of rfl (T.f "tuple") (by decide +kernel) (pa_cons (pv 2) pa_nil)) pa_nil))) (pa_cons (pe_callTy call_tuple_of rfl (T.f "tuple") (by decide +kernel) (pa_cons (pv 2) pa_nil)) pa_nil)))))))))), ?_⟩
  obtain ⟨a, C, dx, l, z, fs, xs, rfl, z0, ha, I, el, n1, n4, fk, fit, ri⟩ := h
  have lx := fk.len
  refine ⟨_, rfl, z, rfl, z0, fun H1 s1 => ?_⟩
  refine ⟨_, rfl, l, _, rfl, s1 _ _ el, fun H2 s2 => ⟨_, rfl, ?_⟩⟩
  have s02 := s1.trans s2
  have e2 := s02 _ _ el
  refine ite2 (fun h => Bool.noConfusion (show false = true from h)) (fun _ => ?_)
  refine ⟨_, rfl, l, _, rfl, .inr (SqT.of e2), _, _, rfl, rfl, _, rfl, ?_⟩
  refine ite2 (fun h => ?_) (fun h => absurd (decide_eq_true (by rw [List.length_map]; omega)) h)
  refine ⟨_, _, rfl, rfl, _, rfl, ?_⟩
  refine ite2 (fun h => ?_) (fun _ => ?_)
  · have h : (!decide (((xs.map V.ref).length : Int) ≤ 4)) = true := h
    rw [decide_eq_true (by rw [List.length_map]; omega)] at h
    cases h
  obtain ⟨ks, k1, k2, k3, k4, k5⟩ := fk.kids
  have ep : (Fo.call z fs).parts = 1 + sumP ks := by rw [Fo.parts, k4]
  have ed : (Fo.call z fs).depth = 1 + maxD ks := by rw [Fo.depth, k5]
  have fitk : Fits ks := ⟨by rw [← ep]; exact fit.1, by rw [← ed]; exact fit.2⟩
  have kl : ks.length ≤ 10 := by omega
  rw [ep, ed] at ri
  refine ⟨_, rfl, l, rfl, ⟨_, SqT.of e2⟩, for_tup (xs := xs.map V.ref) (fun _ σ H' => (∃ v, σ = [some (.ref a), some (.str z), some (.ref l), v]) ∧ H' = H2) ⟨⟨none, rfl⟩, rfl⟩ (fun i σ H' _ ⟨_, eH⟩ => by rw [eH]; exact SqT.of e2) ?_ ?_⟩
  · rintro i x σ H' hx ⟨⟨v, rfl⟩, rfl⟩
    obtain ⟨y, hy, rfl⟩ := map_at hx
    obtain ⟨f, _, hf⟩ := fk.get hy
    exact ⟨_, rfl, f, y, rfl, hf.same s02, ⟨_, rfl⟩, rfl⟩
  · rintro σ H' ⟨⟨v, rfl⟩, rfl⟩
    refine ⟨_, rfl, _, rfl, _, rfl, l, _, rfl, .inr ⟨SqT.of e2, ?_⟩⟩
    refine ⟨tsz (by show 2 ≤ 1000000; decide), fun t ht => ?_⟩
    have s4 := upd_new (o := .tup [V.str z, .ref l]) ht
    have et : (upd H' t (.tup [.str z, .ref l])) t = some (.tup [.str z, .ref l]) := upd_same
    generalize upd H' t (.tup [.str z, .ref l]) = H4 at s4 et ⊢
    refine ⟨_, rfl, l, _, rfl, .inr ⟨SqT.of (s4 _ _ e2), ?_⟩⟩
    have s05 := s02.trans s4
    have ha5 := s05 _ _ ha
    have ee := s4 _ _ e2
    rw [← k1] at ee
    exact ⟨a, C, dx, l, _, _, ks, rfl, ha5, I, ee, (fun q hq => (k2 q hq).same s05), kl, fitk, fun H' sb e' => ri H' t l ((SameBut.of s05).trans sb) e' (tup_but ha5 sb et) (tup_but ha5 sb (s4 _ _ e2))⟩
/-! ### _law_bad -/
theorem upd_none {H : Hp} {a b : Addr} {o : HO} (h : upd H a o b = none) : b ≠ a ∧ H b = none := by
  have n : b ≠ a := fun z => by
    rw [z, upd_same] at h
    cases h
  rw [upd_ne n] at h
  exact ⟨n, h⟩
def spBad : Sp := fun vs H Q _ => ∃ (st : Addr) (ns : Addr × List Int), vs = [.ref st] ∧ StAt H st ns ∧ ∀ v n H', Th H' v n → StAt H' st ns → SameBut st H H' → Q v H'
theorem sc__law_bad : FnScope ["_law_state"] ["_law_state"] (defScope s__law_bad) := ⟨rfl, rfl, rfl, by decide +kernel, rfl, by decide +kernel, by decide +kernel⟩
theorem ok__law_bad (T : Txt K mg) : Cal P w K mg base CX0 (2) (ga K "_law_bad") ["_law_state"] spBad := by
  obtain ⟨fd, F⟩ := T.f__law_bad
  refine ⟨fd, ?_, F.kp, F.bindsN fun _ _ _ _ _ _ us hl => match us, hl with | [_], _ => rfl⟩
  refine F.ok sc__law_bad (fun vs H Q E h => ?_) (fun cdv A outer s H vs Q E hr h => ?_)
  · obtain ⟨_, _, rfl, _⟩ := h
    rfl
  have nod := sc__law_bad.nd
  have hu := hu_of hr
  refine ⟨_, PSs.nox (pss_one (ps_ret (pe_ix ix_list (pe_lst (pa_cons pe_non (pa_cons pe_bl (pa_cons (pe_un un_neg pe_int) (pa_cons pe_str (pa_cons (pe_tup (pa_cons pe_str pa_nil)) (pa_cons (pe_lst (pa_cons pe_str pa_nil)) (pa_cons (pe_disp (pps_cons pe_str pe_int pps_nil) (by rfl) (by rfl) (fun z => by cases z) (by decide)) (pa_cons pe_str pa_nil))))))))) (pe_callC (c_draw T) (hr.mono (by omega)) rfl (T.g "_law_draw") pass0 (pa_cons (pv 0) (pa_cons pe_int pa_nil))) (fun _ _ => rfl)))), ?_⟩
  obtain ⟨st, ns, rfl, S, k⟩ := h
  refine ⟨_, rfl, by show 1 ≤ sizeLine; rw [sizeLine_eq]; decide, fun t ht => ⟨by show 1 ≤ sizeLine; rw [sizeLine_eq]; decide, fun l hl => ?_⟩⟩
  intro d hd
  refine ⟨upd_same, [(.inr "x", .int 1)], rfl, by show 1 ≤ 15; decide, by show 8 ≤ sizeLine; rw [sizeLine_eq]; decide, fun p hp => ?_⟩
  obtain ⟨nlt, hl0⟩ := upd_none hl
  obtain ⟨ndl, hd1⟩ := upd_none hd
  obtain ⟨ndt, hd0⟩ := upd_none hd1
  obtain ⟨npd, hp1⟩ := upd_none hp
  obtain ⟨_, hp2⟩ := upd_none hp1
  obtain ⟨npl, hp3⟩ := upd_none hp2
  obtain ⟨npt, hp0⟩ := upd_none hp3
  generalize hX : upd (upd (upd (upd (upd H t _) l _) d _) d _) p _ = X
  have sX : Same H X := fun b o e => by
    rw [← hX, upd_ne (ne_of_none e hp0), upd_ne (ne_of_none e hd0), upd_ne (ne_of_none e hd0), upd_ne (ne_of_none e hl0), upd_ne (ne_of_none e ht)]
    exact e
  have eP : X p = some (.lst [.non, .bl true, .int (-1), .str "x y", .ref t, .ref l, .ref d, .str ""]) := by rw [← hX, upd_same]
  have eD : X d = some (.dK [(.inr "x", .int 1)]) := by rw [← hX, upd_ne npd.symm, upd_same]; rfl
  have eL : X l = some (.lst [.str "x"]) := by rw [← hX, upd_ne npl.symm, upd_ne ndl.symm, upd_ne ndl.symm, upd_same]
  have eT : X t = some (.tup [.str "x"]) := by rw [← hX, upd_ne npt.symm, upd_ne ndt.symm, upd_ne ndt.symm, upd_ne nlt.symm, upd_same]
  clear hX
  have hst : ∀ q, H q = none → q ≠ st := fun q e z => by
    obtain ⟨_, _, _, h1, _⟩ := S
    rw [z, h1] at e
    cases e
  refine ⟨_, rfl, st, 8, ns, rfl, by decide, by decide, S.same sX, fun r H2 r0 r1 S2 B2 => ?_⟩
  have fP := B2 _ _ (hst p hp0) eP
  have fin : ∀ v n, Th X v n → Q v H2 := fun v n t' => by
    have t2 : Th H2 v n := by
      cases t' with
      | non => exact .non
      | bl b => exact .bl b
      | int i => exact .int i
      | str z h => exact .str z h
      | tup a e =>
        by_cases hz : a = st
        · obtain ⟨_, _, _, h1, _⟩ := S.same sX
          rw [hz, h1] at e
          cases e
        · exact .tup a (B2 _ _ hz e)
      | lst a e =>
        by_cases hz : a = st
        · obtain ⟨_, _, _, h1, _⟩ := S.same sX
          rw [hz, h1] at e
          cases e
        · exact .lst a (B2 _ _ hz e)
      | ls8 a e =>
        by_cases hz : a = st
        · obtain ⟨_, _, _, h1, _⟩ := S.same sX
          rw [hz, h1] at e
          cases e
        · exact .ls8 a (B2 _ _ hz e)
      | dct a e =>
        by_cases hz : a = st
        · obtain ⟨_, _, _, h1, _⟩ := S.same sX
          rw [hz, h1] at e
          cases e
        · exact .dct a (B2 _ _ hz e)
    exact k v n H2 t2 S2 ((SameBut.of sX).trans B2)
  have hr8 : r = 0 ∨ r = 1 ∨ r = 2 ∨ r = 3 ∨ r = 4 ∨ r = 5 ∨ r = 6 ∨ r = 7 := by omega
  rcases hr8 with rfl | rfl | rfl | rfl | rfl | rfl | rfl | rfl
  · exact ⟨p, _, _, _, rfl, rfl, SqL.of fP, atI_nat (j := 0) rfl, fin _ _ .non⟩
  · exact ⟨p, _, _, _, rfl, rfl, SqL.of fP, atI_nat (j := 1) rfl, fin _ _ (.bl true)⟩
  · exact ⟨p, _, _, _, rfl, rfl, SqL.of fP, atI_nat (j := 2) rfl, fin _ _ (.int _)⟩
  · exact ⟨p, _, _, _, rfl, rfl, SqL.of fP, atI_nat (j := 3) rfl, fin _ _ (.str _ (by decide +kernel))⟩
  · exact ⟨p, _, _, _, rfl, rfl, SqL.of fP, atI_nat (j := 4) rfl, fin _ _ (.tup t eT)⟩
  · exact ⟨p, _, _, _, rfl, rfl, SqL.of fP, atI_nat (j := 5) rfl, fin _ _ (.lst l eL)⟩
  · exact ⟨p, _, _, _, rfl, rfl, SqL.of fP, atI_nat (j := 6) rfl, fin _ _ (.dct d eD)⟩
  · exact ⟨p, _, _, _, rfl, rfl, SqL.of fP, atI_nat (j := 7) rfl, fin _ _ (.str _ (by decide +kernel))⟩
theorem FoAt.kind_eq {H : Hp} {f g : Fo} {a : Addr} (hf : FoAt K H f a) (hg : FoAt K H g a) : f.kind = g.kind := by
  obtain ⟨_, dx, t, e1, _⟩ := hf.nd
  obtain ⟨_, dy, u, e2, _⟩ := hg.nd
  rw [e1] at e2
  have hs : ∀ k t p d, flds k t p d = [(("kind" : Str), k), ("things", t), ("parts", .int p), ("depth", .int d)] := fun _ _ _ _ => rfl
  rw [hs, hs] at e2
  injection e2 with e2
  injection e2 with _ _ e2
  injection e2 with e2
  injection e2 with _ e2
  injection e2 with e2
theorem Fo.cls_kind {f g : Fo} (h : f.kind = g.kind) (c : (∃ z fs, g = .call z fs) ∨ ∃ x, g = .neg x) : f.cls = g.cls := by
  rcases c with ⟨z, fs, rfl⟩ | ⟨x, rfl⟩ <;> cases f <;> first | rfl | (exfalso; revert h; simp only [Fo.kind]; decide +kernel) | skip
  all_goals rename_i o _ _
  all_goals (exfalso; simp only [Fo.kind] at h; revert h; cases o <;> decide +kernel)
theorem Th.noFo {H : Hp} {f : Fo} {a : Addr} {n : String} (t : Th H (.ref a) n) (h : FoAt K H f a) : False := by
  obtain ⟨dx, fs, e⟩ := h.ins
  cases t with
  | tup _ e' => rw [e'] at e; cases e
  | lst _ e' => rw [e'] at e; cases e
  | ls8 _ e' => rw [e'] at e; cases e
  | dct _ e' => rw [e'] at e; cases e
end
end KW
set_option Elab.async false
set_option linter.all false
set_option maxRecDepth 100000
set_option maxHeartbeats 8000000
namespace KW
open PySem PySem.Spec PyProof.Rows L2 He Sw L2H
section
variable {P : Program} {w : World} {K : PySem.W.Frag} {mg : Str → Option Value} {base : Heap}
local macro_rules | `(tactic| row_room_at ne) => `(tactic| first | with_reducible assumption | exact strs_st (by assumption) (by row_room_at hp) | exact StAt.ne_tup (by assumption) (by row_room_at hp) | exact (StAt.fresh (by assumption) (by assumption)).1)
local macro_rules | `(tactic| row_room_at hp) => `(tactic| first
  | with_reducible assumption
  | (apply SqL.of; row_room_at hp)
  | (apply SqT.of; row_room_at hp)
  | (apply Sw.Same.use; with_reducible assumption; row_room_at hp)
  | (apply FoAt.same; rotate_left; with_reducible assumption; row_room_at hp)
  | (apply TrAt.same; rotate_left; with_reducible assumption; row_room_at hp)
  | (apply SameBut.use; with_reducible assumption; rotate_left; row_room_at hp; row_room_at ne))
local macro_rules | `(tactic| row_room_at ati) => `(tactic| first | with_reducible assumption | rfl | (apply atI_nat; rfl))
local macro_rules | `(tactic| row_room_at cc) => `(tactic| first | with_reducible assumption | omega | decide | (refine ⟨?_, ?_⟩ <;> first | decide | omega) | (refine ⟨?_, ?_, ?_⟩ <;> first | decide | omega) | (left; refine ⟨?_, ?_⟩ <;> first | decide | omega) | (right; refine ⟨?_, ?_⟩ <;> first | decide | omega))
local macro_rules | `(tactic| row_room_at rd1) => `(tactic| with_reducible first
  | refine rd_consV (by with_unfolding_all rfl) ?_
  | refine rd_consC ?_
  | refine rd_cons ?_
  | refine rd_nil ?_
  | refine rd_kt ?_
  | refine rd_asg ?_
  | refine rd_gName ?_
  | refine rd_seqN fun _ _ => ?_
  | refine rd_var (by with_unfolding_all rfl) ?_
  | refine rd_call ?_
  | refine rd_op ?_
  | refine rd_c ?_
  | refine rd_ixL (by with_unfolding_all row_room_at hp) (by with_unfolding_all row_room_at ati) ?_
  | refine rd_ixT (by with_unfolding_all row_room_at hp) (by with_unfolding_all row_room_at ati) ?_
  | refine rd_I0 ?_
  | refine rd_test ?_
  | refine rd_eq (by with_unfolding_all rfl) ?_
  | refine rd_ne (by with_unfolding_all rfl) ?_
  | refine rd_ifS ?_
  | refine rd_bl ?_
  | refine rd_ite1 ?_
  | refine rd_ite0 ?_
  | refine rd_iteN1 ?_
  | refine rd_iteN0 ?_
  | refine rd_make ?_
  | refine rd_next ?_
  | refine rd_ret ?_
  | refine rd_CB ?_
  | refine rd_drop ?_
  | refine rd_tup ?_
  | refine rd_lst ?_
  | refine rd_sz (by with_unfolding_all first | decide | (simp only [List.length_append, List.length_map, List.length_cons, List.length_nil, List.length_take]; omega)) ?_
  | refine rd_sl ?_
  | refine rd_nopart ?_
  | refine rd_part ?_
  | refine rd_slL (by with_unfolding_all row_room_at hp) ?_
  | refine rd_cat (by with_unfolding_all row_room_at hp) (by with_unfolding_all row_room_at hp) (by with_unfolding_all first | decide | (simp only [List.length_append, List.length_map, List.length_cons, List.length_nil, List.length_take]; omega)) ?_
  | refine rd_un ?_
  | refine rd_U ?_
  | refine rd_and ?_
  | refine rd_or ?_
  | refine rd_not ?_
  | refine rd_andV ?_
  | refine rd_orV ?_
  | refine rd_notV ?_
  | refine rd_if ?_
  | refine rd_B ?_
  | refine rd_b62 (by with_unfolding_all first | decide | (constructor <;> omega)) ?_
  | refine rd_int1 ?_
  | refine rd_1I ?_
  | refine rd_2I ?_
  | refine rd_iv ?_
  | refine rd_I (by with_unfolding_all row_room_at cc) ?_
  | refine rd_lenQ (by with_unfolding_all first | exact .inl (by row_room_at hp) | exact .inr (by row_room_at hp)) ?_
  | refine rd_len (by with_unfolding_all first | exact .inl (by row_room_at hp) | exact .inr (by row_room_at hp)) ?_
  | refine rd_dget ?_
  | refine rd_dget' (by with_unfolding_all row_room_at hp) (by with_unfolding_all rfl) (by with_unfolding_all assumption) ?_
  | refine rd_dgetS (by with_unfolding_all row_room_at hp) (by with_unfolding_all assumption) ?_
  | refine rd_1B ?_
  | refine rd_dput ?_
  | refine rd_methI ?_
  | refine rd_lenK (by with_unfolding_all first | exact .inl (by row_room_at hp) | exact .inr (by row_room_at hp)) ?_
  | refine rd_dictK (by with_unfolding_all row_room_at hp) ?_
  | refine rd_brk ?_
  | refine rd_cont ?_
  | refine rd_retN ?_
  | refine rd_for ?_
  | refine rd_rng1 ?_
  | refine rd_ilist ?_
  | refine rd_ilist' (by with_unfolding_all row_room_at hp) ?_
  | refine rd_itup ?_
  | refine rd_itup' (by with_unfolding_all row_room_at hp) ?_
  | refine rd_lc ?_
  | refine rd_yes ?_
  | refine rd_bm ?_
  | refine rd_ty (by with_unfolding_all row_room_at hp) ?_
  | refine rd_append (by with_unfolding_all row_room_at hp) (by with_unfolding_all first | decide | (simp only [List.length_append, List.length_map, List.length_cons, List.length_nil]; omega)) ?_
  | refine rd_iteT (by with_unfolding_all decide +kernel) ?_
  | refine rd_iteF (by with_unfolding_all decide +kernel) ?_
  | refine rd_iteNT (by with_unfolding_all decide +kernel) ?_
  | refine rd_iteNF (by with_unfolding_all decide +kernel) ?_
  | refine rd_unN (by with_reducible assumption) ?_)
local macro_rules | `(tactic| row_room_at rd) => `(tactic| repeat row_room_at rd1)
/-! ### the law -/
def B3.nm : B3 → String
  | .plus => "add"
  | .minus => "sub"
  | .times => "mul"
theorem bin_do (T : Txt K mg) (o : B3) {f g : Fo} {a b : Addr} {H : Hp} {Q : VK} {E : XK} (hf : FoAt K H f a) (hg : FoAt K H g b) (fit : (Fo.bin o f g).Fits) (q : ∀ H' x, Same H H' → FoAt K H' (.bin o f g) x → Q (.ref x) H') :
    rOwn K o.nm (mF K (PySem.dunder o.nm)) (spBin K o) E (.ref a) (.ref b) H Q := by
  obtain ⟨x0, hx0, dx0, fs0, ea0⟩ := hf.cls
  obtain ⟨y0, hy0, dy0, gs0, eb0⟩ := hg.cls
  exact ⟨a, b, _, _, dx0, dy0, fs0, gs0, rfl, rfl, ea0, eb0, T.bin x0 hx0 y0 hy0 o.nm (by cases o <;> decide), f, g, a, b, rfl, hf, hg, fit, fun H3 y s3 hy => ⟨⟨y, rfl⟩, q H3 y s3 hy⟩⟩
theorem own_same {H : Hp} {X dx C : Addr} (hx : H X = none) (hdx : H dx = none) : Same H (upd (upd H dx (.own X)) X (.ins C dx [])) := fun b o q => by rw [upd_ne (ne_of_none q hx), upd_ne (ne_of_none q hdx)]; exact q
theorem foats_same {H H' : Hp} {fs : List Fo} {xs : List Addr} (h : FoAts K H fs xs) (s : Same H H') : FoAts K H' fs xs := h.same s
theorem call_do (T : Txt K mg) {z : Str} {fs : List Fo} {xs : List Addr} {l : Addr} {H : Hp} {Q : VK} {E : XK} (g : GoodN z) (el : H l = some (.lst (xs.map V.ref))) (n1 : 1 ≤ fs.length) (n4 : fs.length ≤ 4) (fk : FoAts K H fs xs) (fit : (Fo.call z fs).Fits) (q : ∀ H' x, Same H H' → FoAt K H' (.call z fs) x → Q (.ref x) H') :
    ∀ x dx, H x = none → H dx = none → dx ≠ x → spCallI K [.ref x, .str z, .ref l] (upd (upd H dx (.own x)) x (.ins (ga K "Call") dx [])) (fun v H2 => v = .non ∧ Kt Q (.ref x) H2) E := by
  intro X dx hx hdx ne
  have s3 := own_same (C := ga K "Call") hx hdx
  refine ⟨X, _, dx, l, z, fs, xs, rfl, g, upd_same, T.ins _ (by decide +kernel), s3 _ _ el, n1, n4, fk.same s3, fit, fun H' tc uc sb e' et eu => ⟨rfl, ?_⟩⟩
  obtain ⟨a1, nd⟩ := made (K := K) (f := .call z fs) (Same.refl H) hx hdx sb e' et rfl rfl
  exact q H' X a1 (by simp only [FoAt]; exact ⟨uc, xs, nd, eu, fk.same a1⟩)
theorem callT_do (T : Txt K mg) {z : Str} {fs : List Fo} {xs : List Addr} {l : Addr} {H : Hp} {Q : VK} {E : XK} (g : GoodN z) (el : H l = some (.tup (xs.map V.ref))) (n1 : 1 ≤ fs.length) (n4 : fs.length ≤ 4) (fk : FoAts K H fs xs) (fit : (Fo.call z fs).Fits) (q : ∀ H' x, Same H H' → FoAt K H' (.call z fs) x → Q (.ref x) H') :
    ∀ x dx, H x = none → H dx = none → dx ≠ x → spCallT K [.ref x, .str z, .ref l] (upd (upd H dx (.own x)) x (.ins (ga K "Call") dx [])) (fun v H2 => v = .non ∧ Kt Q (.ref x) H2) E := by
  intro X dx hx hdx ne
  have s3 := own_same (C := ga K "Call") hx hdx
  refine ⟨X, _, dx, l, z, fs, xs, rfl, g, upd_same, T.ins _ (by decide +kernel), s3 _ _ el, n1, n4, fk.same s3, fit, fun H' tc uc sb e' et eu => ⟨rfl, ?_⟩⟩
  obtain ⟨a1, nd⟩ := made (K := K) (f := .call z fs) (Same.refl H) hx hdx sb e' et rfl rfl
  exact q H' X a1 (by simp only [FoAt]; exact ⟨uc, xs, nd, eu, fk.same a1⟩)
theorem num_do (T : Txt K mg) {n : Int} {H : Hp} {Q : VK} {E : XK} (n0 : 0 ≤ n) (n1 : n < 10 ^ 30) (q : ∀ H' x, Same H H' → FoAt K H' (.num n) x → Q (.ref x) H') :
    ∀ x dx, H x = none → H dx = none → dx ≠ x → spNumI K [.ref x, .int n] (upd (upd H dx (.own x)) x (.ins (ga K "Number") dx [])) (fun v H2 => v = .non ∧ Kt Q (.ref x) H2) E := by
  intro X dx hx hdx ne
  refine ⟨X, _, dx, n, rfl, n0, n1, upd_same, T.ins _ (by decide +kernel), fun H' t sb e' et => ⟨rfl, ?_⟩⟩
  obtain ⟨a1, nd⟩ := made (K := K) (f := .num n) (Same.refl H) hx hdx sb e' et rfl rfl
  exact q H' X a1 (by simp only [FoAt]; exact nd)
theorem name_do (T : Txt K mg) {z : Str} {H : Hp} {Q : VK} {E : XK} (g : GoodN z) (q : ∀ H' x, Same H H' → FoAt K H' (.nam z) x → Q (.ref x) H') :
    ∀ x dx, H x = none → H dx = none → dx ≠ x → spNameI K [.ref x, .str z] (upd (upd H dx (.own x)) x (.ins (ga K "Name") dx [])) (fun v H2 => v = .non ∧ Kt Q (.ref x) H2) E := by
  intro X dx hx hdx ne
  refine ⟨X, _, dx, z, rfl, g, upd_same, T.ins _ (by decide +kernel), fun H' t sb e' et => ⟨rfl, ?_⟩⟩
  obtain ⟨a1, nd⟩ := made (K := K) (f := .nam z) (Same.refl H) hx hdx sb e' et rfl rfl
  exact q H' X a1 (by simp only [FoAt]; exact nd)
theorem sum_do (T : Txt K mg) {i : Str} {b f : Fo} {y x : Addr} {H : Hp} {Q : VK} {E : XK} (g : GoodN i) (bl : b.leaf) (bn : b ≠ .nam i) (hb : FoAt K H b y) (hf : FoAt K H f x) (ni : i ∉ f.ixs) (ff : f.Fits) (fit : (Fo.sum i b f).Fits) (q : ∀ H' x, Same H H' → FoAt K H' (.sum i b f) x → Q (.ref x) H') :
    ∀ X dx, H X = none → H dx = none → dx ≠ X → spSumI K [.ref X, .str i, .ref y, .ref x] (upd (upd H dx (.own X)) X (.ins (ga K "Sum") dx [])) (fun v H2 => v = .non ∧ Kt Q (.ref X) H2) E := by
  intro X dx hx hdx ne
  have s3 := own_same (C := ga K "Sum") hx hdx
  refine ⟨X, _, dx, y, x, i, b, f, rfl, g, upd_same, T.ins _ (by decide +kernel), bl, bn, hb.same s3, hf.same s3, ni, ff, fit, fun H' t sb e' et => ⟨rfl, ?_⟩⟩
  obtain ⟨a1, nd⟩ := made (K := K) (f := .sum i b f) (Same.refl H) hx hdx sb e' et rfl rfl
  exact q H' X a1 (by simp only [FoAt]; exact ⟨y, x, nd, hb.same a1, hf.same a1⟩)
theorem Th.go {H H' : Hp} {st : Addr} {v : V} {n : String} (t : Th H v n) (ne : v ≠ .ref st) (B : SameBut st H H') : Th H' v n := by
  have nn : ∀ {b : Addr}, V.ref b ≠ .ref st → b ≠ st := fun h z => h (by rw [z])
  cases t with
  | non => exact .non
  | bl b => exact .bl b
  | int i => exact .int i
  | str z h => exact .str z h
  | tup a e => exact .tup a (B _ _ (nn ne) e)
  | lst a e => exact .lst a (B _ _ (nn ne) e)
  | ls8 a e => exact .ls8 a (B _ _ (nn ne) e)
  | dct a e => exact .dct a (B _ _ (nn ne) e)
theorem ValsAt.ex {H : Hp} {b : Addr} {g : Str → V} (h : ValsAt H (.ref b) g) (e : H b = none) : False := by
  cases h with
  | dict e' _ => rw [e] at e'; cases e'
  | no nd =>
    cases nd with
    | lst e' => rw [e] at e'; cases e'
    | tup e' => rw [e] at e'; cases e'
theorem Th.ex {H : Hp} {b : Addr} {n : String} (h : Th H (.ref b) n) (e : H b = none) : False := by
  cases h with
  | tup _ e' => rw [e] at e'; cases e'
  | lst _ e' => rw [e] at e'; cases e'
  | ls8 _ e' => rw [e] at e'; cases e'
  | dct _ e' => rw [e] at e'; cases e'
theorem list9 {zs : List Str} (h : zs.length = 9) : ∃ a b c d e f g i j, zs = [a, b, c, d, e, f, g, i, j] := by
  match zs, h with
  | [a, b, c, d, e, f, g, i, j], _ => exact ⟨_, _, _, _, _, _, _, _, _, rfl⟩
theorem one_dk {n : Str} {m : Int} : ([(.inr n, .int m)] : List (Key × V)) = dk [n] fun _ => m := rfl
theorem pl_dk {ks : List Str} {e : Str → Int} : ∀ z v, valV (dk ks e) (.inr z) = some v → Pl v := fun z v h => by rw [dk_get h]; exact .inr (.inl ⟨_, rfl⟩)
def VL (H : Hp) (vv : V) : Prop := ∀ vd kvs, vv = .ref vd → H vd = some (.dK kvs) → kvs.length ≤ 100
theorem ValsAt.go {H H' : Hp} {st : Addr} {v : V} {g : Str → V} (h : ValsAt H v g) (ne : v ≠ .ref st) (B : SameBut st H H') : ValsAt H' v g := by
  cases h with
  | @dict vd kvs e p => exact .dict (B _ _ (fun z => ne (by rw [z])) e) p
  | no nd =>
    cases nd with
    | non => exact .no .non
    | int i => exact .no (.int i)
    | str z => exact .no (.str z)
    | @lst b xs e => exact .no (.lst (B _ _ (fun z => ne (by rw [z])) e))
    | @tup b xs e => exact .no (.tup (B _ _ (fun z => ne (by rw [z])) e))
theorem VL.go {H H' : Hp} {st : Addr} {v : V} {g : Str → V} (l : VL H v) (h : ValsAt H v g) (ne : v ≠ .ref st) (B : SameBut st H H') : VL H' v := fun vd kvs ev e => by
  cases h with
  | @dict vd' kvs' ed pl' =>
    have e' := B _ _ (fun z => ne (by rw [z])) ed
    injection ev with ev
    rw [← ev, e'] at e
    injection e with e
    injection e with e
    rw [← e]; exact l _ _ rfl ed
  | no nd =>
    subst ev
    cases nd with
    | lst h => rw [B _ _ (fun z => ne (by rw [z])) h] at e; cases e
    | tup h => rw [B _ _ (fun z => ne (by rw [z])) h] at e; cases e
theorem VL.same {H H' : Hp} {v : V} {g : Str → V} (l : VL H v) (h : ValsAt H v g) (s : Same H H') : VL H' v := fun vd kvs ev e => by
  cases h with
  | @dict vd' kvs' ed pl' =>
    have e' := s _ _ ed
    injection ev with ev
    rw [← ev, e'] at e
    injection e with e
    injection e with e
    rw [← e]; exact l _ _ rfl ed
  | no nd =>
    subst ev
    cases nd with
    | lst h => rw [s _ _ h] at e; cases e
    | tup h => rw [s _ _ h] at e; cases e
def spLaw (K : PySem.W.Frag) : Sp := fun vs H Q _ => ∃ (a : Addr) (ns : List Int), vs = [.ref a] ∧ SqL K H a (ns.map V.int) ∧ ∀ H', Q (.bl true) H'
theorem sc_law : FnScope ["_law_script", "_law_state", "_law_aimed", "_law_choice", "_law_width", "_law_names_here", "_law_made_here", "_law_values", "_law_formula", "_law_given", "_law_strange", "_law_thing"] ["_law_script"] (defScope sLaw) := ⟨rfl, rfl, rfl, by decide +kernel, rfl, by decide +kernel, by decide +kernel⟩
theorem ok_law (T : Txt K mg) {fd : FuncData} (F : FnG K "law" sLaw fd) : FnOk P w K mg base CX0 225 (ga K "law") fd ["_law_script"] (spLaw K) := by
  refine F.ok sc_law (fun vs H Q E h => ?_) (fun cdv A outer s H vs Q E hr h => ?_)
  · obtain ⟨_, _, rfl, _⟩ := h
    rfl
  have nod := sc_law.nd
  have hu := hu_of hr
  refine ⟨_, PSs.nox (pss_cons (ps_set (i := 1) nod rfl (Or.inl rfl) (pe_lst (pa_cons (pe_callTy call_list_of rfl (T.f "list") (by decide +kernel) (pa_cons (pv 0) pa_nil)) (pa_cons pe_int (pa_cons pe_int (pa_cons pe_int pa_nil))))))
  (pss_cons (ps_set (i := 2) nod rfl (Or.inl rfl) (pe_callC (c_draw T) (hr.mono (by omega)) rfl (T.g "_law_draw") pass0 (pa_cons (pv 1) (pa_cons pe_int pa_nil))))
  (pss_cons (ps_set (i := 3) nod rfl (Or.inl rfl) (pe_callC (c_draw T) (hr.mono (by omega)) rfl (T.g "_law_draw") pass0 (pa_cons (pv 1) (pa_cons pe_int pa_nil))))
  (pss_cons (ps_set (i := 4) nod rfl (Or.inl rfl) (pe_op op_add pe_int (pe_callC (c_draw T) (hr.mono (by omega)) rfl (T.g "_law_draw") pass0 (pa_cons (pv 1) (pa_cons pe_int pa_nil)))))
  (pss_cons (ps_set (i := 5) nod rfl (Or.inl rfl) (pe_callC (c_names T) (hr.mono (by omega)) rfl (T.g "_law_names") pass0 (pa_cons (pv 1) (pa_cons pe_int pa_nil))))
  (pss_cons (ps_if (pt_cmpR op_eq (pv 2) pe_int (nomark _))
    (pss_cons (ps_set (i := 6) nod rfl (Or.inl rfl) (pe_callC (ok__law_long T) (hr.mono (by omega)) rfl (T.g "_law_long") pass0 (pa_cons (pv 1) (pa_cons (pv 5) pa_nil))))
    (pss_one (ps_ret (pe_callC (ok__law_holds T) (hr.mono (by omega)) rfl (T.g "_law_holds") pass0 (pa_cons (pe_callC (ok__law_made T 40) (hr.mono (by omega)) rfl (T.g "_law_made") pass0 (pa_cons (pe_ix ix_tup (pv 6) pe_int (fun _ _ => rfl)) pa_nil)) (pa_cons (pe_ix ix_tup (pv 6) pe_int (fun _ _ => rfl)) (pa_cons (pe_ix ix_tup (pv 6) pe_int (fun _ _ => rfl)) (pa_cons (pe_callC (ok__law_due T) (hr.mono (by omega)) rfl (T.g "_law_due") pass0 (pa_cons (pe_ix ix_tup (pv 6) pe_int (fun _ _ => rfl)) (pa_cons (pe_ix ix_tup (pv 6) pe_int (fun _ _ => rfl)) (pa_cons (pe_ix ix_tup (pv 6) pe_int (fun _ _ => rfl)) pa_nil)))) pa_nil))))))))
    pss_nil)
  (pss_cons (ps_set (i := 6) nod rfl (Or.inl rfl) (pe_callC (ok__law_short T) (hr.mono (by omega)) rfl (T.g "_law_short") pass0 (pa_cons (pv 1) (pa_cons (pv 5) (pa_cons (pv 4) pa_nil)))))
  (pss_cons (ps_set (i := 7) nod rfl (Or.inl rfl) (pe_callC (ok__law_hurt T) (hr.mono (by omega)) rfl (T.g "_law_hurt") pass0 (pa_cons (pv 1) (pa_cons (pe_ix ix_tup (pv 6) pe_int (fun _ _ => rfl)) (pa_cons (pe_op op_shr (pe_op op_pow pe_int pe_int) (pe_op op_sub pe_int (pv 4))) pa_nil)))))
  (C8.pss_cut (ps_if (pt_cmpR op_eq (pv 3) pe_int (nomark _))
    (pss_one (ps_set (i := 7) nod rfl (Or.inl rfl) (pe_ix ix_list (pe_lst (pa_cons pe_non (pa_cons pe_int (pa_cons (pe_lst pa_nil) (pa_cons pe_str (pa_cons (pe_tup (pa_cons pe_str (pa_cons pe_int pa_nil))) pa_nil)))))) (pe_callC (c_draw T) (hr.mono (by omega)) rfl (T.g "_law_draw") pass0 (pa_cons (pv 1) (pa_cons pe_int pa_nil))) (fun _ _ => rfl))))
    pss_nil)
  (pss_cons (ps_set (i := 8) nod rfl (Or.inl rfl) (pe_callC (ok__law_made T 40) (hr.mono (by omega)) rfl (T.g "_law_made") pass0 (pa_cons (pe_ix ix_tup (pv 6) pe_int (fun _ _ => rfl)) pa_nil)))
  (pss_cons (ps_set (i := 9) nod rfl (Or.inl rfl) (pv 4))
  (C8.pss_cut (ps_if (pt_cmpR op_gt (pv 3) pe_int (nomark _))
    (pss_one (ps_set (i := 9) nod rfl (Or.inl rfl) (pe_ix ix_list (pe_lst (pa_cons pe_int (pa_cons pe_int (pa_cons (pe_un un_neg pe_int) (pa_cons pe_bl (pa_cons pe_non (pa_cons pe_str (pa_cons (pe_lst (pa_cons pe_int pa_nil)) (pa_cons (pe_op op_pow pe_int pe_int) pa_nil))))))))) (pe_callC (c_draw T) (hr.mono (by omega)) rfl (T.g "_law_draw") pass0 (pa_cons (pv 1) (pa_cons pe_int pa_nil))) (fun _ _ => rfl))))
    pss_nil)
  (pss_cons (ps_set (i := 10) nod rfl (Or.inl rfl) (pe_lst (pa_cons (pe_callC (ok__law_bad T) (hr.mono (by omega)) rfl (T.g "_law_bad") pass0 (pa_cons (pv 1) pa_nil)) (pa_cons (pe_makeC (T.ins "Call" (by decide +kernel)).mkr (ok_Call___init__ T) (hr.mono (by omega)) rfl (T.g "Call") pass0 (pa_cons (pe_ix ix_list (pv 5) pe_int (fun _ _ => rfl)) (pa_cons (pe_lst (pa_cons (pv 8) pa_nil)) pa_nil))) (pa_cons (pe_op (op_ownC (ok_Formula___add__ T) (hr.mono (by omega)) pass0 rfl) (pv 8) (pe_makeC (T.ins "Call" (by decide +kernel)).mkr (callT T) (hr.mono (by omega)) rfl (T.g "Call") pass0 (pa_cons (pe_ix ix_list (pv 5) pe_int (fun _ _ => rfl)) (pa_cons (pe_tup (pa_cons (pv 8) (pa_cons (pe_makeC (T.ins "Name" (by decide +kernel)).mkr (ok_Name___init__ T) (hr.mono (by omega)) rfl (T.g "Name") pass0 (pa_cons (pe_ix ix_list (pv 5) pe_int (fun _ _ => rfl)) pa_nil)) pa_nil))) pa_nil)))) pa_nil)))))
  (pss_cons (ps_expr (pe_bm PySem.F.plainAttrs_list PySem.F.slot_list_append PySem.F.type_list_append mt_append (pv 10) (pa_cons (pe_makeC (T.ins "Sum" (by decide +kernel)).mkr (ok_Sum___init__ T) (hr.mono (by omega)) rfl (T.g "Sum") pass0 (pa_cons (pe_ix ix_list (pv 5) pe_int (fun _ _ => rfl)) (pa_cons (pe_makeC (T.ins "Number" (by decide +kernel)).mkr (ok_Number___init__ T) (hr.mono (by omega)) rfl (T.g "Number") pass0 (pa_cons pe_int pa_nil)) (pa_cons (pe_un (un_ownC (ok_Formula___neg__ T) (hr.mono (by omega)) pass0) (pe_makeC (T.ins "Call" (by decide +kernel)).mkr (ok_Call___init__ T) (hr.mono (by omega)) rfl (T.g "Call") pass0 (pa_cons (pe_ix ix_list (pv 5) pe_int (fun _ _ => rfl)) (pa_cons (pe_lst (pa_cons (pe_makeC (T.ins "Number" (by decide +kernel)).mkr (ok_Number___init__ T) (hr.mono (by omega)) rfl (T.g "Number") pass0 (pa_cons pe_int pa_nil)) pa_nil)) pa_nil)))) pa_nil)))) pa_nil)))
  (pss_cons (ps_for PassesOwn.never rfl (pi_list (pv 10)) (pg_name (i := 11) nod rfl (Or.inl rfl))
    (pss_one (ps_if (pt_not (pt_val (pe_callC (ok__law_holds T) (hr.mono (by omega)) rfl (T.g "_law_holds") pass0 (pa_cons (pv 11) (pa_cons (pv 9) (pa_cons (pv 7) (pa_cons (pe_tup (pa_cons pe_str (pa_cons (pv 11) pa_nil))) pa_nil)))))))
      (pss_one (ps_ret pe_bl))
      pss_nil)))
  (pss_cons (ps_if (pt_not (pt_val (pe_callC (ok__law_holds T) (hr.mono (by omega)) rfl (T.g "_law_holds") pass0 (pa_cons (pv 8) (pa_cons (pv 9) (pa_cons (pv 7) (pa_cons (pe_callC (ok__law_due T) (hr.mono (by omega)) rfl (T.g "_law_due") pass0 (pa_cons (pe_ix ix_tup (pv 6) pe_int (fun _ _ => rfl)) (pa_cons (pv 9) (pa_cons (pv 7) pa_nil)))) pa_nil)))))))
    (pss_one (ps_ret pe_bl))
    pss_nil)
  (pss_one (ps_ret (pe_callC (ok__law_holds T) (hr.mono (by omega)) rfl (T.g "_law_holds") pass0 (pa_cons (pv 8) (pa_cons (pv 4) (pa_cons (pe_ix ix_tup (pv 6) pe_int (fun _ _ => rfl)) (pa_cons (pe_callC (ok__law_due T) (hr.mono (by omega)) rfl (T.g "_law_due") pass0 (pa_cons (pe_ix ix_tup (pv 6) pe_int (fun _ _ => rfl)) (pa_cons (pv 4) (pa_cons (pe_ix ix_tup (pv 6) pe_int (fun _ _ => rfl)) pa_nil)))) pa_nil))))))))))))))))))))))), ?_⟩
  obtain ⟨a, ns, rfl, hS, k⟩ := h
  refine ⟨_, rfl, a, _, rfl, .inl hS, fun l hl => ⟨tsz (by show 4 ≤ 1000000; decide), fun st hst => ?_⟩⟩
  have nls : l ≠ st := fun e => by
    rw [← e, upd_same] at hst
    cases hst
  generalize hX : upd (upd H l _) st _ = H1
  have S1 : StAt H1 st (l, ns) := ⟨0, 0, 0, by rw [← hX, upd_same], by rw [← hX, upd_ne nls, upd_same], by decide, by decide, by decide, by decide⟩
  clear hX hst
  row_room_at rd
  refine draw_do S1 (by decide) (by decide) fun ai H2 ai0 ai1 S2 B2 => ?_
  row_room_at rd
  refine draw_do S2 (by decide) (by decide) fun c H3 c0 c1 S3 B3 => ?_
  row_room_at rd
  refine draw_do S3 (by decide) (by decide) fun r4 H4 r0 r1 S4 B4 => ?_
  row_room_at rd
  obtain ⟨bw, hw, w0, w1⟩ : ∃ w : Nat, (1 : Int) + r4 = (w : Nat) ∧ 1 ≤ w ∧ w ≤ 64 := ⟨(1 + r4).toNat, by omega, by omega, by omega⟩
  rw [hw]
  row_room_at rd
  refine ⟨st, (l, ns), rfl, S4, fun NL H5 zs lz gz S5 B5 hNL eNL => ?_⟩
  obtain ⟨gz, ndz⟩ := gz
  have nNL := S4.ne_new hNL
  clear B2 B3 B4 B5 S1 S2 S3 S4 hNL
  obtain ⟨n0, n1, n2, n3, n4, n5, n6, n7, n8, rfl⟩ := list9 lz
  have eNs : H5 NL = some (.lst [.str n0, .str n1, .str n2, .str n3, .str n4, .str n5, .str n6, .str n7, .str n8]) := eNL
  have g0 := gz n0 (by simp)
  have g1 := gz n1 (by simp)
  have g2 := gz n2 (by simp)
  have g3 := gz n3 (by simp)
  row_room_at rd
  refine ite2 (fun _ => ?_) (fun _ => ?_)
  · -- the long ones
    have nd3 := ndz
    simp only [List.nodup_cons, List.mem_cons, List.not_mem_nil, or_false, not_or] at nd3
    row_room_at rd
    refine ⟨st, NL, (l, ns), n0, n1, n2, [n3, n4, n5, n6, n7, n8], rfl, S5, eNL, g0, g1, g2, nd3.1.1, nd3.1.2.1, nd3.2.1.1, fun H6 p f t vd m w' e6 TO ev => ?_⟩
    row_room_at rd
    refine ⟨f, t, rfl, TO.fit.2, TO.ok, TO.few.1, TO.fit, TO.tr, fun H7 b s7 hb => ?_⟩
    have e7 := s7 _ _ e6
    have ev7 := s7 _ _ ev
    have va : ValsAt H7 (.ref vd) _ := .dict (kvs := dk [n0] fun _ => m) ev7 pl_dk
    row_room_at rd
    refine ⟨f, t, .int w', .ref vd, _, _, rfl, TO.ok, TO.few, TO.fit, TO.tr.same s7, .int w', va, fun vd' kvs' e1 e2 => ?_, fun H8 dl r s8 d du => ?_⟩
    · injection e1 with e1
      rw [← e1, ev7] at e2
      injection e2 with e2
      injection e2 with e2
      rw [← e2]
      show 1 ≤ 100
      decide
    row_room_at rd
    exact ⟨.ref b, .int w', .ref vd, dl, r, rfl, d.tout ⟨TO.ok, TO.fit, TO.few, hb.same s8⟩ (.int w') (va.same s8), du, d.eqOk (.int w') TO.ok, fun H9 _ => k H9⟩
  -- the short ones
  row_room_at rd
  refine ⟨st, NL, (l, ns), _, bw, rfl, S5, eNL, rfl, ndz, gz, w1, fun H6 p f t vd ks e S6 B6 ep TO p76 d13 evd hvd ndk lk gk => ?_⟩
  have eN6 := B6 _ _ nNL eNs
  have nvd : vd ≠ st := fun z => by obtain ⟨_, _, _, h, _⟩ := S6; rw [z, h] at evd; cases evd
  row_room_at rd
  rw [size_eq w1]
  refine ⟨st, vd, (l, ns), ks, e, 2 ^ bw, rfl, S6, evd, ndk, by omega, fun H7 gd kvs S7 B7 egd pl lk7 => ?_⟩
  have eN7 := B7 _ _ nNL eN6
  have ep7 := B7 _ _ (S6.ne_tup ep) ep
  have TO7 := TO.sameT (S6.go B7)
  have ev7 := B7 _ _ nvd evd
  clear B6 B7 eN6 ep TO evd S6
  row_room_at rd
  refine rd_cut (fun σ' H' => ∃ vv g, σ' = [some (.ref a), some (.ref st), some (.int ai), some (.int c), some (.int (bw : Nat)), some (.ref NL), some (.ref p), some vv, none, none, none, none] ∧ StAt H' st (l, ns) ∧ SameBut st H7 H' ∧ ValsAt H' vv g ∧ VL H' vv ∧ vv ≠ .ref st) ?_ ?_
  · row_room_at rd
    refine ite2 (fun _ => ?_) (fun _ => ?_)
    · row_room_at rd
      refine rd_new fun a1 H8 ha1 s8 e8 => ?_
      row_room_at rd
      refine rd_new fun a2 H9 ha2 s9 e9 => ?_
      row_room_at rd
      refine rd_new fun a3 HA ha3 sA eA => ?_
      have sAll := (s8.trans s9).trans sA
      have SA := S7.same sAll
      have e8A := sA _ _ (s9 _ _ e8)
      have e9A := sA _ _ e9
      have n3 : a3 ≠ st := fun z => by obtain ⟨_, _, _, h, _⟩ := (S7.same s8).same s9; rw [z, h] at ha3; cases ha3
      have n1 : a1 ≠ st := fun z => by obtain ⟨_, _, _, h, _⟩ := S7; rw [z, h] at ha1; cases ha1
      row_room_at rd
      refine draw_do SA (by decide) (by decide) fun x HB x0 x1 SB BB => ?_
      have e8B := BB _ _ n1 e8A
      have e9B := BB _ _ (SA.ne_tup e9A) e9A
      have eAB := BB _ _ n3 eA
      obtain ⟨v, hat, nd⟩ : ∃ v, atI [V.non, .int 5, .ref a1, .str "abc", .ref a2] x = some v ∧ ND HB v ∧ VL HB v ∧ v ≠ .ref st := by
        have : x = 0 ∨ x = 1 ∨ x = 2 ∨ x = 3 ∨ x = 4 := by omega
        rcases this with rfl | rfl | rfl | rfl | rfl
        · exact ⟨_, rfl, .non, (fun _ _ h => by cases h), fun h => by cases h⟩
        · exact ⟨_, rfl, .int _, (fun _ _ h => by cases h), fun h => by cases h⟩
        · exact ⟨_, rfl, .lst e8B, (fun _ _ h h2 => by injection h with h; rw [← h, e8B] at h2; cases h2), fun h => n1 (V.ref.inj h)⟩
        · exact ⟨_, rfl, .str _, (fun _ _ h => by cases h), fun h => by cases h⟩
        · exact ⟨_, rfl, .tup e9B, (fun _ _ h h2 => by injection h with h; rw [← h, e9B] at h2; cases h2), fun h => SA.ne_tup e9A (V.ref.inj h)⟩
      row_room_at rd
      exact ⟨v, _, rfl, SB, (SameBut.of sAll).trans BB, .no nd.1, nd.2.1, nd.2.2⟩
    · exact ⟨_, _, rfl, S7, SameBut.refl, .dict egd pl, (fun vd' kvs' e1 e2 => by
        injection e1 with e1
        rw [← e1, egd] at e2
        injection e2 with e2
        injection e2 with e2
        rw [← e2]; exact lk7), fun h => by
        injection h with h
        obtain ⟨_, _, _, h2, _⟩ := S7
        rw [h, h2] at egd; cases egd⟩
  rintro σ' H8 ⟨vv, g, rfl, S8, B8, va, vl, nvv⟩
  have eN8 := B8 _ _ nNL eN7
  have ep8 := B8 _ _ (S7.ne_tup ep7) ep7
  have TO8 := TO7.sameT (S7.go B8)
  have ev8 := B8 _ _ nvd ev7
  clear B8 eN7 ep7 TO7 egd pl lk7 S7 ev7
  row_room_at rd
  refine ⟨f, t, rfl, TO8.fit.2, TO8.ok, TO8.few.1, TO8.fit, TO8.tr, fun H9 b s9 hb => ?_⟩
  have S9 := S8.same s9
  have eN9 := s9 _ _ eN8
  have ep9 := s9 _ _ ep8
  have TO9 := TO8.sameT (SameT.of s9)
  have ev9 := s9 _ _ ev8
  have va9 := va.same s9
  have vl9 : VL H9 vv := vl.same va s9
  clear s9 S8 eN8 ep8 TO8 va vl ev8
  row_room_at rd
  -- the width that is given
  refine rd_cut (fun σ' H' => ∃ wv n, σ' = [some (.ref a), some (.ref st), some (.int ai), some (.int c), some (.int (bw : Nat)), some (.ref NL), some (.ref p), some vv, some (.ref b), some wv, none, none] ∧ StAt H' st (l, ns) ∧ SameBut st H9 H' ∧ Th H' wv n ∧ wv ≠ .ref st) ?_ ?_
  · row_room_at rd
    refine ite2 (fun _ => ?_) (fun _ => ?_)
    · row_room_at rd
      refine rd_new fun a1 HA ha1 sA eA => ?_
      row_room_at rd
      refine rd_new fun a3 HB ha3 sB eB => ?_
      have sAll := sA.trans sB
      have SB := S9.same sAll
      have eAB := sB _ _ eA
      have n3 : a3 ≠ st := fun z => by obtain ⟨_, _, _, h, _⟩ := S9.same sA; rw [z, h] at ha3; cases ha3
      have n1 : a1 ≠ st := fun z => by obtain ⟨_, _, _, h, _⟩ := S9; rw [z, h] at ha1; cases ha1
      row_room_at rd
      refine draw_do SB (by decide) (by decide) fun x HC x0 x1 SC BC => ?_
      have eAC := BC _ _ n1 eAB
      have eBC := BC _ _ n3 eB
      obtain ⟨v, n, hat, th⟩ : ∃ v n, atI [V.int 0, .int 65, .int (-3), .bl true, .non, .str "8", .ref a1, .int (10 ^ (30 : Int).toNat)] x = some v ∧ Th HC v n ∧ v ≠ .ref st := by
        have : x = 0 ∨ x = 1 ∨ x = 2 ∨ x = 3 ∨ x = 4 ∨ x = 5 ∨ x = 6 ∨ x = 7 := by omega
        rcases this with rfl | rfl | rfl | rfl | rfl | rfl | rfl | rfl
        · exact ⟨_, _, rfl, .int _, fun h => by cases h⟩
        · exact ⟨_, _, rfl, .int _, fun h => by cases h⟩
        · exact ⟨_, _, rfl, .int _, fun h => by cases h⟩
        · exact ⟨_, _, rfl, .bl _, fun h => by cases h⟩
        · exact ⟨_, _, rfl, .non, fun h => by cases h⟩
        · exact ⟨_, _, rfl, .str _ (by decide +kernel), fun h => by cases h⟩
        · exact ⟨_, _, rfl, .ls8 _ eAC, fun h => n1 (V.ref.inj h)⟩
        · exact ⟨_, _, rfl, .int _, fun h => by cases h⟩
      row_room_at rd
      exact ⟨v, n, rfl, SC, (SameBut.of sAll).trans BC, th⟩
    · exact ⟨_, _, rfl, S9, SameBut.refl, .int _, fun h => by cases h⟩
  rintro σ' HA ⟨wv, n, rfl, SA, BA, tw, nw⟩
  have eNA := BA _ _ nNL eN9
  have epA := BA _ _ (S9.ne_tup ep9) ep9
  have TOA := TO9.sameT (S9.go BA)
  have evA := BA _ _ nvd ev9
  have hbA := hb.sameT (S9.go BA)
  have vaA : ValsAt HA vv g := va9.go nvv BA
  have vlA : VL HA vv := vl9.go va9 nvv BA
  clear BA eN9 ep9 TO9 hb va9 vl9 S9 ev9
  -- what is no formula that may be told
  row_room_at rd
  refine ⟨st, (l, ns), rfl, SA, fun v nv HB tb SB BB => ?_⟩
  have eNB := BB _ _ nNL eNA
  have epB := BB _ _ (SA.ne_tup epA) epA
  have TOB := TOA.sameT (SA.go BB)
  have evB := BB _ _ nvd evA
  have hbB := hbA.sameT (SA.go BB)
  have vaB := vaA.go nvv BB
  have vlB := vlA.go vaA nvv BB
  have twB := tw.go nw BB
  clear BB eNA epA TOA evA hbA vaA vlA tw SA
  row_room_at rd
  refine rd_new fun lp HC hlp sC eC => ?_
  have eC : HC lp = some (.lst (([b] : List Addr).map V.ref)) := eC
  row_room_at rd
  have fitc : (Fo.call n0 [f]).Fits := ⟨by simp only [Fo.parts, Fo.partsL]; omega, by simp only [Fo.depth, Fo.depthL]; omega⟩
  refine call_do T g0 eC (by simp) (by simp) (by simp only [FoAts]; exact ⟨b, [], rfl, hbB.same sC, rfl⟩) fitc fun HD X1 sD hX1 => ?_
  have sBD := sC.trans sD
  have eND := sBD _ _ eNB
  row_room_at rd
  refine name_do T g2 fun HE Y1 sE hY1 => ?_
  row_room_at rd
  refine rd_new fun tp HF htp sF eF => ?_
  have eF : HF tp = some (.tup (([b, Y1] : List Addr).map V.ref)) := eF
  have sBF := (sBD.trans sE).trans sF
  row_room_at rd
  have fit2 : (Fo.call n1 [f, .nam n2]).Fits := ⟨by simp only [Fo.parts, Fo.partsL]; omega, by simp only [Fo.depth, Fo.depthL]; omega⟩
  refine callT_do T g1 eF (by simp) (by simp) (by simp only [FoAts]; exact ⟨b, [Y1], rfl, hbB.same sBF, Y1, [], rfl, hY1.same sF, rfl⟩) fit2 fun HG Y2 sG hY2 => ?_
  have sBG := sBF.trans sG
  have fit3 : (Fo.bin .plus f (.call n1 [f, .nam n2])).Fits := ⟨by simp only [Fo.parts, Fo.partsL]; omega, by simp only [Fo.depth, Fo.depthL]; omega⟩
  refine bin_do T .plus (hbB.same sBG) hY2 fit3 fun HI X2 sI hX2 => ?_
  row_room_at rd
  refine rd_new fun sl HJ hsl sJ eJ => ?_
  have sBJ := (sBG.trans sI).trans sJ
  have sDJ := (((sE.trans sF).trans sG).trans sI).trans sJ
  have hX1J := hX1.same sDJ
  have hX2J := hX2.same sJ
  have eNJ := sBJ _ _ eNB
  have epJ := sBJ _ _ epB
  have TOJ := TOB.sameT (SameT.of sBJ)
  have evJ := sBJ _ _ evB
  have hbJ := hbB.same sBJ
  have vaJ := vaB.same sBJ
  have vlJ := vlB.same vaB sBJ
  have twJ := twB.same sBJ
  have tbJ := tb.same sBJ
  have SJ := SB.same sBJ
  have nsl : sl ≠ st := fun z => by obtain ⟨_, _, _, h, _⟩ := SB.same ((sBG.trans sI)); rw [z, h] at hsl; cases hsl
  have hsl0 : HB sl = none := none_back (sBG.trans sI) hsl
  have nvs : vv ≠ .ref sl := fun z => by subst z; exact vaB.ex hsl0
  have nws : wv ≠ .ref sl := fun z => by subst z; exact twB.ex hsl0
  have nbs : v ≠ .ref sl := fun z => by subst z; exact tb.ex hsl0
  clear hsl0 eNB epB TOB evB hbB vaB vlB twB tb SB sC eC sD hX1 sBD eND sE hY1 sF eF sBF sG hY2 sBG sI hX2 sJ sBJ sDJ hlp htp hsl
  row_room_at rd
  refine num_do T (by decide) (by decide) fun HK Z1 sK hZ1 => ?_
  row_room_at rd
  have eNK := sK _ _ eNJ
  row_room_at rd
  refine num_do T (by decide) (by decide) fun HL Z2 sL hZ2 => ?_
  row_room_at rd
  refine rd_new fun lq HM hlq sM eM => ?_
  have eM : HM lq = some (.lst (([Z2] : List Addr).map V.ref)) := eM
  row_room_at rd
  have fit4 : (Fo.call n1 [.num 1]).Fits := ⟨by simp [Fo.parts, Fo.partsL], by simp [Fo.depth, Fo.depthL]⟩
  refine call_do T g1 eM (by simp) (by simp) (by simp only [FoAts]; exact ⟨Z2, [], rfl, hZ2.same sM, rfl⟩) fit4 fun HN W1 sN hW1 => ?_
  obtain ⟨x0, hx0, dx0, fs0, ea0⟩ := hW1.cls
  row_room_at rd
  have fit5 : (Fo.neg (.call n1 [.num 1])).Fits := ⟨by simp [Fo.parts, Fo.partsL], by simp [Fo.depth, Fo.depthL]⟩
  refine ⟨W1, _, dx0, fs0, rfl, ea0, T.neg x0 hx0, _, W1, rfl, hW1, fit5, fun HO_ W2 sO hW2 => ?_⟩
  have sKO := ((sL.trans sM).trans sN).trans sO
  row_room_at rd
  have fit6 : (Fo.sum n3 (.num 2) (.neg (.call n1 [.num 1]))).Fits := ⟨by simp [Fo.parts, Fo.partsL], by simp [Fo.depth, Fo.depthL]⟩
  refine sum_do T (b := .num 2) (f := .neg (.call n1 [.num 1])) g3 trivial (fun z => nomatch z) (hZ1.same sKO) hW2 (by simp [Fo.ixs, Fo.ixsL]) fit5 fit6 fun HP X3 sP hX3 => ?_
  have sJP := (sK.trans sKO).trans sP
  have ePs := sJP _ _ eJ
  row_room_at rd
  generalize hX : upd HP sl _ = HQ
  have eQ : HQ sl = some (.lst [v, .ref X1, .ref X2, .ref X3]) := by rw [← hX, upd_same]; rfl
  have BQ : SameBut sl HP HQ := by rw [← hX]; exact sameBut_upd
  clear hX
  have goQ : SameT HP HQ := SameT.but BQ ePs
  have goJQ : SameT HJ HQ := (SameT.of sJP).trans goQ
  have nslN : NL ≠ sl := fun z => by rw [z, eJ] at eNJ; injection eNJ with h; injection h with h; injection h with _ h; injection h with h; cases h
  have hX1Q := hX1J.sameT goJQ
  have hX2Q := hX2J.sameT goJQ
  have hX3Q := hX3.sameT goQ
  have epQ := goJQ _ _ epJ notL
  have TOQ := TOJ.sameT goJQ
  have evQ := goJQ _ _ evJ (fun xs h => by cases h)
  have hbQ := hbJ.sameT goJQ
  have vaP := vaJ.same sJP
  have vaQ := vaP.go nvs BQ
  have vlQ := (vlJ.same vaJ sJP).go vaP nvs BQ
  have twQ := (twJ.same sJP).go nws BQ
  have tbQ := (tbJ.same sJP).go nbs BQ
  have evP : HP vd = _ := sJP _ _ evJ
  have nvdsl : vd ≠ sl := fun z => by rw [z, ePs] at evP; cases evP
  clear goQ goJQ BQ ePs vaP evP sJP sP sKO sK eNK hZ1 hZ2 hW1 hW2 hX1J hX2J hX3 epJ TOJ evJ hbJ vaJ vlJ twJ tbJ eNJ eJ sL sM sN sO eM ea0 SJ
  have badx : ∀ x ∈ [v, .ref X1, .ref X2, .ref X3], ∀ H', Same HQ H' → BadT K H' x ∧ EqOk K H' x := by
    intro x hx H' s'
    simp only [List.mem_cons, List.not_mem_nil, or_false] at hx
    rcases hx with rfl | rfl | rfl | rfl
    · exact ⟨.inl ⟨_, tbQ.same s'⟩, .inl ⟨_, tbQ.same s'⟩⟩
    · exact ⟨.inr ⟨_, _, rfl, hX1Q.same s', fitc.2, rfl⟩, .inr ⟨_, _, rfl, hX1Q.same s', .inl rfl⟩⟩
    · exact ⟨.inr ⟨_, _, rfl, hX2Q.same s', fit3.2, by simp [Fo.hc]⟩, .inr ⟨_, _, rfl, hX2Q.same s', .inr (.inl rfl)⟩⟩
    · exact ⟨.inr ⟨_, _, rfl, hX3Q.same s', fit6.2, by simp [Fo.hc]⟩, .inr ⟨_, _, rfl, hX3Q.same s', .inr (.inr rfl)⟩⟩
  row_room_at rd
  refine for_list (xs := [v, .ref X1, .ref X2, .ref X3]) (fun j σ H' => ∃ v11, σ = [some (.ref a), some (.ref st), some (.int ai), some (.int c), some (.int (bw : Nat)), some (.ref NL), some (.ref p), some vv, some (.ref b), some wv, some (.ref sl), v11] ∧ Same HQ H') ⟨_, rfl, Same.refl _⟩ (fun j σ H' _ ⟨_, _, h⟩ => SqL.of (h _ _ eQ)) ?_ ?_
  · rintro j x σ HR hx ⟨v11, rfl, sR⟩
    row_room_at rd
    refine rd_new fun dl HS hdl sS eS => ?_
    have sQS := sR.trans sS
    obtain ⟨b1, b2⟩ := badx x (List.mem_of_getElem? hx) HS sQS
    row_room_at rd
    refine ⟨x, wv, vv, dl, .inr ("BadFormula", x), rfl, .badF b1, ⟨4, "formula", kat_kf, eS⟩, fun C u e => by cases e; exact b2, fun HT sT => ?_⟩
    row_room_at rd
    exact ⟨_, rfl, sQS.trans sT⟩
  rintro σ HR ⟨v11, rfl, sR⟩
  have epR := sR _ _ epQ
  have TOR := TOQ.sameT (SameT.of sR)
  have evR := sR _ _ evQ
  have hbR := hbQ.same sR
  have vaR := vaQ.same sR
  have vlR := vlQ.same vaQ sR
  have twR := twQ.same sR
  clear badx sR epQ TOQ evQ hbQ vaQ vlQ twQ tbQ hX1Q hX2Q hX3Q eQ
  row_room_at rd
  refine ⟨f, t, wv, vv, n, g, rfl, TOR.ok, TOR.few, TOR.fit, TOR.tr, twR, vaR, vlR, fun HS dl r sS d du => ?_⟩
  row_room_at rd
  refine ⟨.ref b, wv, vv, dl, r, rfl, d.tout ⟨TOR.ok, TOR.fit, TOR.few, hbR.same sS⟩ (twR.same sS) (vaR.same sS), du, d.eqOk (twR.same sS) TOR.ok, fun HT sT => ?_⟩
  have sRT := sS.trans sT
  have epT := sRT _ _ epR
  have TOT := TOR.sameT (SameT.of sRT)
  have evT := sRT _ _ evR
  have hbT := hbR.same sRT
  have vaT : ValsAt HT (.ref vd) _ := .dict evT pl_dk
  have vlT : VL HT (.ref vd) := fun vd' kvs' e1 e2 => by
    injection e1 with e1
    rw [← e1, evT] at e2
    injection e2 with e2
    injection e2 with e2
    rw [← e2, dk_len]; omega
  row_room_at rd
  refine ⟨f, t, .int bw, .ref vd, _, _, rfl, TOT.ok, TOT.few, TOT.fit, TOT.tr, .int _, vaT, vlT, fun HU dl2 r2 sU d2 du2 => ?_⟩
  row_room_at rd
  exact ⟨.ref b, .int bw, .ref vd, dl2, r2, rfl, d2.tout ⟨TOT.ok, TOT.fit, TOT.few, hbT.same sU⟩ (.int _) (vaT.same sU), du2, d2.eqOk (.int _) (H := HU) TOT.ok, fun HV _ => k HV⟩

end
end KW
set_option Elab.async false
set_option linter.all false
set_option maxRecDepth 100000
set_option maxHeartbeats 4000000
namespace KW
open PySem PySem.Spec PyProof.Rows L2 He Sw L2H
theorem allOf {α : Type} {l : List α} {p : α → Bool} (h : l.all p = true) : ∀ x ∈ l, p x = true := List.all_eq_true.mp h
theorem short_cls : ∀ z ∈ clsS, ShortOk z := by
  intro z hz
  simp only [clsS, List.mem_cons, List.not_mem_nil, or_false] at hz
  rcases hz with rfl | rfl | rfl | rfl | rfl <;> constructor <;> decide +kernel
theorem cls_str {x : Str} (hx : x ∈ clsL) : ∃ z ∈ clsS, x = Str.ofString z := by
  have e : clsL = clsS.map Str.ofString := rfl
  rw [e] at hx
  obtain ⟨z, hz, rfl⟩ := List.mem_map.mp hx
  exact ⟨z, hz, rfl⟩
theorem noCls_ok {K : PySem.W.Frag} {C : Addr} {name : Str} {z : String} (h : noClsB K C name z = true) (k : ShortOk z) : NoCls K C name := by
  obtain ⟨h1, h⟩ := ba h
  obtain ⟨h2, h⟩ := ba h
  obtain ⟨h3, h4⟩ := ba h
  exact ⟨h1, eqO_ok h2, eqO_ok h3, z, h4, k⟩
theorem op_ok {K : PySem.W.Frag} (c : SaysF fa fn K) {x : Str} (hx : x ∈ clsL) {nm : String} (hn : nm ∈ binL) :
    PySem.W.selfFirst K (ga K x) = true ∧ PySem.W.findIn K (.ref (ga K x)) (PySem.dunder nm) = some (some (.ref (mF K (PySem.dunder nm)))) ∧ PySem.W.isFn K (.ref (mF K (PySem.dunder nm))) = true ∧ NoCls K (ga K x) (dunderR nm) := by
  obtain ⟨z, hz, rfl⟩ := cls_str hx
  have h : opB K (ga K (Str.ofString z)) nm z = true := allOf (allOf (p := fun z => binL.all fun nm => opB K (ga K (Str.ofString z)) nm z) (c.fact 14) z hz) nm hn
  obtain ⟨h1, h⟩ := ba h
  obtain ⟨h2, h⟩ := ba h
  obtain ⟨h3, h4⟩ := ba h
  exact ⟨h1, eqO_ok h2, h3, noCls_ok h4 (short_cls z hz)⟩
theorem txt {K : PySem.W.Frag} {h : Heap} {mg : Str → Option Value} (X : K.In h) (G : h.Ns mainGlobals mg) (c : SaysF fa fn K) : Txt K mg where
  err := fun x hx => errB_ok (allOf (c.fact 18) x hx)
  kitE := fun x hx y hy => of_decide_eq_true (allOf (allOf (c.fact 19) x hx) y hy)
  exmE := fun x hx => exm_ok (allOf (c.fact 20) x hx)
  kveE := fun x hx => of_decide_eq_true (allOf (c.fact 21) x hx)
  seI := clfnB_ok (c.fact 22)
  veI := veinB_ok (c.fact 23)
  thF := fun n hn => of_decide_eq_true (allOf (c.fact 24) n hn)
  clB := fun x hx => of_decide_eq_true (allOf (c.fact 25) x hx)
  mth := fun x hx m hm => by
    have q := allOf (p := fun m => eqO (PySem.W.findIn K (.ref (ga K x)) m) (some (some (.ref (mF K m)))) && (PySem.W.isFn K (.ref (mF K m)) && PySem.W.keepIn K (.ref (mF K m)))) (allOf (p := fun x => (["__eq__", "input_names"] : List Str).all fun m => eqO (PySem.W.findIn K (.ref (ga K x)) m) (some (some (.ref (mF K m)))) && (PySem.W.isFn K (.ref (mF K m)) && PySem.W.keepIn K (.ref (mF K m)))) (c.fact 26) x hx) m hm
    obtain ⟨h1, h⟩ := ba q
    obtain ⟨h2, h3⟩ := ba h
    exact ⟨eqO_ok h1, h2, h3⟩
  mTurn := int_ok X G (c.fact 27)
  mWid := int_ok X G (c.fact 28)
  dd := fun i d h => c.def_ i h
  glo := fun x hx => glo_ok X G (allOf (c.fact 0) x hx)
  fre := fun x hx => free_ok X G (allOf (c.fact 1) x hx)
  foI := clfnB_ok (c.fact 2)
  let_ := str_ok X G (c.fact 3)
  mLet := int_ok X G (c.fact 4)
  mPar := int_ok X G (c.fact 5)
  mDep := int_ok X G (c.fact 6)
  nEnd := int_ok X G (c.fact 7)
  mShf := int_ok X G (c.fact 8)
  mThg := int_ok X G (c.fact 9)
  noN := fun H => tupB_ok (c.fact 10) H
  ins := fun x hx => by
    have q : ((Fa.cls x).ok K && ((Fa.mkr x).ok K && insB K (ga K x))) = true := allOf (p := fun x => (Fa.cls x).ok K && ((Fa.mkr x).ok K && insB K (ga K x))) (c.fact 11) x hx
    obtain ⟨h1, h⟩ := ba q
    obtain ⟨h2, h⟩ := ba h
    obtain ⟨h3, h⟩ := ba h
    obtain ⟨h4, h⟩ := ba h
    obtain ⟨h5, h6⟩ := ba h
    exact ⟨cls_ok h1, mkr_ok h2, eqO_ok h3, eqO_ok h4, of_decide_eq_true h5, of_decide_eq_true h6, fun f hf => noat_ok (allOf (p := fun f => (Fa.noat x f).ok K) (allOf (p := fun x => fldL.all fun f => (Fa.noat x f).ok K) (c.fact 12) x hx) f hf)⟩
  kit := fun x hx y hy => of_decide_eq_true (allOf (p := fun y => kitB2 K x y (decide (x = y) || decide (y = "Formula"))) (allOf (p := fun x => clsL.all fun y => kitB2 K x y (decide (x = y) || decide (y = "Formula"))) (c.fact 13) x hx) y hy)
  bin := fun x hx y hy nm hn => by
    obtain ⟨a1, a2, a3, a4⟩ := op_ok c hx hn
    obtain ⟨b1, b2, b3, b4⟩ := op_ok c hy hn
    exact ⟨a1, b1, a2, a3, ⟨_, b2⟩, a4.m2, b4, Option.isSome_iff_exists.mp (allOf (p := fun y => (PySem.W.subIn K (.ref (ga K y)) (.ref (ga K x))).isSome) (allOf (p := fun x => clsL.all fun y => (PySem.W.subIn K (.ref (ga K y)) (.ref (ga K x))).isSome) (c.fact 15) x hx) y hy)⟩
  shl := fun x hx => by
    have h : shlB K (ga K x) = true := allOf (p := fun x => shlB K (ga K x)) (c.fact 16) x hx
    obtain ⟨h1, h⟩ := ba h
    obtain ⟨h2, h⟩ := ba h
    obtain ⟨h3, h⟩ := ba h
    obtain ⟨h4, h⟩ := ba h
    obtain ⟨h5, h6⟩ := ba h
    obtain ⟨h7, h8⟩ := ba h5
    obtain ⟨r1, e1⟩ := Option.isSome_iff_exists.mp h7
    obtain ⟨r2, e2⟩ := Option.isSome_iff_exists.mp h8
    exact ⟨h1, eqO_ok h2, h3, eqO_ok h4, ⟨r1, r2, e1, e2⟩, of_decide_eq_true h6⟩
  neg := fun x hx => by
    have h : negB K (ga K x) = true := allOf (p := fun x => negB K (ga K x)) (c.fact 17) x hx
    obtain ⟨h1, h2⟩ := ba h
    exact ⟨eqO_ok h1, h2⟩
theorem facts {P : Program} {w : World} {K : PySem.W.Frag} {h : Heap} {mg : Str → Option Value} {f : Addr} (X : K.In h) (G : h.Ns mainGlobals mg) (hfa : mg ("law" : Str) = some (.ref f)) (c : SaysF fa fn K) :
    ∃ fd : FuncData, (∀ (s : Shared) (v : Value), BindsTo s fd ⟨[v], []⟩ [("_law_script", v)]) ∧ ∀ base : Heap, FnOk P w K mg base CX0 225 f fd ["_law_script"] (spLaw K) := by
  have T := txt X G c
  obtain ⟨fd, F⟩ := T.f_law
  have e := hfa.symm.trans (T.g "law")
  cases e
  have b := FunD.bindsA (ps := ["_law_script"]) F fun _ _ _ _ _ _ us hl => match us, hl with | [_], _ => rfl
  refine ⟨fd, fun s v => b s [v] rfl, fun base => ?_⟩
  exact ok_law T F
end KW
set_option Elab.async false
set_option linter.all false
set_option maxRecDepth 100000
set_option maxHeartbeats 0
open PySem PySem.W PySem.Calls PyProof.Rows
theorem PySem.Challenge.cw_samewords_k08_when_no_word_is_told_holds : PySem.Challenge.rw_samewords_k08_when_no_word_is_told.Holds := by
  w_on; o_law
  refine HandSHeadRun.head_any (r := OpenLaw.row PySem.Challenge.rw_samewords_k08_when_no_word_is_told) (q := view (OpenLaw.row PySem.Challenge.rw_samewords_k08_when_no_word_is_told).prog [73]) (H := KW.hk) (ob := KW.ob) (M := 8000) (loose := KW.looseL) (d := HandSHeadRun.topDef (OpenLaw.row PySem.Challenge.rw_samewords_k08_when_no_word_is_told).prog 73) (kwd := []) KW.ob_eq
    (by kernel_rfl) (fun s => by kernel_rfl) KW.run (by kernel_rfl) (by kernel_rfl) (by kernel_rfl) (by rfl) (by first | assumption | decide +kernel) (by decide +kernel) ⟨rfl, rfl, rfl, rfl, rfl, by decide +kernel⟩ ?hw ?hc
  case hw => w_witness2
  case hc =>
    refine L2.walk_ofE (l := PySem.Challenge.rw_samewords_k08_when_no_word_is_told) (n := 63) (k := 225) (x := "_law_script") (CX := L2.CX0) rfl (by decide) (by kernel_rfl) ⟨rfl, by decide, by decide⟩ ?F (fun _ _ _ _ z => z)
    intro w mg fa h Y G hmg0
    obtain ⟨K, KX, c⟩ := Y
    have hmg : mg ("law" : PySem.Str) = some (.ref fa) := by
      have e : (HandSHeadRun.topDef (OpenLaw.row PySem.Challenge.rw_samewords_k08_when_no_word_is_told).prog 73).name = ("law" : PySem.Str) := by kernel_rfl
      rw [← e]
      exact hmg0
    obtain ⟨fd, hb, hF⟩ := KW.facts (P := (PySem.Challenge.rw_samewords_k08_when_no_word_is_told).prog) (w := w) KX G hmg c
    exact ⟨K, fd, KW.spLaw K, KX, hb, fun H a ns hl _ hS => ⟨a, ns, rfl, hS, fun _ => rfl⟩, fun base _ _ => hF base⟩
