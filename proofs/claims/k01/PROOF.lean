import PyProof.Rows.All
import Wide.All
import OpenK.AllK
import Wide.FinOn
import KE.KTypeName
import HandS.Base
import HandS.Call
import HandS.List
import HandS.Ends
import HandS.Exc
import HandS.ExcOwn
import HandS.ExcCtx
import HandS.Hot
import HandS.HotCalls
import HandS.ExcInit
import HandS.ExcInitHot
import HandS.ExcIs
import HandS.ClsMeth
import HandS.Comp
import KE.KExcIs
import HandS.ExcField
import HandS.SortKw
import KE.KMinKey
import KE.KStateDown
import Lean
import HandS.More
import HandS.Words
import HandS.WordsExc
import HandS.Defaults
import HandS.Head0
import HandS.Head1
import HandS.Head2
import HandS.HeadEnd
import HandS.HeadHook1
import HandS.HeadHook2
import PyProof.AttrMiss
import OpenK.KCls
import KE.KOpsOwn
import PySem.Challenge.RW_samewords_k01_kinds_and_things
import HandS.WordsList
import HandS.IsInst
import HandS.Wide
import HandS.Iter
import HandS.Text
import HandS.StrMore
import HandS.Flow
import HandS.Walk
import HandS.Codes
set_option Elab.async false
set_option linter.all false
set_option maxRecDepth 100000
set_option maxHeartbeats 2000000
/-! Rules of my own: functions read off an own class, the class's name, classes made in a try. -/
namespace Sw
open PySem PySem.Spec PyProof.Rows L2

/-! ### C.m(e, ..), m a plain def of the class at C -/
structure ClFn (K : PySem.W.Frag) (C : Addr) (m : Str) (f : Addr) : Prop where
  rd : PySem.W.readsIn K C (.type "type") = true
  ga : PySem.W.specialIn K (.ref C) "__getattribute__" = some (some (.builtin "type.__getattribute__"))
  at_ : PySem.W.findCls K (.ref C) (.type "type") m = some (.val (.ref f))
section
variable {X : Cx} {CX : CXT} {k : Nat} {f C : Addr} {fd : FuncData} {ps : List Str} {sp : Sp} {dvs : List V} {ds : List Value} {E : XK} {x m : Str} {p pos apos : Pos} {e : Expr} {es : List Expr} {t : TA}
theorem getmeth_cls {pins : List (Addr × Obj)} {σ : L2.St} {H : Hp} {s : Shared} {A : Around} {E : Value → Shared → Prop} {pl : Sem Bool} {Q : Value × List Value → Shared → Prop} (I : Inv X pins σ H s) (c : ClFn X.K C m f)
    (h : ∀ s', Inv X pins σ H s' → Q (.ref f, []) s') : wpAny (model X.prog X.w) A (getMethod (.ref C) m pl) Q E s :=
  PySem.W.method_cls I.kIn c.ga (PySem.W.cls_value I.kIn c.rd c.at_ (handed_of (v := V.ref f) rfl) (h _ (I.tok _)))
theorem pe_clfn {pl : Sem Bool} (hg : Gl X x) (hm : X.mg x = some (.ref C)) (c : ClFn X.K C m f) (F : FnOk X.prog X.w X.K X.mg X.base CX k f fd ps sp) (hr : Room k X.A) (hk : PySem.W.keepIn X.K (.ref f) = true) (hb : Binds X.K fd ps ds) (hd : Vals dvs ds)
    (hx : Passes CX X E) (ha : PA X (e :: es) t)
    (hdb : (x == ("__debug__" : Str)) = false := by decide) (hst : starEach (e :: es) X.env = (false, eval e X.env) :: starEach es X.env := by rfl) (hpl : (backTo pos (starEach es X.env)).any (·.1) = false := by rfl)
    (ht : eval (.Call (.Attribute (.Name x p) m apos) (e :: es) [] pos) X.env = (do
      let ov ← eval (.Name x p) X.env
      standAt apos.atName
      let (f, first) ← holding [ov] (getMethod ov m pl)
      callWith pos f first (backTo pos (starEach (e :: es) X.env)) (backToKw pos (keywordEach [] X.env))) := by rfl) :
    PE X (.Call (.Attribute (.Name x p) m apos) (e :: es) [] pos) (tCall sp dvs E t) := by
  refine ⟨fun pins s σ H Q I h => ?_⟩
  refine PySem.W.methodCall_KW (pl := pl) (thn ((pe_glob (v := V.ref C) hg hm rfl hdb).run pins s σ H _ I (show (tC (V.ref C)) σ H (fun v H1 => v = .ref C ∧ H1 = H) from ⟨rfl, rfl⟩)) fun u s1 ⟨y, H1, I1, rx, ex, eh⟩ => ?_) ht
  subst ex eh
  obtain rfl : u = Value.ref C := rx
  refine getmeth_cls I1 c fun s2 I2 => ?_
  refine PySem.W.callWith_K (first := []) (h₀ := X.base) I2.ok.mod.kin hk (thn (ha.run pos pins s2 σ _ _ I2 h) fun us s3 ⟨vs, H3, I3, r, q3⟩ => ⟨I3.kIn, ?_⟩) hst hpl
  exact run_fn F hr hb hd hx I3 r q3
end

/-! ### C(e, ..) in a try: what follows a raise hangs on the slots -/
section
variable {X : Cx} {CX : CXT} {k : Nat} {f C : Addr} {fd : FuncData} {ps : List Str} {sp : Sp} {dvs : List V} {ds : List Value} {E : L2.St → XK} {x : Str} {p pos : Pos} {e : Expr} {es : List Expr} {t : TA}
def tMakeS (C : Addr) (sp : Sp) (dvs : List V) (E : L2.St → XK) (t : TA) : TE := fun σ H Q => t σ H fun vs H1 => ∀ x dx, H1 x = none → H1 dx = none → dx ≠ x →
  sp (.ref x :: (vs ++ dvs)) (upd (upd H1 dx (.own x)) x (.ins C dx [])) (fun v H2 => v = .non ∧ Q (.ref x) H2) (E σ)
theorem run_makeS {pins : List (Addr × Obj)} {σ : L2.St} {H : Hp} {s : Shared} {Q : VK} {us : List Value} {vs : List V} (M : Mk X.K C f) (F : FnOk X.prog X.w X.K X.mg X.base CX k f fd ps sp) (hr : Room (k + 1) X.A) (hb : Binds X.K fd ps ds) (hd : Vals dvs ds)
    (hx : PassesAt CX X σ (E σ)) (I : Inv X pins σ H s) (r : Vals vs us)
    (h : ∀ x dx, H x = none → H dx = none → dx ≠ x → sp (.ref x :: (vs ++ dvs)) (upd (upd H dx (.own x)) x (.ins C dx [])) (fun v H2 => v = .non ∧ Q (.ref x) H2) (E σ)) :
    wpAny (model X.prog X.w) X.A (call (.ref C) us) (EP X pins σ Q) X.xe s := by
  have hq := h (s.heap.objs.size + 1) s.heap.objs.size (I.hok.fresh (Nat.le_succ _)) (I.hok.fresh (Nat.le_refl _)) (Nat.ne_of_lt (Nat.lt_succ_self _))
  have I2 := Inv.made (C := C) I
  have r2 : Vals (V.ref (s.heap.objs.size + 1) :: (vs ++ dvs)) (Value.ref (s.heap.objs.size + 1) :: (us ++ ds)) := .cons rfl (r.append hd)
  have hl : (Value.ref (s.heap.objs.size + 1) :: us ++ ds).length = ps.length := by
    have e := r2.length
    rw [F.len _ _ _ _ hq] at e
    exact e.symm
  refine wpAny_call (make_map (f := f) I.kIn M.makes M.init (beq_iff_eq.mp M.fn) (codeAny_mono (F.run _ X.stack _ _ ⟨Value.ref (s.heap.objs.size + 1) :: us, []⟩ (Value.ref (s.heap.objs.size + 1) :: (us ++ ds)) _ _ (E σ) (hr.make C us [])
    (I2.env0.make C us []) (hb _ (Value.ref (s.heap.objs.size + 1) :: us) I2.kIn hl) r2 hq) fun r s' hq' => ?_))
  cases r with
  | error e => exact hx pins _ _ e s' I2 hq'
  | ok fl =>
    cases fl with
    | ret u =>
      obtain ⟨v, H', I3, rv, ev, q3⟩ := I2.after hq'
      subst ev
      exact ⟨rv, ⟨V.ref (s.heap.objs.size + 1), H', I3, rfl, q3⟩⟩
    | next => exact False.elim hq'
    | brk => exact False.elim hq'
    | cont => exact False.elim hq'
theorem pe_makeS (M : Mk X.K C f) (F : FnOk X.prog X.w X.K X.mg X.base CX k f fd ps sp) (hr : Room (k + 1) X.A) (hg : Gl X x) (hm : X.mg x = some (.ref C)) (hb : Binds X.K fd ps ds) (hd : Vals dvs ds) (hx : ∀ σ, PassesAt CX X σ (E σ))
    (ha : PA X (e :: es) t) (hdb : (x == ("__debug__" : Str)) = false := by decide) (he : starEach (e :: es) X.env = (false, eval e X.env) :: starEach es X.env := by rfl) (hpl : (backTo pos (starEach es X.env)).any (·.1) = false := by rfl) :
    PE X (.Call (.Name x p) (e :: es) [] pos) (tMakeS C sp dvs E t) := by
  refine ⟨fun pins s σ H Q I h => ?_⟩
  refine wpAny_Call_Name_kw (ld_glob I hg hm ?_ hdb)
  refine PySem.W.callWith_K (h₀ := X.base) I.ok.mod.kin M.kp (thn (ha.run pos pins s σ H _ I h) fun us s1 ⟨vs, H1, I1, r, q⟩ => ⟨I1.kIn, ?_⟩) he hpl
  exact run_makeS M F hr hb hd (hx σ) I1 r q
end
end Sw

/-! ### C.__name__, e.__class__ of an exception in the making -/
namespace Sw
open PySem PySem.W PySem.Calls PyProof.Rows Builtin Builtin.ObjectAttr Builtin.Getset_descriptor
section
variable {prog : Program} {w : World} {A : Around} {E : Value → Shared → Prop} {s : Shared} {K : Frag} {R : Result → Shared → Prop} {C : Addr} {o : Obj} {z : PySem.Str} {tk : Tok}
theorem cnm_dga (d tp : Value) (C : Addr) : descrGetArgs ⟨[d, .ref C, tp], []⟩ = pure (d, some (.ref C), given tp) := by kernel_rfl
theorem cnm_get {tp : Value} (hC : s.heap.get? C = some o) (hcls : o.cls = .type "type") (hsl : o.slots[2]? = some (some (.str z tk))) (h : R (.ok (.ret (.str z tk))) s) :
    codeAny (model prog w) A (.call (.builtin "getset_descriptor.__get__") ⟨[.builtin "type.__name__", .ref C, tp], []⟩) R s := by
  obtain ⟨hh, g, dr, t, os⟩ := s
  have L0 : Looks (model prog w) hh (typeOf (.ref C)) (.type "type") := by
    have q := (Looks.ld (M := model prog w) (part := some .none) hC).andThen (f := fun o => pure o.cls) .now
    rw [hcls] at q
    exact q
  have L1 : Looks (model prog w) hh (isSubtype (.type "type") (.type "type")) true := Looks.of_pure (by rw [isSubtype_type]; kernel_rfl)
  refine codeAny_call_builtin KF.slot_gs.plain KF.entry_gs (KF.slot_gs.check _ _ _ _ _ _ _ _ ktyn_type (KF.args_gs _ _ _) ?_)
  unfold Builtin.«getset_descriptor.__get__» descrGet
  rw [cnm_dga]
  refine wpAny_bind (wpAny_pure ?_)
  unfold descrGetter descrCheckInstance descrNameAndClass isInstance
  simp only [ktyn_owner]
  repeat lk
  refine ⟨Code.quiet_builtin _ (by decide +kernel), codeAny_builtin ktyn_entry ?_⟩
  unfold Builtin.«type.__name__» keptObject slotAt
  dsimp only
  refine wpAny_bind (wpAny_bind (wpAny_loadPart_at hC (wpAny_pure ?_)))
  rw [hsl]
  exact wpAny_pure h
/-- C.__name__ -/
theorem cnm_attr {expr : Bool} {Q : Value → Shared → Prop} (X : K.In s.heap) (rd : readsIn K C (.type "type") = true) (hf : findCls K (.ref C) (.type "type") "__name__" = some (.get (.builtin "getset_descriptor.__get__") (.builtin "type.__name__") (.ref C) (.type "type")))
    (hC : K.lookup C = some o) (hcls : o.cls = .type "type") (hsl : o.slots[2]? = some (some (.str z tk))) (h : Q (.str z tk) { s with toks := s.toks + 1 }) : wpAny (model prog w) A (getAttr (.ref C) "__name__" expr) Q E s := by
  refine cls_bind X rd hf (wpAny_call (cnm_get (s := { s with toks := s.toks + 1 }) (X _ _ hC) hcls hsl ?_))
  exact handed_on rfl h
/-- e.__class__, e an exception without a dict as yet -/
theorem exc_class {x : Addr} {ox : Obj} {expr : Bool} {Q : Value → Shared → Prop} {gt : Option Value}
    (X : K.In s.heap) (I : InstAt s.heap x ox C none) (hga : findIn K (.ref C) "__getattribute__" = some (some (.builtin "BaseException.__getattribute__"))) (hgt : findIn K (.ref C) "__getattr__" = some gt)
    (hsub : subIn K (.ref C) (.type "BaseException") = some true) (hdct : hasDictIn K C = true) (ha : findIn K (.ref C) "__class__" = some (some (.builtin "object.__class__")))
    (hn : specialIn K (.builtin "object.__class__") "__get__" = some (some (.builtin "getset_descriptor.__get__"))) (htk : takesIn K (.builtin "object.__class__") = some true) (hm : mroIn K C (.type "object") = some true)
    (h : Q (.ref C) { s with toks := s.toks + 1 }) : wpAny (model prog w) A (getAttr (.ref x) "__class__" expr) Q E s := by
  have hf : findObj K C none "__class__" = some (.bind (.builtin "getset_descriptor.__get__") (.builtin "object.__class__")) := findObj_dataN (by obtain ⟨cd, hc, _⟩ := any_some hdct; rw [hc]; rfl) ha hn htk
  obtain ⟨hp, g, d, t, os⟩ := s
  have L0 := I.type (M := model prog w)
  have L1 := looks_findIn (M := model prog w) X hga
  have L2 := looks_findIn (M := model prog w) X hgt
  have L3 := looks_find (M := model prog w) X I hf
  have sub : Looks (model prog w) hp (isInstance (.ref x) (.type "BaseException")) true := L0.andThen (looks_subIn X hsub)
  have hx0 : (expr && onTheHeap (Value.builtin "BaseException.__getattribute__")) = false := by cases expr <;> rfl
  have hx2 : (Value.builtin "BaseException.__getattribute__" == Value.builtin "object.__getattribute__") = false := by decide +kernel
  have hx1 : (onTheHeap (Value.ref C) && Value.builtin "BaseException.__getattribute__" == Value.builtin "object.__getattribute__") = false := by rw [hx2]; rfl
  unfold getAttr getAttrBy
  refine wpAny_bind (wpAny_mkText (wpAny_holding (wpAny_bind (L0.at (wpAny_bind (L1.at ?_))))))
  show wpAny _ _ (if (onTheHeap (Value.ref C) && Value.builtin "BaseException.__getattribute__" == Value.builtin "object.__getattribute__") = true then _ else _) _ _ _
  rw [hx1, if_neg Bool.false_ne_true]
  unfold getAttrByItsOwn hookBefore
  refine wpAny_bind ?_
  rw [if_pos (show onTheHeap (Value.ref C) = true from rfl)]
  refine L2.at ?_
  refine wpAny_bind (wpAny_attempt (wpAny_holding ?_))
  unfold callGetattribute
  rw [hx0, if_neg Bool.false_ne_true]
  unfold boundAndCalled
  rw [PySem.F.excAttr_ValueError.ga.bind (.ref x)]
  refine wpAny_bind (wpAny_pure ?_)
  show wpAny _ _ (call (.builtin "BaseException.__getattribute__") [.ref x, .str "__class__" t]) _ _ _
  refine wpAny_call (codeAny_call_builtin PySem.F.excAttr_ValueError.ga.plain PySem.F.entry_bexc_ga ?_)
  refine @check_slot (model prog w) _ _ ⟨hp, g, d, t + 1, os⟩ "BaseException.__getattribute__" "BaseException" "__getattribute__" (.ref x) [.str "__class__" t] [] _ (by decide +kernel) (by decide +kernel) sub (PySem.F.args_bexc_ga (.ref x) (.str "__class__" t)) ?_
  unfold Builtin.«object.__getattribute__»
  refine wpAny_bind (wpAny_of_eq (a := ((Value.ref x : Value), [Value.str "__class__" t])) (by first | rfl | (simp only [slotArgs]; rfl)) ?_)
  refine wpAny_bind (wpAny_pure (wpAny_bind (L0.at (wpAny_bind (L3.at ?_)))))
  show wpAny _ _ (holding [Value.builtin "object.__class__"] (call (.builtin "getset_descriptor.__get__") [.builtin "object.__class__", .ref x, .ref C]) >>= ret) _ _ _
  refine wpAny_bind (wpAny_holding (wpAny_call (class_get (s := ⟨hp, g, d, t + 1, os⟩) (ox := ox) (od := none) X I hm ?_)))
  refine wpAny_pure ?_
  show wpAny _ _ (handedOut (.ref C)) _ _ _
  rw [handedOut_of (v := .ref C) rfl]
  exact wpAny_pure h
end
end Sw
namespace Sw
open PySem PySem.Spec PyProof.Rows L2
/-- what a class must be for its name to be read -/
structure NamC (K : PySem.W.Frag) (C : Addr) (z : Str) : Prop where
  rd : PySem.W.readsIn K C (.type "type") = true
  fc : PySem.W.findCls K (.ref C) (.type "type") "__name__" = some (.get (.builtin "getset_descriptor.__get__") (.builtin "type.__name__") (.ref C) (.type "type"))
  lk : ∃ (o : Obj) (tk : Tok), K.lookup C = some o ∧ o.cls = .type "type" ∧ o.slots[2]? = some (some (.str z tk))
/-- e.__class__.__name__, e an exception in the making -/
def tExN (K : PySem.W.Frag) (te : TE) : TE := fun σ H Q => te σ H fun x H1 => ∃ (a C : Addr) (z : Str), x = .ref a ∧ H1 a = some (exo a C none) ∧ ExcC K C ∧ NamC K C z ∧ Q (.str z) H1
theorem pe_exn {X : Cx} {e : Expr} {p1 p2 : Pos} {te : TE} (he : PE X e te) (hb : attributeBase e "__class__" X.env (eval e X.env) = eval e X.env := by rfl)
    (hb2 : attributeBase (.Attribute e "__class__" p1) "__name__" X.env (eval (.Attribute e "__class__" p1) X.env) = eval (.Attribute e "__class__" p1) X.env := by rfl) :
    PE X (.Attribute (.Attribute e "__class__" p1) "__name__" p2) (tExN X.K te) := by
  refine ⟨fun pins s σ H Q I h => ?_⟩
  refine attr_of hb2 (attr_of hb (thn (he.run pins s σ H _ I h) fun u s1 ⟨x, H1, I1, rx, a, C, z, ex, ea, T, N, q⟩ => ?_))
  subst ex
  obtain rfl : u = Value.ref a := rx
  obtain ⟨t1, ho⟩ := exo_at I1.hok ea
  obtain ⟨o, tk, hC, hcls, hsl⟩ := N.lk
  refine exc_class I1.kIn (ox := _) ⟨ho, rfl, rfl, trivial⟩ T.hg T.hk T.hs T.hd T.ha T.hn T.ht T.hm ?_
  have I2 := I1.tok (s1.toks + 1)
  refine cnm_attr (s := { s1 with toks := s1.toks + 1 }) I2.kIn N.rd N.fc hC hcls hsl ?_
  exact ⟨.str z, H1, I2.tok _, ⟨tk, rfl⟩, q⟩
end Sw
set_option Elab.async false
set_option linter.all false
set_option maxRecDepth 100000
set_option maxHeartbeats 2000000
/-! Rules of my own: within an except suite: a def that is handed the caught exception, isinstance of it, a comprehension over a range. -/
namespace Sw
open PySem PySem.Spec PyProof.Rows L2 L2H HotX

/-! ### a def called while p's exception is handled, its promise speaks of p -/
structure FnE (P : Program) (w : World) (K : PySem.W.Frag) (mg : Str → Option Value) (base : Heap) (CX : CXT) (k : Nat) (f : Addr) (fd : FuncData) (ps : List Str) (sp : Addr × Obj → Sp) : Prop where
  len : ∀ p vs H Q E, sp p vs H Q E → vs.length = ps.length
  run : ∀ (p : Addr × Obj) (A : Around) (outer : List Env) (s : Shared) (H : Hp) (args : Args) (us : List Value) (vs : List V) (Q : VK) (E : XK), RoomH k A → Hot1 A p → PinOk outer H s p → Env0 P w K mg base A outer s H →
    BindsTo s fd args (ps.zip us) → Vals vs us → sp p vs H Q E → codeAny (model P w) A (.call (.ref f) args) (CR CX outer P w H s Q E) s
/-- for one exception it is a def of the hot kind; what a hot def's promise may lean on is put into it -/
def atP (p : Addr × Obj) (A : Around) (sp : Sp) : Sp := fun vs H Q E => Hot1 A p ∧ sp vs H Q E
theorem fn_ofE {CX : CXT} {P : Program} {w : World} {K : PySem.W.Frag} {mg : Str → Option Value} {base : Heap} {k : Nat} {f : Addr} {name qual : Str} {params : Arguments} {body : List Stmt} {scope : Scope} {dV kV doc pm cdv ct oc : Value} {an od : Option Addr}
    {osl : Array (Option Value)} {N ps : List Str} {sp : Addr × Obj → Sp} (lk : K.lookup f = some ⟨oc, od, .func (PySem.W.fnOf name qual params body scope dV kV doc pm an cdv ct), osl⟩) (hcd : PySem.W.codeIn K cdv qual = true) (S : FnScope N ps scope)
    (len : ∀ p vs H Q E, sp p vs H Q E → vs.length = ps.length)
    (hbody : ∀ (p : Addr × Obj) (A : Around) (outer : List Env) (s : Shared) (H : Hp) (vs : List V) (Q : VK) (E : XK), Hot1 A p → RoomH k (A.deeper (envOfC qual scope s.heap.objs.size f cdv)) → sp p vs H Q E →
      ∃ t, PSs (cxH CX P w K mg base N qual scope f cdv A outer s H E p) body t ∧ t { nx := fun _ H' => Q .non H', rt := Q } (L2.start N vs) H) :
    FnE P w K mg base CX (k + 1) f (PySem.W.fnOf name qual params body scope dV kV doc pm an cdv ct) ps sp := by
  refine ⟨len, fun p A outer s H args us vs Q E hr hot hpin e0 hb r hsp => ?_⟩
  have KX : K.In s.heap := e0.mod.kin.keeps fun b o e => (e0.bs b o e).1
  have lim := e0.mod.nolimit.keeps fun b o e => (e0.bs b o e).1
  have hl := len p _ _ _ _ hsp
  have names : ∀ y ∈ ps.zip us, scope.names.lookup y.1 = some .local ∨ (scope.names.lookup y.1 = some .cell ∧ ((cellsFrom (s.heap.objs.size + 1) scope.names []).lookup y.1).isSome = true) := by
    rintro ⟨n, v⟩ hy
    exact (S.par n (List.of_mem_zip hy).1).imp id fun q => ⟨q, PySem.W.cellsFrom_some _ _ _ (.inl q)⟩
  refine codeAny_call_function hr.depth (KX _ _ lk) rfl S.co S.gen rfl (PySem.W.codeRec_of KX hcd) (hb _ _ _ _ (wpAny_newFunctionEnv_cells S.kind names fun env he s1 x => ?_))
  subst he
  refine ⟨lim.keeps x.toInCall.keep, codeAny_func ?_⟩
  obtain ⟨t, ht, hq⟩ := hbody p A outer s H vs Q E hot (hr.deeper _) hsp
  refine wpAny_mono (ht.run [] s1 (L2.start N vs) H _ (inv_startH S hpin e0 hl r x) hq) (fun fl s' hs => ?_) fun _ _ z => z
  cases fl with
  | ret u =>
    obtain ⟨v, _, H', J, rv, q⟩ := hs
    exact ⟨v, H', J.os, J.bare, J.base, J.hok, rv, q⟩
  | next =>
    obtain ⟨_, H', J, q⟩ := hs
    exact ⟨V.non, H', J.os, J.bare, J.base, J.hok, rfl, q⟩
  | brk =>
    obtain ⟨_, _, _, q⟩ := hs
    exact False.elim q
  | cont =>
    obtain ⟨_, _, _, q⟩ := hs
    exact False.elim q
/-- f(e, ..), f being handed the exception: what its promise asks is shown of any object that Z holds of -/
def tCallX (Z : Addr × Obj → Prop) (sp : Addr × Obj → Sp) (E : L2.St → XK) (t : TA) : TE := fun σ H Q => t σ H fun vs H1 => ∀ p, Z p → sp p vs H1 Q (E σ)
section
variable {X : Cx} {CX : CXT} {k : Nat} {f : Addr} {fd : FuncData} {ps : List Str} {sp : Addr × Obj → Sp} {E : L2.St → XK} {x : Str} {q pos : Pos} {e : Expr} {es : List Expr} {t : TA} {p : Addr × Obj}
theorem pe_callE {Z : Addr × Obj → Prop} (hz : Z p) (F : FnE X.prog X.w X.K X.mg X.base CX k f fd ps sp) (hr : RoomH k X.A) (hot : Hot1 X.A p) (hp : p ∈ X.pn) (hg : Gl X x) (hm : X.mg x = some (.ref f)) (hk : PySem.W.keepIn X.K (.ref f) = true) (hb : Binds X.K fd ps []) (hx : ∀ σ, PassesAt CX X σ (E σ))
    (ha : PA X (e :: es) t) (hdb : (x == ("__debug__" : Str)) = false := by decide) (he : starEach (e :: es) X.env = (false, eval e X.env) :: starEach es X.env := by rfl) (hpl : (backTo pos (starEach es X.env)).any (·.1) = false := by rfl) :
    PE X (.Call (.Name x q) (e :: es) [] pos) (tCallX Z sp E t) := by
  refine ⟨fun pins s σ H Q I h => wpAny_Call_Name_kw (ld_glob I hg hm ?_ hdb)⟩
  refine PySem.W.callWith_K (h₀ := X.base) I.ok.mod.kin hk (thn (ha.run pos pins s σ H _ I h) fun us s1 ⟨vs, H1, I1, r, all⟩ => ⟨I1.kIn, ?_⟩) he hpl
  have hsp := all p hz
  have hl : us.length = ps.length := r.length.symm.trans (F.len p _ _ _ _ hsp)
  have b := hb s1 us I1.kIn (by rw [List.append_nil]; exact hl)
  rw [List.append_nil] at b
  have P1 := I1.pin p (List.mem_append_left _ hp)
  have hpin : PinOk X.stack H1 s1 p := ⟨P1.1, P1.2.1, fun hm => (List.mem_cons.mp (I1.stkSub p.1 hm)).elim P1.2.2.1 P1.2.2.2.1, P1.2.2.2.2⟩
  refine wpAny_call (codeAny_mono (F.run p X.A X.stack s1 H1 ⟨us, []⟩ us vs Q (E σ) hr hot hpin I1.env0 b r hsp) fun r s' hq => ?_)
  cases r with
  | error e => exact hx σ pins H1 s1 e s' I1 hq
  | ok fl =>
    cases fl with
    | ret u => exact I1.after hq
    | _ => exact hq.elim
end

/-! ### isinstance(e, C), e the exception that is handled, with a dict of its own -/
/-- isinstance(e, c): a the exception, D its class, d its dict -/
def rIsX (K : PySem.W.Frag) (D a d : Addr) : List V → Hp → VK → Prop := fun xs H Q => ∃ (c : V) (cv : Value) (b : Bool) (fs : List (Str × V)), xs = [.ref a, c] ∧ (∀ u, RelV c u → u = cv) ∧ PySem.W.kitOne K (.ref D) cv = some b ∧ H d = some (.xd fs) ∧ Q (.bl b) H
theorem call_isX {X : Cx} {D d : Addr} {p : Addr × Obj} (T : ExcC X.K D) (hp : p ∈ X.pn) (hz : Zc (.ref D) (some d) p.2) (hf : ∃ vs, p.2.data = .fields vs) : CallR X (.builtin "isinstance") (rIsX X.K D p.1 d) := by
  intro pins s σ H xs us Q I r h
  obtain ⟨c, cv, b, fs, rfl, hcv, e, hd, q⟩ := h
  obtain ⟨u1, u2, rfl, r1, r2⟩ := vals2 r
  obtain rfl : u1 = Value.ref p.1 := r1
  obtain rfl := hcv _ r2
  obtain ⟨vs, hv⟩ := hf
  obtain ⟨mA, hns, _⟩ := (show ObjOk X.prog X.w H s.heap d (.xd fs) from I.hok d _ hd)
  obtain ⟨od, ho, _⟩ := lookIn_ns hns
  have J : PySem.W.InstAt s.heap p.1 p.2 D (some od) := ⟨(I.pin p (List.mem_append_left _ hp)).1, hz.1, by unfold PySem.W.notCls; rw [hv] <;> rfl, by rw [hz.2]; exact ho⟩
  exact PySem.W.kia_one (PySem.W.kitx_exc (by obtain ⟨cd, hc, _⟩ := PySem.W.any_some T.hd; rw [hc]; rfl) T.hg T.hk T.hs T.ha T.hn T.ht T.hm) I.kIn J e (fun z => nomatch z) fun tk => ⟨.bl b, H, I.kept (t' := tk) fun _ _ z => z, rfl, q⟩

/-! ### [e for i in range(n) if t] within a suite -/
/-- a comprehension's block there: the handled exception is kept -/
abbrev hBlk (X : Cx) (s : Shared) (H : Hp) (scope : Scope) (cenv : Env) (fp : List Addr) : Cx := { X.blk s H scope cenv fp with pn := X.pn }
theorem hBlk_start {X : Cx} {pins : List (Addr × Obj)} {σ : L2.St} {H : Hp} {s : Shared} {scope : Scope} {own : List (Str × Nat)} {fp : List Addr} (I : Inv X pins σ H s) (ok : BlkOk X.N X.env.scope scope own) (hN : X.N.Nodup) (hfp : ∀ b ∈ fp, FpOk X pins H b ∧ b < s.heap.objs.size) :
    Inv (hBlk X s H scope (compEnvC scope (cellsFrom (s.heap.objs.size + 1) scope.names (cloFrom X.env.cells scope.names [])) s.heap.objs.size X.env) fp) [] (wipe σ (own.map (·.2))) H { s with heap := pushCells (s.heap.push { cls := .type "dict", data := .dict #[] }) scope.names } := by
  have J := block_start I ok hN hfp
  refine ⟨⟨J.ok.mod, J.ok.kind, J.ok.glob, J.ok.blt, J.ok.above, J.ok.inj, J.ok.has, J.ok.cab, J.ok.hd, J.ok.frames, J.ok.stk, J.ok.exf, J.ok.bs, J.ok.bsz, J.ok.noex, J.ok.exfs, J.ok.funs, J.ok.frf⟩, J.os, J.bare, J.base, J.loc, J.cell, J.free, J.freeC, fun p hp => ?_, J.hok, J.len⟩
  have hp2 : p ∈ X.pn := by simpa using hp
  obtain ⟨g1, g2, g3, g4, g5⟩ := I.pin p (List.mem_append_left _ hp2)
  refine ⟨pushCells_keeps _ _ _ _ (Heap.get?_push_of_some _ g1), g2, Nat.ne_of_lt (Heap.lt_size g1), fun hm => ?_, g5⟩
  exact (List.mem_cons.mp (I.stkSub p.1 hm)).elim g3 g4
def tLcH (lo : Int) (n : Nat) (g : TG) (tt : TT) (te : TE) (vs : List Nat) : TE := fun σ H Q => ∀ D, H D = none → ∃ Pv : Nat → Hp → Prop, Pv 0 (upd H D (.lst [])) ∧
  (∀ i H1, i < n → Pv i H1 → g (.int (lo + i)) (wipe σ vs) H1 fun σ2 H2 => wipe σ2 vs = wipe σ vs ∧ tt σ2 H2 fun b H3 =>
    if b = true then te σ2 H3 fun y H4 => ∃ acc, H4 D = some (.lst acc) ∧ acc.length < sizeLine ∧ Pv (i + 1) (upd H4 D (.lst (acc ++ [y]))) else Pv (i + 1) H3) ∧ ∀ H1, Pv n H1 → Q (.ref D) H1
section
variable {X : Cx}
theorem lc_coreH {pins : List (Addr × Obj)} {s : Shared} {σ : L2.St} {H : Hp} {Q : VK} {elt tg iter : Expr} {ifs : List Expr} {scope : Scope} {own : List (Str × Nat)} {pos pos' : Pos} {wi : TI} {g : TG} {tt : TT} {te : TE} {n : Nat} {lo : Int} {use : Option (Value → Sem Unit)} {Qf : Value → Shared → Prop}
    (hc : HotC X) (hN : X.N.Nodup) (I : Inv X pins σ H s) (hi : PIH X tg iter wi) (hw : ∀ σ H (R : It → Hp → Prop), R (Itr lo n) H → wi σ H R)
    (ok : BlkOk X.N X.env.scope scope own)
    (hg : ∀ (s : Shared) (H : Hp) (C : Addr) (cl : List (Str × Addr)) (fp : List Addr), PG (hBlk X s H scope (compEnvC scope cl C X.env) fp) tg g) (ht : ∀ (s : Shared) (H : Hp) (C : Addr) (cl : List (Str × Addr)) (fp : List Addr), PTs (hBlk X s H scope (compEnvC scope cl C X.env) fp) ifs tt)
    (he : ∀ (s : Shared) (H : Hp) (C : Addr) (cl : List (Str × Addr)) (fp : List Addr), PE (hBlk X s H scope (compEnvC scope cl C X.env) fp) elt te) (hs : ∀ x, foldedSetIterable iter X.env x = pure x)
    (h : tLcH lo n g tt te (own.map (·.2)) σ H Q)
    (hRR : ∀ D C s' m H', Inv X pins σ H' s' → Q (.ref D) H' → s'.heap.Ns C m → FpOk X pins H' C → compPost (model X.prog X.w) X.A X.xe use Qf (.ref D) C (.ok .next) s') :
    wpAny (model X.prog X.w) X.A (comprehension (.ListComp elt [⟨tg, iter, ifs, 0⟩] scope pos) scope X.env pos' (newList []) false (eval iter X.env) use) Qf X.xe s := by
  have caps : ∀ y ∈ scope.names, y.2 = .free → ∃ c, X.env.cells.lookup y.1 = some c := fun y hy e => I.ok.has _ ((ok.free y hy e).imp id id)
  refine wpAny_comprehension_free (use := use) rfl hs (closure_ok caps) ok.kind (fun y hy e => (ok.uniq y hy).trans (congrArg some e))
    (thn (hi.run pins s σ H (fun J H' => J = Itr lo n ∧ H' = H) I (hw _ _ _ ⟨rfl, rfl⟩)) fun xv s1 hx => thn hx fun itv s2 h2 => ?_)
  obtain ⟨it, fp, tn, J, H2, rfl, I2, T, st2, f2, eJ, eH⟩ := h2
  subst eJ eH
  refine wpAny_newObj_type (newEnv_comp ?_) (Nat.zero_le _)
  -- the list that is filled stands at D
  generalize hD : s2.heap.objs.size = D
  have freeD : H2 D = none := I2.hok.fresh (Nat.le_of_eq hD)
  obtain ⟨Pv, p0, turn, fin⟩ := h D freeD
  generalize hs3 : ({ s2 with heap := s2.heap.push { cls := .type "list", data := .seq ([] : List Value).toArray } } : Shared) = s3
  have heap3 : s3.heap = s2.heap.push { cls := .type "list", data := .seq ([] : List Value).toArray } := by rw [← hs3]
  have I3 : Inv X pins σ (upd H2 D (.lst [])) s3 := by
    rw [← hs3]
    exact I2.laid (t' := s2.toks) (fun b o e => Heap.get?_push_of_some _ e) (Nat.le_of_eq hD) ⟨Nat.zero_le _, [], 0, .nil, by rw [← hD]; exact Heap.get?_push_size _ rfl⟩
  have f3 : ∀ b ∈ fp, FpOk X pins (upd H2 D (.lst [])) b ∧ b < s3.heap.objs.size := fun b hb => by
    obtain ⟨o, e, _⟩ := T.obj _ _ st2 b hb
    have lt := Heap.lt_size e
    exact ⟨⟨by rw [upd_ne (by rw [← hD]; exact Nat.ne_of_lt lt)]; exact (f2 b hb).1, (f2 b hb).2⟩, by rw [heap3, Heap.size_push]; exact Nat.lt_succ_of_lt lt⟩
  have I4 := hBlk_start I3 ok hN f3
  have pg := hg s3 (upd H2 D (.lst [])) s3.heap.objs.size (cellsFrom (s3.heap.objs.size + 1) scope.names (cloFrom X.env.cells scope.names [])) fp
  have pt := ht s3 (upd H2 D (.lst [])) s3.heap.objs.size (cellsFrom (s3.heap.objs.size + 1) scope.names (cloFrom X.env.cells scope.names [])) fp
  have pe := he s3 (upd H2 D (.lst [])) s3.heap.objs.size (cellsFrom (s3.heap.objs.size + 1) scope.names (cloFrom X.env.cells scope.names [])) fp
  show codeAny _ _ (.compStart (.ListComp elt [⟨tg, iter, ifs, 0⟩] scope pos) 0 (.ref it) (.ref D) (compEnvC scope (cellsFrom (s3.heap.objs.size + 1) scope.names (cloFrom X.env.cells scope.names [])) s3.heap.objs.size X.env))
    (compPost (model X.prog X.w) X.A X.xe use Qf (.ref D) s3.heap.objs.size) { s3 with heap := pushCells (s3.heap.push { cls := .type "dict", data := .dict #[] }) scope.names }
  generalize hce : compEnvC scope (cellsFrom (s3.heap.objs.size + 1) scope.names (cloFrom X.env.cells scope.names [])) s3.heap.objs.size X.env = ce at I4 pg pt pe ⊢
  have cL : ce.locals = s3.heap.objs.size := by subst hce; rfl
  have nf3 : ∀ b ∈ fp, (upd H2 D (.lst [])) b = none := fun b hb => (f3 b hb).1.1
  generalize upd H2 D (.lst []) = H3 at I3 I4 pg pt pe p0 f3 nf3
  have hcB : HotC (hBlk X s3 H3 scope ce fp) := hc
  have st4 : tn 0 (pushCells (s3.heap.push { cls := .type "dict", data := .dict #[] }) scope.names) := T.keep _ _ _ st2 fun b _ o e => pushCells_keeps _ _ _ _ (Heap.get?_push_of_some _ (by rw [heap3]; exact Heap.get?_push_of_some _ e))
  generalize hs4 : ({ s3 with heap := pushCells (s3.heap.push { cls := .type "dict", data := .dict #[] }) scope.names } : Shared) = s4 at I4 ⊢
  have st4 : tn 0 s4.heap := by
    rw [← hs4]
    exact st4
  have stat : ∀ {σ' : L2.St} {H' : Hp} {s' : Shared}, Inv (hBlk X s3 H3 scope ce fp) [] σ' H' s' → (∀ b ∈ fp, H' b = none) → ∀ b ∈ fp, FpOk (hBlk X s3 H3 scope ce fp) [] H' b := fun {_ _ _} I' hn b hb =>
    ⟨hn b hb, (I'.ok.exf b hb).1, I'.ok.exfs b hb, .inl hb, fun x c e => (I'.ok.exf b hb).2 x c e, fun p hp => (f3 b hb).1.2.2.2.2.2 p (List.mem_append_left _ (by simpa using hp))⟩
  suffices loop : codeAny (model X.prog X.w) X.A (.compLoop (.ListComp elt [⟨tg, iter, ifs, 0⟩] scope pos) 0 (.ref it) (.ref D) ce) (compPost (model X.prog X.w) X.A X.xe use Qf (.ref D) s3.heap.objs.size) s4 from codeAny_compStart_list loop (T.self X.A 0 _ _ _ st4 loop)
  refine (compLoop_any (fun m s' => ∃ i H', m = n - i ∧ i ≤ n ∧ Inv (hBlk X s3 H3 scope ce fp) [] (wipe σ (own.map (·.2))) H' s' ∧ tn i s'.heap ∧ (∀ b ∈ fp, H' b = none) ∧ Pv i H') ?_ n ⟨0, H3, by simp, Nat.zero_le _, I4, st4, nf3, p0⟩)
  rintro m s5 ⟨i, H5, rfl, hle, I5, st5, n5, p5⟩
  by_cases hlt : i < n
  · -- one more turn
    refine thnF (T.item (hBlk X s3 H3 scope ce fp) rfl rfl rfl hcB i [] s5 _ H5 (fun _ _ => False) I5 (stat I5 n5) st5 hlt) fun r s6 ⟨u, hr, h6⟩ => ?_
    subst hr
    refine thnF h6 fun _ s7 ⟨x, H7, I7, r7, y7, st7, n7⟩ => ?_
    obtain ⟨e7, ex⟩ := y7
    subst e7 ex
    refine thnF (pg.run _ s7 _ H7 _ u _ (I7.pinned (stat I7 n7) (T.obj _ _ st7)) r7 (turn i H7 hlt p5)) fun _ s8 ⟨σ8, H8, I8, w8, q8⟩ => ?_
    refine thnF (pt.run _ s8 σ8 H8 _ I8 q8) fun b s9 ⟨H9, I9, q9⟩ => ?_
    have next : ∀ {s' : Shared} {H' : Hp}, Inv (hBlk X s3 H3 scope ce fp) ([] ++ pinsAt fp s7.heap) σ8 H' s' → Pv (i + 1) H' →
        ∃ m, m < n - i ∧ ∃ i H', m = n - i ∧ i ≤ n ∧ Inv (hBlk X s3 H3 scope ce fp) [] (wipe σ (own.map (·.2))) H' s' ∧ tn i s'.heap ∧ (∀ b ∈ fp, H' b = none) ∧ Pv i H' := fun {s' H'} I' p' => by
      have still : ∀ b ∈ fp, ∀ o, s7.heap.get? b = some o → s'.heap.get? b = some o ∧ H' b = none := fun b hb o e =>
        let z := I'.pin (b, o) (List.mem_append_right _ (List.mem_append_right _ (mem_pinsAt hb e)))
        ⟨z.1, z.2.1⟩
      refine ⟨n - (i + 1), by omega, i + 1, H', rfl, hlt, (I'.unpinned (pins := [])).weak (by rw [← w8, wipe_length]) (fun j v e => ?_), T.keep _ _ _ st7 fun b hb o e => (still b hb o e).1, fun b hb => ?_, p'⟩
      · rw [← w8] at e
        exact (wipe_some e).1
      · obtain ⟨o, e, _⟩ := T.obj _ _ st7 b hb
        exact (still b hb o e).2
    cases b with
    | false => exact next I9 q9
    | true =>
      refine thnF (pe.run _ s9 σ8 H9 _ I9 q9) fun z s10 ⟨yv, H10, I10, r10, acc, hD10, hz10, nx⟩ => ?_
      exact app_ok (X := hBlk X s3 H3 scope ce fp) I10 hD10 hz10 r10 fun s11 I11 => next I11 nx
  · -- the range is at its end
    have e : i = n := by omega
    subst e
    refine thnF (T.done (hBlk X s3 H3 scope ce fp) rfl rfl rfl hcB i [] s5 _ H5 (fun _ _ => False) I5 (stat I5 n5) st5 (Nat.le_refl i)) fun r s6 ⟨hr, I6⟩ => ?_
    subst hr
    have I7 : Inv X pins σ H5 s6 := I3.call' (ch := fp) I6.os I6.base I6.hok I6.bare fun b hb => ⟨(f3 b hb).1.2.2.2.1, (f3 b hb).1.2.1, (f3 b hb).1.2.2.2.2.1, (f3 b hb).1.2.2.2.2.2⟩
    have noC : H5 s3.heap.objs.size = none := cL ▸ I6.free
    obtain ⟨m, hn, _⟩ := I6.loc
    have hn : s6.heap.Ns s3.heap.objs.size m := cL ▸ hn
    exact hRR D s3.heap.objs.size s6 m H5 I7 (fin H5 p5) hn (I3.fpOk (Nat.le_refl _) noC)
variable {elt tg iter : Expr} {ifs : List Expr} {scope : Scope} {own : List (Str × Nat)} {pos : Pos} {wi : TI} {g : TG} {tt : TT} {te : TE} {n : Nat} {lo : Int}
theorem pe_lcH (hc : HotC X) (hN : X.N.Nodup) (hi : PIH X tg iter wi) (hw : ∀ σ H (R : It → Hp → Prop), R (Itr lo n) H → wi σ H R) (ok : BlkOk X.N X.env.scope scope own)
    (hg : ∀ (s : Shared) (H : Hp) (C : Addr) (cl : List (Str × Addr)) (fp : List Addr), PG (hBlk X s H scope (compEnvC scope cl C X.env) fp) tg g) (ht : ∀ (s : Shared) (H : Hp) (C : Addr) (cl : List (Str × Addr)) (fp : List Addr), PTs (hBlk X s H scope (compEnvC scope cl C X.env) fp) ifs tt)
    (he : ∀ (s : Shared) (H : Hp) (C : Addr) (cl : List (Str × Addr)) (fp : List Addr), PE (hBlk X s H scope (compEnvC scope cl C X.env) fp) elt te) (hs : ∀ x, foldedSetIterable iter X.env x = pure x := by intro _; rfl) :
    PE X (.ListComp elt [⟨tg, iter, ifs, 0⟩] scope pos) (tLcH lo n g tt te (own.map (·.2))) := by
  refine ⟨fun pins s σ H Q I h => ?_⟩
  rw [eval_ListComp]
  refine lc_coreH hc hN I hi hw ok hg ht he hs h fun D C s' m H' I' q hn ⟨z0, z1, z2, z3, z4, z5⟩ => ⟨m, hn, fun h'' sb => ?_⟩
  exact ⟨.ref D, H', I'.turned (t' := s'.toks) (fun b o hb e => (sb.2 b hb).trans e) z0 z1 z3 z4 z5, rfl, q⟩
/-- y = [..], y a local, written within the block's frame -/
theorem ps_setLcH {i : Nat} {y : Str} {py spos : Pos} (hc : HotC X) (hN : X.N.Nodup) (hy : X.N[i]? = some y) (hyl : X.env.scope.names.lookup y = some .local)
    (hsw : swapsWith (.ListComp elt [⟨tg, iter, ifs, 0⟩] scope pos) (some (.Name y py)) spos.line X.env = pure true) (hi : PIH X tg iter wi) (hw : ∀ σ H (R : It → Hp → Prop), R (Itr lo n) H → wi σ H R) (ok : BlkOk X.N X.env.scope scope own)
    (hg : ∀ (s : Shared) (H : Hp) (C : Addr) (cl : List (Str × Addr)) (fp : List Addr), PG (hBlk X s H scope (compEnvC scope cl C X.env) fp) tg g) (ht : ∀ (s : Shared) (H : Hp) (C : Addr) (cl : List (Str × Addr)) (fp : List Addr), PTs (hBlk X s H scope (compEnvC scope cl C X.env) fp) ifs tt)
    (he : ∀ (s : Shared) (H : Hp) (C : Addr) (cl : List (Str × Addr)) (fp : List Addr), PE (hBlk X s H scope (compEnvC scope cl C X.env) fp) elt te) (hs : ∀ x, foldedSetIterable iter X.env x = pure x := by intro _; rfl) :
    PS X (.Assign [.Name y py] (.ListComp elt [⟨tg, iter, ifs, 0⟩] scope pos) spos) (tAsg (tLcH lo n g tt te (own.map (·.2))) (gName i)) := by
  refine ⟨fun pins s σ H D I h => ?_⟩
  rw [exec_Assign_Name_used _ _ _ _ hsw]
  have h : tLcH lo n g tt te (own.map (·.2)) σ H (fun x H1 => gName i x σ H1 D.nx) := h
  refine wpAny_bind (wpAny_standAt (wpAny_bind ?_))
  refine wpAny_bind (thn (lc_coreH (use := some (assign (.Name y py) X.env)) (Qf := fun _ s' => SP X pins D .next s') hc hN I hi hw ok hg ht he hs h fun L C s' m H' I' q hn f => ?_) fun _ _ z => wpAny_pure (wpAny_pure z))
  obtain ⟨z0, z1, z2, z3, z4, z5⟩ := f
  refine wpAny_assign_Name (store_ok2 (v := V.ref L) I' hN hy (.inl hyl) rfl (fun s2 I2 ⟨a, sb, ha⟩ => ?_) (.inr hyl))
  have ne : C ≠ a := ha.elim (fun z => z ▸ z1) (fun z e => z4 y a z e.symm)
  refine ⟨m, hn.sameBut sb ne, fun h3 sb3 => ?_⟩
  exact ⟨_, H', I2.turned (t' := s2.toks) (fun b o hb e => (sb3.2 b hb).trans e) z0 z1 z3 z4 z5, q⟩
end
end Sw
set_option Elab.async false
set_option linter.all false
set_option maxRecDepth 100000
set_option maxHeartbeats 2000000
/-! Rules of my own: max(xs, default=d), xs a list of ints that may be empty. -/
namespace Sw
open PySem
section
variable {prog : Program} {w : World} {A : Around} {R : Result → Shared → Prop} {I S : Addr} {fp wr : List Addr} {n : Nat} {P : Nat → Value → Prop} {St : Nat → Heap → Prop} {d : Value}
abbrev dkw (d : Value) : List (Str × Value) := [(Str.ofString "default", d)]
/-- what stands in the list of the best so far -/
def bestSeq : Option Value → Array Value
  | none => #[]
  | some v => #[v, v]
theorem mxd_loop (W : Walks prog w A.in1 I fp wr n P St) (bt : Nat → Nat → Bool) (hcmp : CmpOf prog w A.in1 .Gt P bt) (hSf : S ∉ fp) : ∀ (k j : Nat) (s : Shared) (c : Nat) (best : Option Value), n - j = k → j ≤ n → St j s.heap →
    (best = none → j = 0) → (∀ v, best = some v → 0 < j ∧ P (argBest bt (j - 1)) v) → s.heap.get? S = some { cls := .type "list", dict := none, data := .seq (bestSeq best) c, slots := #[] } →
    (∀ u h' tk, (n = 0 → u = d) → (0 < n → P (argBest bt (n - 1)) u) → (∀ b o, b ∉ wr → b ≠ S → s.heap.get? b = some o → h'.get? b = some o) → R (.ok (.ret u)) { s with heap := h', toks := tk }) →
    codeAny (model prog w) A (.builtin "max.loop" ⟨[.ref I, .none, .ref S], dkw d⟩) R s := by
  have nameL : (toString "max" ++ toString ".loop" : String) = "max.loop" := by decide
  have hSw : S ∉ wr := fun h => hSf (W.sub _ h)
  intro k
  induction k with
  | zero =>
    intro j s c best hk hj hst h0 h1 hS hR
    have ej : j = n := by omega
    subst ej
    refine codeAny_builtin F.entry_max_loop ?_
    rw [Around.under_plainId F.plain_max_loop _]
    refine wpAny_bind (wpAny_seqItems hS rfl ?_)
    refine wpAny_bind (wpAny_tryCatch (W.done s _ _ hst fun h' tk hk' => ?_))
    have hS' := hk' S _ hSw hS
    cases best with
    | none =>
      have z := h0 rfl
      refine wpAny_bind (wpAny_rule ?_)
      refine wpAny_pure (hR d h' tk (fun _ => rfl) (fun y => absurd y (by omega)) fun b o hbw _ e => hk' b o hbw e)
    | some v =>
      obtain ⟨z1, z2⟩ := h1 v rfl
      have hS2 : h'.get? S = some { cls := .type "list", dict := none, data := .seq #[v, v] c, slots := #[] } := hS'
      refine wpAny_bind (wpAny_updateSeq hS2 rfl (wpAny_bind (wpAny_letGo (wpAny_pure ?_))))
      exact hR v _ tk (fun y => absurd y (by omega)) (fun _ => z2) fun b o hbw hbS e => (Heap.get?_update_other _ _ (Ne.symm hbS)).trans (hk' b o hbw e)
  | succ k ih =>
    intro j s c best hk hj hst h0 h1 hS hR
    have hlt : j < n := by omega
    refine codeAny_builtin F.entry_max_loop ?_
    rw [Around.under_plainId F.plain_max_loop _]
    refine wpAny_bind (wpAny_seqItems hS rfl ?_)
    refine wpAny_bind (wpAny_tryCatch (W.item j s _ _ hlt hst fun v h' tk hP hst' hk' => ?_))
    have hS' := hk' S _ hSw hS
    have put : ∀ (u : Value) (old : Array Value), h'.get? S = some { cls := .type "list", dict := none, data := .seq old c, slots := #[] } → P (argBest bt j) u →
        codeAny (model prog w) A (.builtin "max.loop" ⟨[.ref I, .none, .ref S], dkw d⟩) R { s with heap := h'.update S (Obj.mapSeq fun _ => #[u, u]), toks := tk } := fun u old hS2 hu => by
      have other : ∀ b, b ≠ S → (h'.update S (Obj.mapSeq fun _ => #[u, u])).get? b = h'.get? b := fun b hb => Heap.get?_update_other _ _ (Ne.symm hb)
      refine ih (j + 1) _ _ (some u) (by omega) hlt (W.frame _ _ _ hst' fun b hbf o e => (other b fun z => hSf (by rw [← z]; exact hbf)).trans e) (fun z => nomatch z) (fun v' e => ?_) (Heap.get?_update_self _ hS2 rfl) fun u' h'' tk'' e0 e1 hk'' => ?_
      · cases e
        exact ⟨by omega, hu⟩
      · exact hR u' h'' tk'' e0 e1 fun b o hbw hbS e => hk'' b o hbw hbS ((other b hbS).trans (hk' b o hbw e))
    cases best with
    | none =>
      have z := h0 rfl
      subst z
      have hS2 : h'.get? S = some { cls := .type "list", dict := none, data := .seq #[] c, slots := #[] } := hS'
      refine wpAny_bind (wpAny_pure (wpAny_bind (wpAny_updateSeq hS2 rfl ?_)))
      rw [nameL]
      exact wpAny_pure ⟨plainId_quiet F.plain_max_loop _, put v _ hS2 hP⟩
    | some vb =>
      obtain ⟨z1, z2⟩ := h1 vb rfl
      have hS2 : h'.get? S = some { cls := .type "list", dict := none, data := .seq #[vb, vb] c, slots := #[] } := hS'
      have ej : j - 1 + 1 = j := by omega
      have ab : argBest bt j = if bt j (argBest bt (j - 1)) = true then j else argBest bt (j - 1) := by
        have q : argBest bt (j - 1 + 1) = if bt (j - 1 + 1) (argBest bt (j - 1)) = true then j - 1 + 1 else argBest bt (j - 1) := rfl
        rw [ej] at q
        exact q
      refine wpAny_bind (wpAny_pure (wpAny_bind (wpAny_tryCatch (wpAny_holding (wpAny_bind (hcmp j (argBest bt (j - 1)) v vb _ _ _ hP z2 ?_))))))
      refine wpAny_bind (wpAny_holding (wpAny_truthy_bool (wpAny_bind (wpAny_letGo (wpAny_pure ?_)))))
      cases hb : bt j (argBest bt (j - 1)) with
      | true =>
        rw [hb, if_pos rfl] at ab
        refine wpAny_bind (wpAny_updateSeq hS2 rfl (wpAny_bind (wpAny_letGo ?_)))
        rw [nameL]
        exact wpAny_pure ⟨plainId_quiet F.plain_max_loop _, put v _ hS2 (by rw [ab]; exact hP)⟩
      | false =>
        rw [hb, if_neg (by decide)] at ab
        refine wpAny_bind (wpAny_letGo ?_)
        rw [nameL]
        refine wpAny_pure ⟨plainId_quiet F.plain_max_loop _, ih (j + 1) _ c (some vb) (by omega) hlt hst' (fun z => nomatch z) (fun v' e => ?_) hS2 fun u' h'' tk'' e0 e1 hk'' => ?_⟩
        · cases e
          exact ⟨by omega, by show P (argBest bt j) vb; rw [ab]; exact z2⟩
        · exact hR u' h'' tk'' e0 e1 fun b o hbw hbS e => hk'' b o hbw hbS (hk' b o hbw e)
end
section
variable {prog : Program} {w : World} {A : Around} {E : Value → Shared → Prop} {s : Shared} {l : Addr} {xs : Array (Int × Tok)} {d : Value}
theorem mxd_args (a v : Value) : argsOk "max" ⟨[a], dkw v⟩ := by unfold argsOk; kernel_rfl
theorem mxd_ints {Q : Value → Shared → Prop} (hh : A.handled = none) (hl : s.heap.IsList l (intItems xs))
    (h : ∀ v h' tk, (xs.size = 0 → v = d) → (0 < xs.size → (intItems xs)[argBest (fun i j => decide (numAt xs i > numAt xs j)) (xs.size - 1)]? = some v) → (∀ b o, s.heap.get? b = some o → h'.get? b = some o) → Q v { s with heap := h', toks := tk }) :
    wpAny (model prog w) A (call (.builtin "max") [.ref l] (dkw d)) Q E s := by
  have nameL : (toString "max" ++ toString ".loop" : String) = "max.loop" := by decide
  have hsz : (intItems xs).size = xs.size := by simp [intItems]
  refine PyProof.Rows.kmk_tree F.kind_max F.plain_max F.entry_max (mxd_args _ _) ?_
  refine wpAny_bind (wpAny_of_eq (show Builtin.Builtins.bindParams "max" ["key", "default"] 0 ⟨[], dkw d⟩ = pure [none, some d] from rfl) ?_)
  refine wpAny_bind (wpAny_pure ?_)
  refine wpAny_bind (iter_intList hl fun s2 e st hfp hlI => ?_)
  subst e
  refine wpAny_bind (wpAny_newObj_type ?_)
  rw [nameL]
  refine wpAny_pure ⟨plainId_quiet F.plain_max_loop _, ?_⟩
  have W := Walks.list (prog := prog) (w := w) (A := A.in1) hh s.heap.objs.size l hlI (intItems xs)
  refine mxd_loop W _ (CmpOf.ints_gt (numAt xs) (fun _ _ => intItems_at)) (fun hm => Nat.lt_irrefl _ (hfp _ hm)) _ 0 _ _ none rfl (Nat.zero_le _) (W.frame _ _ _ st fun b _ o e => Heap.get?_push_of_some _ e) (fun _ => rfl) (fun _ z => nomatch z)
    (Heap.get?_push_size _ rfl) fun u h' tk e0 e1 hk => ?_
  refine h u h' tk (fun z => e0 (hsz.trans z)) (fun z => ?_) fun b o e => ?_
  · have q := e1 (by rw [hsz]; exact z)
    rw [hsz] at q
    exact q
  · have lt := Heap.lt_size e
    refine hk b o (fun hm => ?_) (fun z => ?_) (Heap.get?_push_of_some _ (Heap.get?_push_of_some _ e))
    · have z : b = s.heap.objs.size := by simpa using hm
      exact absurd lt (by rw [z]; exact Nat.lt_irrefl _)
    · rw [z, Heap.size_push] at lt
      exact absurd lt (Nat.not_lt.mpr (Nat.le_succ _))
end
end Sw
namespace Sw
open PySem PySem.Spec PyProof.Rows L2
/-- max(xs, default=d) of a list of ints -/
def rMaxD (K : PySem.W.Frag) : List V → List V → Hp → VK → Prop := fun vs zs H Q => ∃ (a : Addr) (ns : List Int) (d : V), vs = [V.ref a] ∧ zs = [d] ∧ SqL K H a (ns.map V.int) ∧ (ns = [] → Q d H) ∧ ∀ m, m ∈ ns → (∀ y, y ∈ ns → y ≤ m) → Q (.int m) H
theorem crk_max {X : Cx} (hc : X.calm = true) : CallRK X (.builtin "max") ["default"] (rMaxD X.K) := by
  intro pins s σ H vs zs us ws Q I r rz h
  obtain ⟨a, ns, d, rfl, rfl, hs, q0, q1⟩ := h
  obtain ⟨its, rv, hl, _⟩ := I.list hs
  rw [Vals.ref1 r]
  cases rz with
  | @cons _ du _ _ rd rz =>
    cases rz
    obtain ⟨xs, e⟩ := rv.ints.allInts.items
    have hn : numsOf (intItems xs).toList = ns := by rw [← e]; exact rv.ints.numsOf
    rw [nums_intItems] at hn
    have hl2 := hl.isList
    rw [e] at hl2
    subst hn
    refine mxd_ints (d := du) (I.ok.hd hc) hl2 fun v h' tk e0 e1 hk => ?_
    cases hz : xs.size with
    | zero =>
      rw [e0 hz]
      refine ⟨d, H, I.kept hk, rd, q0 ?_⟩
      have : xs = #[] := Array.eq_empty_of_size_eq_zero hz
      rw [this]
      rfl
    | succ k =>
      have hv := e1 (by omega)
      obtain ⟨t, rfl⟩ := intItems_at hv
      obtain ⟨h1, h2⟩ := argBest_gt (numAt xs) (xs.size - 1)
      refine ⟨.int _, H, I.kept hk, ⟨t, rfl⟩, q1 _ ?_ fun y hy => ?_⟩
      · rw [numAt_eq]
        exact PySem.getD_mem (by rw [List.length_map, Array.length_toList]; omega)
      · obtain ⟨j, hj, rfl⟩ := mem_getD hy
        rw [List.length_map, Array.length_toList] at hj
        rw [← numAt_eq]
        exact h2 j (by omega)
end Sw
set_option Elab.async false
set_option linter.all false
set_option maxRecDepth 100000
set_option maxHeartbeats 2000000
/-! The head's facts: any closed test of the written part. -/
namespace Sw
open PySem PySem.Spec PyProof.Rows L2 He
abbrev Fb : Type := PySem.W.Frag → Bool
def asR (g : Addr → Option Obj) (roots : List Addr) : Nat → List Addr
  | 0 => roots
  | n + 1 => growD g (asR g roots n)
def obsF (fa : List Fb) (fn : List DefD) (K : PySem.W.Frag) : AlD := ((fa.all fun f => f K) && fn.all fun d => d.ok K, fn.map fun d => fnW K d.at_)
def SaysF (fa : List Fb) (fn : List DefD) (K : PySem.W.Frag) : Prop := obsF fa fn K = valD fn
abbrev roots : List Addr := [mainGlobals, cStatics]
def obsFG (n : Nat) (fa : List Fb) (fn : List DefD) (g : Addr → Option Obj) : AlD := obsF fa fn (frG g (asR g roots n))
def hookF (n : Nat) (fa : List Fb) (fn : List DefD) : PySem.W.Hook where
  α := AlD
  obs := fun s => obsFG n fa fn s.heap.get?
  val := fun _ => valD fn
  says := fun _ h => ∃ K : PySem.W.Frag, K.In h ∧ SaysF fa fn K
  of := fun _ _ e => ⟨_, frG_in, e⟩
  keeps := fun _ _ _ ⟨K, hK, c⟩ k => ⟨K, PySem.W.Frag.In.keeps hK k, c⟩
theorem obsFG_eq {n : Nat} {fa : List Fb} {fn : List DefD} {g : Addr → Option Obj} {s : Shared} (h : ∀ a, g a = s.heap.get? a) : obsFG n fa fn g = (hookF n fa fn).obs s := by
  have e : g = s.heap.get? := funext h
  rw [e] <;> rfl
section
variable {fa : List Fb} {fn : List DefD} {K : PySem.W.Frag}
theorem SaysF.fact (c : SaysF fa fn K) (i : Nat) {f : Fb} (h : fa[i]? = some f := by rfl) : f K = true :=
  List.all_eq_true.mp (ba (show ((fa.all fun f => f K) && fn.all fun d => d.ok K) = true from congrArg (fun z : AlD => z.1) c)).1 f (List.mem_of_getElem? h)
theorem SaysF.def_ (c : SaysF fa fn K) (i : Nat) {d : DefD} (h : fn[i]? = some d := by rfl) : ∃ fd, FunD K d.name d.qual d.params d.body d.scope (d.dvs K) (d.kws K) (fAd K d.at_) fd := by
  have e2 : (fn.map fun d => fnW K d.at_)[i]? = (fn.map DefD.val)[i]? := congrArg (fun z : AlD => z.2[i]?) c
  rw [List.getElem?_map, List.getElem?_map, h] at e2
  exact DefD.funD (Option.some.inj e2) (List.all_eq_true.mp (ba (show ((fa.all fun f => f K) && fn.all fun d => d.ok K) = true from congrArg (fun z : AlD => z.1) c)).2 d (List.mem_of_getElem? h))
end
end Sw
set_option Elab.async false
set_option linter.all false
set_option maxRecDepth 100000
set_option maxHeartbeats 2000000
/-! Own error classes over ValueError whose __init__ hands on to a base's: what the written part says, the promises, raise. -/
namespace Sw
open PySem PySem.Spec PyProof.Rows L2 He

/-! ### tests of the written part -/
def oexB (K : PySem.W.Frag) (C : Addr) : Bool := (match K.lookup C with
  | some ⟨.type c, _, .cls cd, sl⟩ => decide (c = "type") && (match cd.mro, sl.toList with
    | .ref C' :: bm, [_, _, _, _, some (.builtin n), _] => decide (C' = C) && (decide (n = "ValueError.__new__") && (cd.hasDict && (!cd.hasDel && PySem.HandSPX.refsVE bm)))
    | _, _ => false)
  | _ => false) && (eqO (PySem.W.findIn K (.ref C) "__setattr__") (some (some (.builtin "object.__setattr__"))) && (decide (PySem.W.subIn K (.ref C) (.type "BaseException") = some true) && (decide (PySem.W.typeIn K (.ref C) = some (.type "type")) && PySem.W.keepIn K (.ref C))))
theorem oexB_ok {K : PySem.W.Frag} {C : Addr} (h : oexB K C = true) : OexC K C := by
  obtain ⟨h1, h⟩ := ba h
  obtain ⟨h2, h⟩ := ba h
  obtain ⟨h3, h⟩ := ba h
  obtain ⟨h4, h5⟩ := ba h
  refine ⟨?_, eqO_ok h2, of_decide_eq_true h3, of_decide_eq_true h4, h5⟩
  split at h1
  · rename_i c dd cd sl lk
    obtain ⟨hc, h1⟩ := ba h1
    split at h1
    · rename_i C' bm k0 k1 k2 k3 n k5 hm hs
      obtain ⟨e1, h1⟩ := ba h1
      obtain ⟨e2, h1⟩ := ba h1
      obtain ⟨e3, h1⟩ := ba h1
      obtain ⟨e4, e5⟩ := ba h1
      obtain ⟨nm, bs, mro, ns, qn, hd, sn, sub, ab, col, del⟩ := cd
      obtain rfl := of_decide_eq_true hc
      obtain rfl := of_decide_eq_true e1
      obtain rfl := of_decide_eq_true e2
      have hsl : sl = #[k0, k1, k2, k3, some (.builtin "ValueError.__new__"), k5] := by
        obtain ⟨l⟩ := sl
        exact congrArg Array.mk hs
      have hm : mro = Value.ref C' :: bm := hm
      have hhd : hd = true := e3
      have hdl : del = false := by
        cases del with
        | false => rfl
        | true => cases e4
      subst hm hhd hdl hsl
      exact ⟨nm, qn, ns, bs, bm, sn, sub, ab, col, dd, k0, k1, k2, k3, k5, lk, e5⟩
    · cases h1
  · cases h1
def excB (K : PySem.W.Frag) (D : Addr) : Bool := eqO (PySem.W.findIn K (.ref D) "__getattribute__") (some (some (.builtin "BaseException.__getattribute__"))) && (eqO (PySem.W.findIn K (.ref D) "__getattr__") (some none) &&
  (PySem.W.hasDictIn K D && (eqO (PySem.W.findIn K (.ref D) "__class__") (some (some (.builtin "object.__class__"))) && (eqO (PySem.W.specialIn K (.builtin "object.__class__") "__get__") (some (some (.builtin "getset_descriptor.__get__"))) &&
  (decide (PySem.W.takesIn K (.builtin "object.__class__") = some true) && decide (PySem.W.mroIn K D (.type "object") = some true))))))
theorem excB_ok {K : PySem.W.Frag} {D : Addr} (o : OexC K D) (h : excB K D = true) : ExcC K D := by
  obtain ⟨h1, h⟩ := ba h
  obtain ⟨h2, h⟩ := ba h
  obtain ⟨h3, h⟩ := ba h
  obtain ⟨h4, h⟩ := ba h
  obtain ⟨h5, h⟩ := ba h
  obtain ⟨h6, h7⟩ := ba h
  exact ⟨eqO_ok h1, eqO_ok h2, o.exC, h3, eqO_ok h4, eqO_ok h5, of_decide_eq_true h6, of_decide_eq_true h7⟩
def clsRd (K : PySem.W.Frag) (C : Addr) : Bool := PySem.W.readsIn K C (.type "type") && eqO (PySem.W.specialIn K (.ref C) "__getattribute__") (some (some (.builtin "type.__getattribute__")))
def slStr (sl : Array (Option Value)) : Bool := match sl[2]? with
  | some (some (Value.str _ _)) => true
  | _ => false
theorem slStr_ok {sl : Array (Option Value)} (h : slStr sl = true) : ∃ z tk, sl[2]? = some (some (Value.str z tk)) := by
  unfold slStr at h
  split at h
  · rename_i z tk e
    exact ⟨z, tk, e⟩
  · cases h
def namB (K : PySem.W.Frag) (C : Addr) : Bool := (match PySem.W.findCls K (.ref C) (.type "type") "__name__" with
  | some (.get (.builtin g) (.builtin a) (.ref C') (.type t)) => decide (g = "getset_descriptor.__get__") && (decide (a = "type.__name__") && (decide (C' = C) && decide (t = "type")))
  | _ => false) && (match K.lookup C with
  | some ⟨.type c, _, _, sl⟩ => decide (c = "type") && slStr sl
  | _ => false)
theorem namB_ok {K : PySem.W.Frag} {C : Addr} (r : clsRd K C = true) (h : namB K C = true) : ∃ z, NamC K C z := by
  obtain ⟨h1, h2⟩ := ba h
  obtain ⟨r1, _⟩ := ba r
  split at h1
  · rename_i g a C' t e
    obtain ⟨e1, h1⟩ := ba h1
    obtain ⟨e2, h1⟩ := ba h1
    obtain ⟨e3, e4⟩ := ba h1
    obtain rfl := of_decide_eq_true e1
    obtain rfl := of_decide_eq_true e2
    obtain rfl := of_decide_eq_true e3
    obtain rfl := of_decide_eq_true e4
    split at h2
    · rename_i c dd dt sl lk
      obtain ⟨hc, h2⟩ := ba h2
      obtain rfl := of_decide_eq_true hc
      obtain ⟨z, tk, hz⟩ := slStr_ok h2
      exact ⟨z, r1, e, _, tk, lk, rfl, hz⟩
    · cases h2
  · cases h1
def clfnB (K : PySem.W.Frag) (C : Addr) (m : Str) : Bool := clsRd K C && (match PySem.W.findCls K (.ref C) (.type "type") m with
  | some (.val (.ref f)) => decide (f = ma K C m)
  | _ => false)
theorem clfnB_ok {K : PySem.W.Frag} {C : Addr} {m : Str} (h : clfnB K C m = true) : ClFn K C m (ma K C m) := by
  obtain ⟨h1, h2⟩ := ba h
  obtain ⟨r1, r2⟩ := ba h1
  split at h2
  · rename_i f e
    obtain rfl := of_decide_eq_true h2
    exact ⟨r1, eqO_ok r2, e⟩
  · cases h2
def veinB (K : PySem.W.Frag) : Bool := match PySem.W.findCls K (.type "ValueError") (.type "type") "__init__" with
  | some (.val (.builtin b)) => decide (b = "ValueError.__init__")
  | _ => false
theorem veinB_ok {K : PySem.W.Frag} (h : veinB K = true) : PySem.W.findCls K (.type "ValueError") (.type "type") "__init__" = some (.val (.builtin "ValueError.__init__")) := by
  unfold veinB at h
  split at h
  · rename_i b e
    obtain rfl := of_decide_eq_true h
    exact e
  · cases h
/-- an own error class, its __init__ a def -/
def errB (K : PySem.W.Frag) (C : Addr) : Bool := oexB K C && (excB K C && (clsRd K C && (namB K C && (eqO (PySem.W.findIn K (.ref C) "value") (some none) &&
  (eqO (PySem.W.findIn K (.ref C) "__init__") (some (some (.ref (ma K C "__init__")))) && decide (PySem.W.typeIn K (.ref (ma K C "__init__")) = some (.type "function")))))))
structure ErrC (K : PySem.W.Frag) (C : Addr) : Prop where
  o : OexC K C
  e : ExcC K C
  n : ∃ z, NamC K C z
  nv : PySem.W.findIn K (.ref C) "value" = some none
  ini : PySem.W.findIn K (.ref C) "__init__" = some (some (.ref (ma K C "__init__")))
  inT : PySem.W.typeIn K (.ref (ma K C "__init__")) = some (.type "function")
theorem errB_ok {K : PySem.W.Frag} {C : Addr} (h : errB K C = true) : ErrC K C := by
  obtain ⟨h1, h⟩ := ba h
  obtain ⟨h2, h⟩ := ba h
  obtain ⟨h3, h⟩ := ba h
  obtain ⟨h4, h⟩ := ba h
  obtain ⟨h5, h⟩ := ba h
  obtain ⟨h6, h7⟩ := ba h
  have o := oexB_ok h1
  exact ⟨o, excB_ok o h2, namB_ok h3 h4, eqO_ok h5, eqO_ok h6, of_decide_eq_true h7⟩
theorem ErrC.xf {K : PySem.W.Frag} {C : Addr} (T : ErrC K C) : XfC K C := ⟨T.e.hg, T.e.hk, T.o.exC, T.e.hd⟩

/-! ### the promise of such an __init__(self, value) -/
def spEInit (K : PySem.W.Frag) : Sp := fun vs H Q _ => ∃ (a C : Addr) (v : V), vs = [.ref a, v] ∧ H a = some (exo a C none) ∧ ErrC K C ∧ ∀ dx, H dx = none → dx ≠ a → Q .non (upd (upd H dx (exd dx [("value", v)])) a (exo a C (some dx)))
theorem spEInit_len {K : PySem.W.Frag} : ∀ vs H Q E, spEInit K vs H Q E → vs.length = ["self", "value"].length := fun vs H Q E h => by
  obtain ⟨a, C, v, rfl, _⟩ := h
  rfl

/-! ### C(e, ..) as what is raised, nothing being handled: its context is None -/
theorem pmkN_oex {X : Cx} {CX : CXT} {x : Str} {e : Expr} {es : List Expr} {ta : TA} {p pos : Pos} {C fI : Addr} {k : Nat} {fd : FuncData} {ps : List Str} {sp : Sp} {ds : List Value} {dvs : List V} (T : OexC X.K C) (iC : PySem.W.findIn X.K (.ref C) "__init__" = some (some (.ref fI)))
    (tI : PySem.W.typeIn X.K (.ref fI) = some (.type "function")) (F1 : FnOk X.prog X.w X.K X.mg X.base CX k fI fd ps sp) (hr : Room (k + 1) X.A) (hb : Binds X.K fd ps ds) (hd : Vals dvs ds) (hx : Passes CX X (fun _ _ _ => False)) (hg : Gl X x) (hm : X.mg x = some (.ref C)) (ha : PA X (e :: es) ta)
    (hdb : (x == ("__debug__" : Str)) = false := by decide) (he : starEach (e :: es) X.env = (false, eval e X.env) :: starEach es X.env := by rfl) (hpl : (backTo pos (starEach es X.env)).any (·.1) = false := by rfl) :
    L2N.PMk X (.Call (.Name x p) (e :: es) [] pos) (tMkO C sp dvs ta) := by
  intro pins s σ H Q I h
  obtain ⟨nm, q, N, bs, bm, sn, sub, ab, col, dd, k0, k1, k2, k3, k5, hC, hbm⟩ := T.cls
  refine wpAny_Call_Name_kw (ld_glob I hg hm ?_ hdb)
  refine PySem.W.callWith_K (h₀ := X.base) I.ok.mod.kin T.kC (thn (ha.run pos pins s σ H _ I h) fun us s1 ⟨vs, H1, I1, r1, hz, q1⟩ => ⟨I1.kIn, ?_⟩) he hpl
  obtain ⟨hp, g, dr, tk, os⟩ := s1
  -- the new exception stands behind its tuple of arguments
  generalize ea0 : hp.objs.size + 1 = a0
  have le0 : hp.objs.size ≤ a0 := by omega
  have free0 : H1 a0 = none := I1.hok.fresh le0
  have hq := q1 a0 free0
  have keep0 : ∀ b o, hp.get? b = some o → ((hp.push (PySem.W.kdv_tup us)).push (PySem.HandSPX.excO C hp.objs.size)).get? b = some o := fun b o e => Heap.get?_push_of_some _ (Heap.get?_push_of_some _ e)
  have get0 : ((hp.push (PySem.W.kdv_tup us)).push (PySem.HandSPX.excO C hp.objs.size)).get? a0 = some (PySem.HandSPX.excO C hp.objs.size) := by
    rw [← ea0]
    heap_get
  have I2 := I1.laid (t' := tk) (a := a0) (o := exo a0 C none) keep0 le0 (exo_ok get0)
  have r2 : Vals (V.ref a0 :: (vs ++ dvs)) (Value.ref a0 :: (us ++ ds)) := .cons rfl (r1.append hd)
  have hl : (Value.ref a0 :: us ++ ds).length = ps.length := (r2.length).symm.trans (F1.len _ _ _ _ hq)
  have hus : us.length ≤ sizeLine := by
    rw [← Paired.length r1, sizeLine_eq]
    omega
  subst ea0
  refine wpAny_call (PySem.HandSPX.call_own F.excBase_ValueError (fun Y => PySem.HandSPX.refsVE_contains Y bm hbm) (I1.kIn _ _ hC) (PySem.W.looks_findIn I1.kIn iC) (fun self => PySem.W.bind_fn I1.kIn self tI) hus
    (codeAny_mono (F1.run _ X.stack _ _ ⟨Value.ref (hp.objs.size + 1) :: us, []⟩ _ _ _ (fun _ _ _ => False) (hr.make C us []) (I2.env0.make C us []) (hb _ _ I2.kIn hl) r2 hq) fun r s' hq' => ?_))
  cases r with
  | error er => exact hx pins σ _ _ er s' I2 hq'
  | ok fl =>
    cases fl with
    | ret u =>
      obtain ⟨v, H2, os2, bare2, un2, hok2, rv, ev, d, fs, ea, ed, hd1, q2⟩ := hq'
      subst ev
      obtain ⟨h2, g2, d2, t2, os'⟩ := s'
      obtain ⟨t0, G, J, kG, ge, hoe, na⟩ := mk_end0 (d2 := d2) (t2 := t2) I1 le0 keep0 un2 hok2 os2 bare2 ea ed hd1
      refine ⟨rv, _, _, _, ⟨G, g2, d2, t2, os'⟩, _, .ref C, some d, rfl, J, kG, ge, hoe, ⟨rfl, rfl, fun ws hv => ?_⟩, rfl, rfl, na, rfl, bare2, raises_own T.exC T.tyC, q2⟩
      cases hv
      rfl
    | _ => exact hq'.elim
end Sw
set_option Elab.async false
set_option linter.all false
set_option maxRecDepth 100000
set_option maxHeartbeats 2000000
/-! Operators of own classes: a class without a reflected method, an instance of a subclass on the right. -/
namespace Sw
open PySem PySem.W PySem.Calls PyProof.Rows Builtin
section
variable {α : Type} {prog : Program} {w : World} {A : Around} {E : Value → Shared → Prop} {s : Shared} {K : Frag} {C D x y f g : Addr} {ox oy : Obj} {od oe : Option Obj} {nm : String}
theorem raiseStr_attr {M : Model} {msg : PySem.Str} {Q : α → Shared → Prop} (hh : A.handled = none)
    (h : ∀ h' tk e, Heap.NewExcOf s.heap h' e "AttributeError" → E (.ref e) { s with heap := h', toks := tk }) (hm : msg.length ≤ sizeLine) : wpAny M A (raiseErrorStr "AttributeError" msg : Sem α) Q E s := by
  unfold raiseErrorStr
  refine wpAny_bind (wpAny_mkStr (wpAny_bind ?_) hm)
  unfold newExc newTuple
  refine wpAny_bind (wpAny_newObj_type ?_ (by size_fits))
  refine wpAny_bind (m := firstArgMember _ _) (wpAny_of_eq (a := Value.none) (by simp only [firstArgMember, attrError_no_first]; rfl) ?_)
  rw [ownMembersOf_AttributeError]
  refine wpAny_newObj_type ?_ (by size_fits)
  unfold raiseNew
  refine wpAny_bind (wpAny_handled ?_)
  rw [hh]
  first
    | refine wpAny_throw ?_
    | refine wpAny_bind (wpAny_pure (wpAny_throw ?_))
  exact h _ _ _ ⟨fun b o hb => Heap.get?_push_of_some _ (Heap.get?_push_of_some _ hb), Heap.get?_none_of_le (by simp), _, _, Heap.get?_push_size _ rfl, rfl, rfl, rfl⟩
/-- the class's name -/
def nameB (K : Frag) (C : Addr) (z : String) : Bool := match clsIn K C with
  | some cd => decide (cd.name = PySem.Str.ofString z)
  | none => false
/-- a short name -/
def ShortOk (z : String) : Prop := (PySem.Str.ofString z).cps.foldl (fun k c => k + (PySem.Str.utf8Of c).length) 0 ≤ 100 ∧ PySem.Str.length (PySem.Str.ofString s!"type object '{(PySem.Str.ofString z).toString}' has no attribute '") ≤ 1000
theorem looks_cut {M : Model} {h : Heap} {z : String} (X : K.In h) (e : nameB K C z = true) (k : ShortOk z) : Looks M h (typeNameCut 100 (.ref C)) (PySem.Str.ofString z).toString := by
  unfold nameB at e
  split at e
  · rename_i cd hc
    have e := of_decide_eq_true e
    unfold typeNameCut
    refine (looks_clsIn X hc).andThen ?_
    dsimp only
    rw [e, if_pos k.1]
    exact .now
  · cases e
/-- what a class without an attribute of a name must tell -/
structure NoCls (K : Frag) (C : Addr) (name : PySem.Str) : Prop where
  rd : readsIn K C (.type "type") = true
  m1 : findIn K (.type "type") name = some none
  m2 : findIn K (.ref C) name = some none
  sh : ∃ z, nameB K C z = true ∧ ShortOk z
theorem type_getattr_none : typeLookup (.type "type") "__getattr__" = pure none := by rw [typeLookup_type, builtinLookup_eq_fast]; kernel_rfl
theorem tga_miss {name : PySem.Str} {tk : Tok} {Q : Fin → Shared → Prop} (X : K.In s.heap) (N : NoCls K C name) (hn : name.length ≤ 100) (hh : A.handled = none)
    (h : ∀ h' tk e, Heap.NewExcOf s.heap h' e "AttributeError" → E (.ref e) { s with heap := h', toks := tk }) : wpAny (model prog w) A (Builtin.«type.__getattribute__» ⟨[.ref C, .str name tk], []⟩) Q E s := by
  have hr := N.rd
  simp only [readsIn, Bool.and_eq_true, beq_iff_eq] at hr
  obtain ⟨⟨⟨⟨a, b⟩, c'⟩, d⟩, f⟩ := hr
  obtain ⟨z, e5, hz⟩ := N.sh
  have L5 := looks_cut (M := model prog w) X e5 hz
  have hz := hz.2
  have ho : Looks (model prog w) s.heap (opaqueClassAbove (.ref C)) none := looks_opaque X a
  have ht : Looks (model prog w) s.heap (typeOf (.ref C)) (.type "type") := looks_typeIn X b
  have L1 := looks_findIn (M := model prog w) X N.m1
  have L4 := looks_findIn (M := model prog w) X N.m2
  obtain ⟨hh', g, dd, t, os⟩ := s
  unfold Builtin.«type.__getattribute__»
  refine wpAny_bind (wpAny_pure (wpAny_bind (ho.at (wpAny_bind (ht.at (wpAny_bind (L1.at ?_)))))))
  dsimp only
  refine wpAny_bind (wpAny_pure (wpAny_bind (L4.at ?_)))
  dsimp only
  refine wpAny_bind (wpAny_rule ?_)
  refine wpAny_bind (L5.at ?_)
  refine raiseStr_attr hh h ?_
  rw [strLen_append, strLen_append]
  have e1 : (PySem.Str.ofString "'").length = 1 := by decide
  have e2 : sizeLine = 16777216 := sizeLine_eq
  omega
/-- getattr(C, name) is looked for and not there -/
theorem cls_none {name : PySem.Str} {tk : Tok} {Q : Option Value → Shared → Prop} (X : K.In s.heap) (N : NoCls K C name) (hn : name.length ≤ 100) (hh : A.handled = none)
    (h : ∀ h' tk, (∀ b o, s.heap.get? b = some o → h'.get? b = some o) → Q none { s with heap := h', toks := tk }) : wpAny (model prog w) A (getAttrBy? (.ref C) (.str name tk)) Q E s := by
  have hr := N.rd
  simp only [readsIn, Bool.and_eq_true, beq_iff_eq] at hr
  obtain ⟨⟨⟨⟨a, b⟩, c'⟩, d⟩, f⟩ := hr
  have ht : Looks (model prog w) s.heap (typeOf (.ref C)) (.type "type") := looks_typeIn X b
  have Lga := looks_findIn (M := model prog w) X c'
  have Lsub : Looks (model prog w) s.heap (isInstance (.ref C) (.type "type")) true := ht.andThen (looks_subIn X f)
  obtain ⟨hp, g, dr, t, os⟩ := s
  unfold getAttrBy? getAttrBy
  refine wpAny_bind (wpAny_attempt (wpAny_holding (wpAny_bind (ht.at (wpAny_bind (Lga.at ?_))))))
  dsimp only
  rw [show (onTheHeap (Value.type "type") && Value.builtin "type.__getattribute__" == Value.builtin "object.__getattribute__") = false from by decide +kernel, if_neg (by decide)]
  unfold getAttrByItsOwn
  refine wpAny_bind (m := hookBefore _) (wpAny_pure (wpAny_bind (wpAny_attempt (wpAny_holding ?_))))
  unfold callGetattribute
  rw [show (false && onTheHeap (Value.builtin "type.__getattribute__")) = false from rfl, if_neg (by decide)]
  unfold boundAndCalled
  rw [KF.slot_tga.bind]
  refine wpAny_bind (wpAny_pure ?_)
  show wpAny _ _ (call (.builtin "type.__getattribute__") [.ref C, .str name tk]) _ _ _
  refine wpAny_call ?_
  refine codeAny_call_builtin KF.slot_tga.plain KF.entry_tga ?_
  refine @check_slot (model prog w) _ _ ⟨hp, g, dr, t, os⟩ "type.__getattribute__" "type" "__getattribute__" (.ref C) [.str name tk] [] _ (by decide +kernel) (by decide +kernel) Lsub (KF.args_tga (.ref C) (.str name tk)) ?_
  refine tga_miss X N hn hh fun h' tk' e ne => ?_
  obtain ⟨ob, vs, he, hc, hd, h1⟩ := ne.there
  have inst : ∀ {Q : Bool → Shared → Prop} {E : Value → Shared → Prop}, Q true ⟨h', g, dr, tk', os⟩ → wpAny (model prog w) A (isInstance (.ref e) (.type "AttributeError")) Q E ⟨h', g, dr, tk', os⟩ := fun q =>
    wpAny_isInstance (T := "AttributeError") ⟨_, he, hc⟩ sub_AttributeError q
  show wpAny _ _ (getattributeRaised _ _ _ _ _ _ _) _ _ _
  unfold getattributeRaised
  refine wpAny_bind (inst ?_)
  rw [if_pos rfl]
  have hb : hookBehind (Value.type "type") none = pure none := type_getattr_none
  rw [hb]
  refine wpAny_bind (wpAny_pure ?_)
  show wpAny _ _ (attributeErrorLeaves _ _ _ false false) _ _ _
  unfold attributeErrorLeaves
  rw [if_pos (show (!false) = true from rfl)]
  refine wpAny_throw ?_
  refine wpAny_bind (inst ?_)
  rw [if_pos rfl]
  exact wpAny_pure (h h' tk' ne.keeps)
/-- what two own classes must tell for x op y, f the left one's method -/
structure BinP (K : Frag) (nm : String) (C D f : Addr) : Prop where
  fC : selfFirst K C = true
  fD : selfFirst K D = true
  sC : findIn K (.ref C) (PySem.dunder nm) = some (some (.ref f))
  sF : isFn K (.ref f) = true
  sD : ∃ g : Addr, findIn K (.ref D) (PySem.dunder nm) = some (some (.ref g))
  rC : findIn K (.ref C) (dunderR nm) = some none
  nD : NoCls K D (dunderR nm)
  sub : ∃ b, subIn K (.ref D) (.ref C) = some b
theorem refl_no {Q : Bool → Shared → Prop} (X : K.In s.heap) (P : BinP K nm C D f) (hn : (dunderR nm).length ≤ 100) (hh : A.handled = none)
    (h : ∀ h' tk, (∀ b o, s.heap.get? b = some o → h'.get? b = some o) → Q false { s with heap := h', toks := tk }) : wpAny (model prog w) A (reflectedDiffers (.ref C) (.ref D) nm) Q E s := by
  obtain ⟨g, sD⟩ := P.sD
  have L6 : Looks (model prog w) s.heap (numberSlotInPython (.ref C) nm) true := ksp_inPy X P.sC P.rC (.inl rfl)
  have L7 : Looks (model prog w) s.heap (numberSlotInPython (.ref D) nm) true := ksp_inPy X sD P.nD.m2 (.inl rfl)
  obtain ⟨hp, gg, dr, t, os⟩ := s
  unfold reflectedDiffers
  refine wpAny_bind (L6.at ?_)
  rw [if_neg (by decide)]
  refine wpAny_bind (L7.at ?_)
  rw [if_neg (by decide)]
  refine wpAny_bind (wpAny_mkStr ?_ (by rw [sizeLine_eq]; omega))
  refine wpAny_bind (cls_none (s := ⟨hp, gg, dr, _, os⟩) X P.nD hn hh fun h' tk k => ?_)
  exact wpAny_pure (h h' tk k)
theorem inst_keeps {h h' : Heap} (I : InstAt h x ox C od) (k : ∀ b o, h.get? b = some o → h'.get? b = some o) : InstAt h' x ox C od := ⟨k _ _ I.at_, I.cls, I.no, by
  have d := I.dict
  revert d
  cases ox.dict with
  | none => cases od <;> exact fun d => d
  | some dx => cases od with
    | none => exact fun d => d
    | some o => exact fun d => k _ _ d⟩
theorem own_bin {op : Operator} {Q : Value → Shared → Prop} (X : K.In s.heap) (Ia : InstAt s.heap x ox C od) (Ib : InstAt s.heap y oy D oe) (P : BinP K op.info.2 C D f) (hn : (dunderR op.info.2).length ≤ 100) (hh : A.handled = none)
    (h : ∀ (h' : Heap) tk, (∀ b o, s.heap.get? b = some o → h'.get? b = some o) → wpAny (model prog w) A (call (.ref f) [.ref x, .ref y]) (PySem.W.CmpBack Q) E { s with heap := h', toks := tk }) : wpAny (model prog w) A (binaryOp op (.ref x) (.ref y)) Q E s := by
  obtain ⟨g, sD⟩ := P.sD
  obtain ⟨b, hsub⟩ := P.sub
  obtain ⟨cd, rest, hcd, hm⟩ := ksp_first P.fC
  obtain ⟨cdD, restD, hcdD, hmD⟩ := ksp_first P.fD
  rcases hi : op.info with ⟨sym, nm'⟩
  rw [hi] at P hn sD
  dsimp only at P hn sD
  obtain ⟨hp, gg, dr, t, os⟩ := s
  have L1 : Looks (model prog w) hp (typeOf (.ref x)) (.ref C) := Ia.type
  have L2 : Looks (model prog w) hp (typeOf (.ref y)) (.ref D) := Ib.type
  have L3 : Looks (model prog w) hp (fillsNumberSlot (.ref C) nm') true := fills_K X hcd hm P.sC
  have L4 : Looks (model prog w) hp (fillsNumberSlot (.ref D) nm') true := fills_K X hcdD hmD sD
  have L5 : Looks (model prog w) hp (isSubtype (.ref D) (.ref C)) b := looks_subIn X hsub
  have one : ∀ (h' : Heap) tk, (∀ b o, hp.get? b = some o → h'.get? b = some o) → wpAny (model prog w) A (tryMethod (.ref x) (PySem.dunder nm') (.ref y)) (fun r s' => ∃ v, r = some v ∧ Q v s') E ⟨h', gg, dr, tk, os⟩ := fun h' tk k =>
    ksp_try (s := ⟨h', gg, dr, tk, os⟩) (X.keeps k) (inst_keeps Ia k) P.sC P.sF (h h' tk k)
  simp only [binaryOp, hi]
  refine wpAny_holding (wpAny_bind ?_)
  unfold binaryOp1
  refine wpAny_bind (L1.at (wpAny_bind (L2.at (wpAny_bind (L3.at ?_)))))
  by_cases hCD : C = D
  · subst hCD
    simp only [beq_self_eq_true, if_true]
    refine wpAny_bind (wpAny_pure ?_)
    simp only [Bool.and_false, Bool.false_eq_true, if_false, Bool.false_and]
    refine wpAny_bind (wpAny_pure ?_)
    simp only [Bool.false_eq_true, if_false]
    refine wpAny_bind (wpAny_mono (one hp t fun _ _ z => z) (fun r s' hr' => ?_) fun _ _ e => e)
    obtain ⟨v, rfl, hq⟩ := hr'
    exact wpAny_pure (wpAny_pure hq)
  have hne : (Value.ref C == Value.ref D) = false := Bool.eq_false_iff.mpr fun q => hCD (by cases beq_iff_eq.mp q; rfl)
  simp only [hne, Bool.false_eq_true, if_false]
  refine wpAny_bind (L4.at ?_)
  simp only [Bool.and_self, if_true]
  have L6 : ∀ h' : Heap, (∀ b o, hp.get? b = some o → h'.get? b = some o) → Looks (model prog w) h' (numberSlotInPython (.ref C) nm') true := fun h' k => ksp_inPy (X.keeps k) P.sC P.rC (.inl rfl)
  have L7 : ∀ h' : Heap, (∀ b o, hp.get? b = some o → h'.get? b = some o) → Looks (model prog w) h' (numberSlotInPython (.ref D) nm') true := fun h' k => ksp_inPy (X.keeps k) sD P.nD.m2 (.inl rfl)
  refine wpAny_bind (L5.at ?_)
  cases b with
  | false =>
    rw [if_neg (by decide)]
    rw [if_pos (by decide)]
    refine wpAny_bind ((L6 hp fun _ _ z => z).at ?_)
    rw [if_pos rfl]
    refine wpAny_bind ((L7 hp fun _ _ z => z).at ?_)
    rw [if_neg (by decide)]
    refine wpAny_bind (wpAny_mono (one hp t fun _ _ z => z) (fun r s' hr' => ?_) fun _ _ e => e)
    obtain ⟨v, rfl, hq⟩ := hr'
    exact wpAny_pure (wpAny_pure hq)
  | true =>
    rw [if_pos rfl]
    refine wpAny_bind (refl_no (s := ⟨hp, gg, dr, t, os⟩) X P hn hh fun h' tk k => ?_)
    rw [if_neg (by decide)]
    rw [if_pos (by decide)]
    refine wpAny_bind ((L6 h' k).at ?_)
    rw [if_pos rfl]
    refine wpAny_bind ((L7 h' k).at ?_)
    rw [if_neg (by decide)]
    refine wpAny_bind (wpAny_mono (one h' tk k) (fun r s' hr' => ?_) fun _ _ e => e)
    obtain ⟨v, rfl, hq⟩ := hr'
    exact wpAny_pure (wpAny_pure hq)
/-- x op n, n of a built-in type that knows the operator, too -/
structure BinT (K : Frag) (nm : String) (C f : Addr) (T : String) : Prop where
  fC : selfFirst K C = true
  sC : findIn K (.ref C) (PySem.dunder nm) = some (some (.ref f))
  sF : isFn K (.ref f) = true
  rC : findIn K (.ref C) (dunderR nm) = some none
  sT : ∃ a b, findIn K (.type T) (PySem.dunder nm) = some a ∧ findIn K (.type T) (dunderR nm) = some b
  sub : subIn K (.type T) (.ref C) = some false
end
end Sw
namespace Sw
open PySem PySem.Spec PyProof.Rows L2
section
variable {X : Cx} {CX : CXT} {k : Nat} {f : Addr} {fd : FuncData} {ps : List Str} {sp : Sp} {E : XK}
/-- what an operator's method gives: an object -/
abbrev QRef (Q : VK) : VK := fun v H2 => (∃ r, v = .ref r) ∧ Q v H2
theorem run_back {pins : List (Addr × Obj)} {σ : L2.St} {H : Hp} {s : Shared} {Q : VK} {us : List Value} {vs : List V} (F : FnOk X.prog X.w X.K X.mg X.base CX k f fd ps sp) (hr : Room k X.A) (hb : Binds X.K fd ps []) (hx : Passes CX X E)
    (I : Inv X pins σ H s) (r : Vals vs us) (h : sp vs H (QRef Q) E) : wpAny (model X.prog X.w) X.A (call (.ref f) us) (PySem.W.CmpBack (EP X pins σ Q)) X.xe s := by
  refine wpAny_mono (run_fn (Q := QRef Q) F hr hb .nil hx I r (by rw [List.append_nil]; exact h)) (fun u s' hu => ?_) fun _ _ z => z
  obtain ⟨v, H', I', rv, ⟨a, rfl⟩, q⟩ := hu
  obtain rfl : u = Value.ref a := rv
  exact ⟨V.ref a, H', I', rfl, q⟩
/-- x op y, both instances of own classes -/
def rOwn (K : PySem.W.Frag) (nm : String) (f : Addr) (sp : Sp) (E : XK) : R2 := fun x y H Q => ∃ (a b C D dx dy : Addr) (fs gs : List (Str × V)), x = .ref a ∧ y = .ref b ∧ H a = some (.ins C dx fs) ∧ H b = some (.ins D dy gs) ∧ BinP K nm C D f ∧ sp [.ref a, .ref b] H (QRef Q) E
theorem op_own {op : Operator} (F : FnOk X.prog X.w X.K X.mg X.base CX k f fd ps sp) (hr : Room k X.A) (hb : Binds X.K fd ps []) (hx : Passes CX X E) (hc : X.calm = true) (hn : (dunderR op.info.2).length ≤ 100 := by decide) :
    OpR X (binaryOp op) (rOwn X.K op.info.2 f sp E) := by
  intro pins s σ H x y v u Q I rx ry h
  obtain ⟨a, b, C, D, dx, dy, fs, gs, rfl, rfl, ea, eb, P, q⟩ := h
  obtain rfl : v = Value.ref a := rx
  obtain rfl : u = Value.ref b := ry
  obtain ⟨mA, O, _⟩ := ins_get I.hok ea
  obtain ⟨mB, O2, _⟩ := ins_get I.hok eb
  obtain ⟨oda, Ia, _⟩ := O.look
  obtain ⟨odb, Ib, _⟩ := O2.look
  exact own_bin I.kIn Ia Ib P hn (I.ok.hd hc) fun h' tk kp => run_back (vs := [.ref a, .ref b]) F hr hb hx (I.kept (t' := tk) kp) (.cons rfl (.cons rfl .nil)) q
/-- x op n, n an int -/
def rOwnI (K : PySem.W.Frag) (nm : String) (f : Addr) (sp : Sp) (E : XK) : R2 := fun x y H Q => ∃ (a C dx : Addr) (fs : List (Str × V)) (i : Int), x = .ref a ∧ y = .int i ∧ H a = some (.ins C dx fs) ∧ BinT K nm C f "int" ∧ sp [.ref a, .int i] H (QRef Q) E
theorem op_ownI {op : Operator} (F : FnOk X.prog X.w X.K X.mg X.base CX k f fd ps sp) (hr : Room k X.A) (hb : Binds X.K fd ps []) (hx : Passes CX X E) : OpR X (binaryOp op) (rOwnI X.K op.info.2 f sp E) := by
  intro pins s σ H x y v u Q I rx ry h
  obtain ⟨a, C, dx, fs, i, rfl, rfl, ea, P, q⟩ := h
  obtain rfl : v = Value.ref a := rx
  obtain ⟨t, rfl⟩ := (show ∃ t, u = Value.int i t from ry)
  obtain ⟨mA, O, _⟩ := ins_get I.hok ea
  obtain ⟨oda, Ia, _⟩ := O.look
  obtain ⟨m, hn, _⟩ := I.loc
  obtain ⟨fo, ro, h1, h2⟩ := P.sT
  exact PySem.W.ksp_binT (T := "int") (h₀ := X.base) (m := m) (L := X.env.locals) ⟨hn, I.bk, Nat.le_trans I.ok.bsz I.ok.above⟩ I.ok.mod.kin Ia rfl P.fC P.sC P.sF P.rC (.inl rfl) h1 h2 P.sub (run_back (vs := [.ref a, .int i]) F hr hb hx I (.cons rfl (.cons ⟨t, rfl⟩ .nil)) q)
/-- - x, an instance of an own class -/
structure NegP (K : PySem.W.Frag) (C f : Addr) : Prop where
  s : PySem.W.findIn K (.ref C) "__neg__" = some (some (.ref f))
  sF : PySem.W.isFn K (.ref f) = true
def rOwnN (K : PySem.W.Frag) (f : Addr) (sp : Sp) (E : XK) : V → Hp → VK → Prop := fun x H Q => ∃ (a C dx : Addr) (fs : List (Str × V)), x = .ref a ∧ H a = some (.ins C dx fs) ∧ NegP K C f ∧ sp [.ref a] H Q E
theorem un_own (F : FnOk X.prog X.w X.K X.mg X.base CX k f fd ps sp) (hr : Room k X.A) (hb : Binds X.K fd ps []) (hx : Passes CX X E) : UnR X (unaryOp .USub) (rOwnN X.K f sp E) := by
  intro pins s σ H x v Q I rx h
  obtain ⟨a, C, dx, fs, rfl, ea, P, q⟩ := h
  obtain rfl : v = Value.ref a := rx
  obtain ⟨mA, O, _⟩ := ins_get I.hok ea
  obtain ⟨oda, Ia, _⟩ := O.look
  obtain ⟨m, hn, _⟩ := I.loc
  exact PySem.W.ksp_neg (h₀ := X.base) (m := m) (L := X.env.locals) ⟨hn, I.bk, Nat.le_trans I.ok.bsz I.ok.above⟩ I.ok.mod.kin Ia P.s P.sF (run_fn (vs := [.ref a]) F hr hb .nil hx I (.cons rfl .nil) (by rw [List.append_nil]; exact q))
end
end Sw
set_option Elab.async false
set_option linter.all false
set_option maxRecDepth 100000
set_option maxHeartbeats 2000000
namespace Sw
open PySem PySem.Spec PyProof.Rows L2
/-- a statement that is not reached -/
theorem ps_dead {X : Cx} {st : Stmt} : PS X st (fun _ _ _ => False) := ⟨fun _ _ _ _ _ _ h => h.elim⟩
/-- C() as what is raised, nothing being handled -/
theorem pmkN_oex0 {X : Cx} {CX : CXT} {x : Str} {p pos : Pos} {C fI : Addr} {k : Nat} {fd : FuncData} {ps : List Str} {sp : Sp} (T : OexC X.K C) (iC : PySem.W.findIn X.K (.ref C) "__init__" = some (some (.ref fI)))
    (tI : PySem.W.typeIn X.K (.ref fI) = some (.type "function")) (F1 : FnOk X.prog X.w X.K X.mg X.base CX k fI fd ps sp) (hr : Room (k + 1) X.A) (hb : Binds X.K fd ps []) (hx : Passes CX X (fun _ _ _ => False)) (hg : Gl X x) (hm : X.mg x = some (.ref C))
    (hdb : (x == ("__debug__" : Str)) = false := by decide) : L2N.PMk X (.Call (.Name x p) [] [] pos) (tMkO C sp [] tNil) := by
  intro pins s1 σ H1 Q I1 h
  obtain ⟨hz, q1⟩ := (show (([] : List V).length ≤ 1000 ∧ _) from h)
  obtain ⟨nm, q, N, bs, bm, sn, sub, ab, col, dd, k0, k1, k2, k3, k5, hC, hbm⟩ := T.cls
  refine wpAny_Call_Name_kw (ld_glob I1 hg hm ?_ hdb)
  refine PySem.W.callWith_K0 I1.kIn T.kC ?_
  obtain ⟨hp, g, dr, tk, os⟩ := s1
  generalize ea0 : hp.objs.size + 1 = a0
  have le0 : hp.objs.size ≤ a0 := by omega
  have free0 : H1 a0 = none := I1.hok.fresh le0
  have hq := q1 a0 free0
  have keep0 : ∀ b o, hp.get? b = some o → ((hp.push (PySem.W.kdv_tup [])).push (PySem.HandSPX.excO C hp.objs.size)).get? b = some o := fun b o e => Heap.get?_push_of_some _ (Heap.get?_push_of_some _ e)
  have get0 : ((hp.push (PySem.W.kdv_tup [])).push (PySem.HandSPX.excO C hp.objs.size)).get? a0 = some (PySem.HandSPX.excO C hp.objs.size) := by
    rw [← ea0]
    heap_get
  have I2 := I1.laid (t' := tk) (a := a0) (o := exo a0 C none) keep0 le0 (exo_ok get0)
  have r2 : Vals [V.ref a0] [Value.ref a0] := .cons rfl .nil
  have hl : ([Value.ref a0] ++ []).length = ps.length := (r2.length).symm.trans (F1.len _ _ _ _ hq)
  have hus : ([] : List Value).length ≤ sizeLine := Nat.zero_le _
  subst ea0
  refine wpAny_call (PySem.HandSPX.call_own F.excBase_ValueError (fun Y => PySem.HandSPX.refsVE_contains Y bm hbm) (I1.kIn _ _ hC) (PySem.W.looks_findIn I1.kIn iC) (fun self => PySem.W.bind_fn I1.kIn self tI) hus
    (codeAny_mono (F1.run _ X.stack _ _ ⟨[Value.ref (hp.objs.size + 1)], []⟩ _ _ _ (fun _ _ _ => False) (hr.make C [] []) (I2.env0.make C [] []) (hb _ _ I2.kIn hl) r2 hq) fun r s' hq' => ?_))
  cases r with
  | error er => exact hx pins σ _ _ er s' I2 hq'
  | ok fl =>
    cases fl with
    | ret u =>
      obtain ⟨v, H2, os2, bare2, un2, hok2, rv, ev, d, fs, ea, ed, hd1, q2⟩ := hq'
      subst ev
      obtain ⟨h2, g2, d2, t2, os'⟩ := s'
      obtain ⟨t0, G, J, kG, ge, hoe, na⟩ := mk_end0 (d2 := d2) (t2 := t2) I1 le0 keep0 un2 hok2 os2 bare2 ea ed hd1
      refine ⟨rv, _, _, _, ⟨G, g2, d2, t2, os'⟩, _, .ref C, some d, rfl, J, kG, ge, hoe, ⟨rfl, rfl, fun ws hv => ?_⟩, rfl, rfl, na, rfl, bare2, raises_own T.exC T.tyC, q2⟩
      cases hv
      rfl
    | _ => exact hq'.elim
end Sw
set_option Elab.async false
set_option linter.all false
set_option maxRecDepth 100000
set_option maxHeartbeats 2000000
namespace Sw
open PySem PySem.Spec PyProof.Rows L2 He
/-! ### a def that keeps its promise, as its callers ask for it -/
/-- the def at f keeps sp, by at most k calls one in another; its callers hand over every parameter -/
def Cal (P : Program) (w : World) (K : PySem.W.Frag) (mg : Str → Option Value) (base : Heap) (CX : CXT) (k : Nat) (f : Addr) (ps : List Str) (sp : Sp) : Prop := ∃ fd, FnOk P w K mg base CX k f fd ps sp ∧ PySem.W.keepIn K (.ref f) = true ∧ L2.Binds K fd ps []
section
variable {X : Cx} {CX : CXT} {k : Nat} {f C : Addr} {ps : List Str} {sp : Sp} {E : XK} {x m : Str} {p pos apos : Pos} {e o : Expr} {es : List Expr} {ta : TE} {t : TA}
theorem pe_callC (F : Cal X.prog X.w X.K X.mg X.base CX k f ps sp) (hr : Room k X.A) (hg : Gl X x) (hm : X.mg x = some (.ref f)) (hx : Passes CX X E)
    (ha : PA X (e :: es) t) (hdb : (x == ("__debug__" : Str)) = false := by decide) (he : starEach (e :: es) X.env = (false, eval e X.env) :: starEach es X.env := by rfl) (hpl : (backTo pos (starEach es X.env)).any (·.1) = false := by rfl) :
    PE X (.Call (.Name x p) (e :: es) [] pos) (tCall sp [] E t) := by
  obtain ⟨fd, F, hk, hb⟩ := F
  exact pe_call F hr hg hm hk hb .nil hx ha hdb he hpl
theorem pe_makeC (M : Mk X.K C f) (F : Cal X.prog X.w X.K X.mg X.base CX k f ps sp) (hr : Room (k + 1) X.A) (hg : Gl X x) (hm : X.mg x = some (.ref C)) (hx : Passes CX X E)
    (ha : PA X (e :: es) t) (hdb : (x == ("__debug__" : Str)) = false := by decide) (he : starEach (e :: es) X.env = (false, eval e X.env) :: starEach es X.env := by rfl) (hpl : (backTo pos (starEach es X.env)).any (·.1) = false := by rfl) :
    PE X (.Call (.Name x p) (e :: es) [] pos) (tMake C sp [] E t) := by
  obtain ⟨fd, F, hk, hb⟩ := F
  exact pe_make M F hr hg hm hb .nil hx ha hdb he hpl
theorem pe_clfnC {pl : Sem Bool} (F : Cal X.prog X.w X.K X.mg X.base CX k f ps sp) (c : ClFn X.K C m f) (hr : Room k X.A) (hg : Gl X x) (hm : X.mg x = some (.ref C))
    (hx : Passes CX X E) (ha : PA X (e :: es) t)
    (hdb : (x == ("__debug__" : Str)) = false := by decide) (hst : starEach (e :: es) X.env = (false, eval e X.env) :: starEach es X.env := by rfl) (hpl : (backTo pos (starEach es X.env)).any (·.1) = false := by rfl)
    (ht : eval (.Call (.Attribute (.Name x p) m apos) (e :: es) [] pos) X.env = (do
      let ov ← eval (.Name x p) X.env
      standAt apos.atName
      let (f, first) ← holding [ov] (getMethod ov m pl)
      callWith pos f first (backTo pos (starEach (e :: es) X.env)) (backToKw pos (keywordEach [] X.env))) := by rfl) :
    PE X (.Call (.Attribute (.Name x p) m apos) (e :: es) [] pos) (tCall sp [] E t) := by
  obtain ⟨fd, F, hk, hb⟩ := F
  exact pe_clfn hg hm c F hr hk hb .nil hx ha hdb hst hpl ht
end
section
variable {X : Cx} {CX : CXT} {k : Nat} {f : Addr} {ps : List Str} {sp : Sp} {E : XK}
theorem op_ownC {op : Operator} (F : Cal X.prog X.w X.K X.mg X.base CX k f ps sp) (hr : Room k X.A) (hx : Passes CX X E) (hc : X.calm = true) (hn : (dunderR op.info.2).length ≤ 100 := by decide) : OpR X (binaryOp op) (rOwn X.K op.info.2 f sp E) := by
  obtain ⟨fd, F, hk, hb⟩ := F
  exact op_own F hr hb hx hc hn
theorem op_ownIC {op : Operator} (F : Cal X.prog X.w X.K X.mg X.base CX k f ps sp) (hr : Room k X.A) (hx : Passes CX X E) : OpR X (binaryOp op) (rOwnI X.K op.info.2 f sp E) := by
  obtain ⟨fd, F, hk, hb⟩ := F
  exact op_ownI F hr hb hx
theorem un_ownC (F : Cal X.prog X.w X.K X.mg X.base CX k f ps sp) (hr : Room k X.A) (hx : Passes CX X E) : UnR X (unaryOp .USub) (rOwnN X.K f sp E) := by
  obtain ⟨fd, F, hk, hb⟩ := F
  exact un_own F hr hb hx
end
end Sw
set_option Elab.async false
set_option linter.all false
set_option maxRecDepth 100000
set_option maxHeartbeats 2000000
namespace K1
open PySem PySem.Spec PyProof.Rows L2 He Sw
/-! ### the text by places -/
def top (i : Nat) : Stmt := PySem.Challenge.pw_samewords_k01_kinds_and_things.main.body.getD i (.Pass ⟨0, 0, 0, 0⟩)
abbrev sIsInt : Stmt := top 13
abbrev sIsRow : Stmt := top 14
abbrev sIsName : Stmt := top 15
abbrev sIsShift : Stmt := top 16
abbrev sCkName : Stmt := top 17
abbrev sCkShift : Stmt := top 18
abbrev sForm : Stmt := inClass (top 24) 0
abbrev sAdd : Stmt := inClass (top 24) 4
abbrev sSub : Stmt := inClass (top 24) 5
abbrev sMul : Stmt := inClass (top 24) 6
abbrev sNeg : Stmt := inClass (top 24) 7
abbrev sShl : Stmt := inClass (top 24) 8
abbrev sNum : Stmt := inClass (top 25) 0
abbrev sName : Stmt := inClass (top 26) 0
abbrev sSum : Stmt := inClass (top 27) 0
abbrev sCall : Stmt := inClass (top 28) 0
abbrev sCkForm : Stmt := top 29
abbrev sInner : Stmt := top 30
abbrev sIx : Stmt := top 31
abbrev sLInt : Stmt := top 33
abbrev sDraw : Stmt := top 34
abbrev sLarge : Stmt := top 35
abbrev sNames : Stmt := top 36
abbrev sLeaf : Stmt := top 37
abbrev sBound : Stmt := top 38
abbrev sTree : Stmt := top 39
abbrev sMade : Stmt := top 40
abbrev sSame : Stmt := top 41
abbrev sInside : Stmt := top 42
abbrev sSize : Stmt := top 43
abbrev sSizes : Stmt := top 44
abbrev sLaw : Stmt := top 45
/-! ### what the head tells -/
def dF (x : Str) (st : Stmt) : DefD := ⟨(x, none), x, x, defArgs st, defBody st, defScope st, [], []⟩
def dM (c m q : Str) (st : Stmt) (dfl : List Dv) : DefD := ⟨(c, some m), m, q, defArgs st, defBody st, defScope st, dfl, []⟩
def fn : List DefD := [dF "is_integer" sIsInt, dF "is_row" sIsRow, dF "is_name" sIsName, dF "is_shift" sIsShift, dF "check_name" sCkName, dF "check_shift" sCkShift,
  dM "Formula" "__init__" "Formula.__init__" sForm [], dM "Formula" "__add__" "Formula.__add__" sAdd [], dM "Formula" "__sub__" "Formula.__sub__" sSub [], dM "Formula" "__mul__" "Formula.__mul__" sMul [], dM "Formula" "__neg__" "Formula.__neg__" sNeg [], dM "Formula" "__lshift__" "Formula.__lshift__" sShl [],
  dM "Number" "__init__" "Number.__init__" sNum [], dM "Name" "__init__" "Name.__init__" sName [], dM "Sum" "__init__" "Sum.__init__" sSum [], dM "Call" "__init__" "Call.__init__" sCall [],
  dF "check_formula" sCkForm, dF "inner_formulas" sInner, dF "index_names" sIx,
  dF "_law_is_integer" sLInt, dF "_law_draw" sDraw, dF "_law_large" sLarge, dF "_law_names" sNames, dF "_law_leaf" sLeaf, dF "_law_bound" sBound, dF "_law_tree" sTree, dF "_law_made" sMade, dF "_law_same" sSame, dF "_law_inside" sInside, dF "_law_size" sSize, dF "_law_sizes" sSizes,
  dF "law" sLaw]
def gloA : List Str := ["NO_NAMES", "is_integer", "is_row", "is_name", "is_shift", "check_name", "check_shift", "Formula", "Number", "Name", "Sum", "Call", "check_formula", "inner_formulas", "index_names"]
def gloB : List Str := ["_law_is_integer", "_law_draw", "_law_large", "_law_names", "_law_leaf", "_law_bound", "_law_tree", "_law_made", "_law_same", "_law_inside", "_law_size", "_law_sizes", "law"]
def gloL : List Str := gloA ++ gloB
def freeL : List Str := ["isinstance", "int", "bool", "str", "len", "all", "sum", "max", "range", "abs", "list", "tuple"]
def clsL : List Str := ["Formula", "Number", "Name", "Sum", "Call"]
def clsS : List String := ["Formula", "Number", "Name", "Sum", "Call"]
def fldL : List Str := ["kind", "things", "parts", "depth"]
def binL : List String := ["add", "sub", "mul"]
def kitB2 (K : PySem.W.Frag) (a b : Str) (r : Bool) : Bool := decide (PySem.W.kitOne K (.ref (ga K a)) (.ref (ga K b)) = some r)
/-- an own class whose instances isinstance may ask -/
def insB (K : PySem.W.Frag) (C : Addr) : Bool := eqO (PySem.W.findIn K (.ref C) "__class__") (some (some (.builtin "object.__class__"))) && (eqO (PySem.W.specialIn K (.builtin "object.__class__") "__get__") (some (some (.builtin "getset_descriptor.__get__"))) &&
  (decide (PySem.W.takesIn K (.builtin "object.__class__") = some true) && decide (PySem.W.mroIn K C (.type "object") = some true)))
def noClsB (K : PySem.W.Frag) (C : Addr) (name : Str) (z : String) : Bool := PySem.W.readsIn K C (.type "type") && (eqO (PySem.W.findIn K (.type "type") name) (some none) && (eqO (PySem.W.findIn K (.ref C) name) (some none) && nameB K C z))
def mF (K : PySem.W.Frag) (m : Str) : Addr := ma K (ga K "Formula") m
def opB (K : PySem.W.Frag) (C : Addr) (nm z : String) : Bool := PySem.W.selfFirst K C && (eqO (PySem.W.findIn K (.ref C) (PySem.dunder nm)) (some (some (.ref (mF K (PySem.dunder nm))))) && (PySem.W.isFn K (.ref (mF K (PySem.dunder nm))) && noClsB K C (dunderR nm) z))
def shlB (K : PySem.W.Frag) (C : Addr) : Bool := PySem.W.selfFirst K C && (eqO (PySem.W.findIn K (.ref C) (PySem.dunder "lshift")) (some (some (.ref (mF K (PySem.dunder "lshift"))))) && (PySem.W.isFn K (.ref (mF K (PySem.dunder "lshift"))) && (eqO (PySem.W.findIn K (.ref C) (dunderR "lshift")) (some none) &&
  (((PySem.W.findIn K (.type "int") (PySem.dunder "lshift")).isSome && (PySem.W.findIn K (.type "int") (dunderR "lshift")).isSome) && decide (PySem.W.subIn K (.type "int") (.ref C) = some false)))))
def negB (K : PySem.W.Frag) (C : Addr) : Bool := eqO (PySem.W.findIn K (.ref C) "__neg__") (some (some (.ref (mF K "__neg__")))) && PySem.W.isFn K (.ref (mF K "__neg__"))
def noNames : List Str := ["width", "in", "def", "let", "if", "then", "else", "out", "sum"]
def fa : List Fb := [
  fun K => gloL.all fun x => (Fa.glo x).ok K,
  fun K => freeL.all fun x => (Fa.free x).ok K,
  fun K => clfnB K (ga K "Formula") "__init__",
  fun K => (Fa.str "LETTERS" "abcdefghijklmnopqrstuvwxyz").ok K,
  fun K => (Fa.int "MOST_LETTERS" 8).ok K,
  fun K => (Fa.int "MOST_PARTS" 300).ok K,
  fun K => (Fa.int "MOST_DEPTH" 40).ok K,
  fun K => (Fa.int "NUMBER_END" (10 ^ 30)).ok K,
  fun K => (Fa.int "MOST_SHIFT" 64).ok K,
  fun K => (Fa.int "MOST_THINGS" 4).ok K,
  fun K => tupB K "NO_NAMES" (noNames.map Dv.str),
  fun K => clsL.all fun x => (Fa.cls x).ok K && ((Fa.mkr x).ok K && insB K (ga K x)),
  fun K => clsL.all fun x => fldL.all fun f => (Fa.noat x f).ok K,
  fun K => clsL.all fun x => clsL.all fun y => kitB2 K x y (decide (x = y) || decide (y = "Formula")),
  fun K => clsS.all fun z => binL.all fun nm => opB K (ga K (Str.ofString z)) nm z,
  fun K => clsL.all fun x => clsL.all fun y => (PySem.W.subIn K (.ref (ga K y)) (.ref (ga K x))).isSome,
  fun K => clsL.all fun x => shlB K (ga K x),
  fun K => clsL.all fun x => negB K (ga K x)]
abbrev R : PySem.W.OpenRow := PySem.W.OpenLaw.row PySem.Challenge.rw_samewords_k01_kinds_and_things
abbrev hk : PySem.W.Hook := hookF 6 fa fn
def ob (s : PySem.W.SharedT) : AlD := obsFG 6 fa fn (HandSHeadRun.getT s)
theorem ob_eq (s : PySem.W.SharedT) : ob s = hk.obs s.abs := obsFG_eq (HandSHeadRun.getT_eq s)
def loose1 : List Str := ["_wall", "__name__", "SameError", "BadName", "BadNumber", "BadBound", "BadFormula", "TooMany", "LETTERS", "NO_NAMES", "MOST_LETTERS", "MOST_SHIFT", "is_integer", "is_row", "is_name", "is_shift", "check_name", "check_shift", "MOST_PARTS", "MOST_DEPTH", "MOST_THINGS", "NUMBER_END"]
def loose2 : List Str := ["Formula", "Number", "Name", "Sum", "Call", "check_formula", "inner_formulas", "index_names", "_law_is_integer", "_law_draw", "_law_large", "_law_names", "_law_leaf", "_law_bound", "_law_tree", "_law_made", "_law_same", "_law_inside", "_law_size", "_law_sizes"]
end K1
set_option Elab.async false
set_option linter.all false
set_option maxRecDepth 100000
set_option maxHeartbeats 0
namespace K1
open PySem PySem.Spec PyProof.Rows L2 He Sw
theorem run (w : World) : HandSHeadRun.RunEq R (PySem.W.view R.prog [45]) hk ob 5000 (loose1 ++ loose2) w := by
  intro os
  kernel_rfl
end K1
set_option Elab.async false
set_option linter.all false
set_option maxRecDepth 100000
set_option maxHeartbeats 2000000
namespace K1
open PySem PySem.Spec PyProof.Rows L2 He Sw
/-! ### what the defs lean on -/
structure InsT (K : PySem.W.Frag) (C : Addr) : Prop where
  cl : Cls K C
  mkr : Mk K C (ma K C "__init__")
  ha : PySem.W.findIn K (.ref C) "__class__" = some (some (.builtin "object.__class__"))
  hn : PySem.W.specialIn K (.builtin "object.__class__") "__get__" = some (some (.builtin "getset_descriptor.__get__"))
  ht : PySem.W.takesIn K (.builtin "object.__class__") = some true
  hm : PySem.W.mroIn K C (.type "object") = some true
  no : ∀ f ∈ fldL, NoAttr K C f
structure Txt (K : PySem.W.Frag) (mg : Str → Option Value) : Prop where
  glo : ∀ x ∈ gloL, mg x = some (.ref (ga K x))
  fre : ∀ x ∈ freeL, mg x = none
  foI : ClFn K (ga K "Formula") "__init__" (ma K (ga K "Formula") "__init__")
  let_ : ∃ t, mg "LETTERS" = some (.str "abcdefghijklmnopqrstuvwxyz" t)
  mLet : ∃ t, mg "MOST_LETTERS" = some (.int 8 t)
  mPar : ∃ t, mg "MOST_PARTS" = some (.int 300 t)
  mDep : ∃ t, mg "MOST_DEPTH" = some (.int 40 t)
  nEnd : ∃ t, mg "NUMBER_END" = some (.int (10 ^ 30) t)
  mShf : ∃ t, mg "MOST_SHIFT" = some (.int 64 t)
  mThg : ∃ t, mg "MOST_THINGS" = some (.int 4 t)
  noN : ∀ H : Hp, SqT K H (ga K "NO_NAMES") (noNames.map V.str)
  ins : ∀ x ∈ clsL, InsT K (ga K x)
  kit : ∀ x ∈ clsL, ∀ y ∈ clsL, PySem.W.kitOne K (.ref (ga K x)) (.ref (ga K y)) = some (decide (x = y) || decide (y = "Formula"))
  bin : ∀ x ∈ clsL, ∀ y ∈ clsL, ∀ nm ∈ binL, BinP K nm (ga K x) (ga K y) (mF K (PySem.dunder nm))
  shl : ∀ x ∈ clsL, BinT K "lshift" (ga K x) (mF K (PySem.dunder "lshift")) "int"
  neg : ∀ x ∈ clsL, NegP K (ga K x) (mF K "__neg__")
section
variable {P : Program} {w : World} {K : PySem.W.Frag} {mg : Str → Option Value} {base : Heap}
theorem Txt.g (T : Txt K mg) (x : Str) (h : x ∈ gloL := by decide +kernel) : mg x = some (.ref (ga K x)) := T.glo x h
theorem Txt.f (T : Txt K mg) (x : Str) (h : x ∈ freeL := by decide +kernel) : mg x = none := T.fre x h
/-- a def of the text -/
abbrev FnM (K : PySem.W.Frag) (c q : Str) (st : Stmt) (dvs : List V) (fd : FuncData) : Prop := FunD K "__init__" q (defArgs st) (defBody st) (defScope st) dvs [] (ma K (ga K c) "__init__") fd
abbrev FnG (K : PySem.W.Frag) (x : Str) (st : Stmt) (fd : FuncData) : Prop := FunD K x x (defArgs st) (defBody st) (defScope st) [] [] (ga K x) fd

/-! ### the things that are handed in -/
inductive Th (H : Hp) : V → String → Prop
  | non : Th H .non "NoneType"
  | bl (b : Bool) : Th H (.bl b) "bool"
  | int (i : Int) : Th H (.int i) "int"
  | str (z : Str) (h : z.length ≤ 100) : Th H (.str z) "str"
  | tup (a : Addr) (e : H a = some (.tup [.str "x"])) : Th H (.ref a) "tuple"
  | lst (a : Addr) (e : H a = some (.lst [.str "x"])) : Th H (.ref a) "list"
  | dct (a : Addr) (e : H a = some (.dK [(.inr "x", .int 1)])) : Th H (.ref a) "dict"
theorem Th.ty {H : Hp} {v : V} {n : String} (t : Th H v n) : TyX K H v (.type n) := by
  cases t with
  | non => exact .base .non
  | bl b => exact .base (.bl b)
  | int i => exact .base (.int i)
  | str z h => exact .base (.str z)
  | tup a e => exact .base (.tup e)
  | lst a e => exact .base (.lst e)
  | dct a e => exact .base (.dK e)
theorem Th.same {H H' : Hp} {v : V} {n : String} (t : Th H v n) (s : Same H H') : Th H' v n := by
  cases t with
  | non => exact .non
  | bl b => exact .bl b
  | int i => exact .int i
  | str z h => exact .str z h
  | tup a e => exact .tup a (s _ _ e)
  | lst a e => exact .lst a (s _ _ e)
  | dct a e => exact .dct a (s _ _ e)
def isI : V → Bool
  | .int _ => true
  | _ => false
def isS : V → Bool
  | .str _ => true
  | _ => false
def isB : V → Bool
  | .bl _ => true
  | _ => false
theorem Th.kInt {H : Hp} {v : V} {n : String} (t : Th H v n) : PySem.W.kitOne K (.type n) (.type "int") = some (isI v || isB v) := by
  cases t <;> first
    | exact kit_ty (show kitB _ _ = some true by decide +kernel)
    | exact kit_ty (show kitB _ _ = some false by decide +kernel)
theorem Th.kBool {H : Hp} {v : V} {n : String} (t : Th H v n) : PySem.W.kitOne K (.type n) (.type "bool") = some (isB v) := by
  cases t <;> first
    | exact kit_ty (show kitB _ _ = some true by decide +kernel)
    | exact kit_ty (show kitB _ _ = some false by decide +kernel)
theorem Th.kStr {H : Hp} {v : V} {n : String} (t : Th H v n) : PySem.W.kitOne K (.type n) (.type "str") = some (isS v) := by
  cases t <;> first
    | exact kit_ty (show kitB _ _ = some true by decide +kernel)
    | exact kit_ty (show kitB _ _ = some false by decide +kernel)

/-! ### is_integer, the law's own too -/
def spIsInt : Sp := fun vs H Q _ => ∃ (v : V) (n : String), vs = [v] ∧ Th H v n ∧ Q (.bl (isI v)) H
theorem scIsInt : FnScope ["thing"] ["thing"] (defScope sIsInt) := ⟨rfl, rfl, rfl, by decide +kernel, rfl, by decide +kernel, by decide +kernel⟩
theorem ok_isInt {fd : FuncData} (T : Txt K mg) (F : FnG K "is_integer" sIsInt fd) : FnOk P w K mg base CX0 1 (ga K "is_integer") fd ["thing"] spIsInt := by
  refine F.ok scIsInt (fun vs H Q E h => ?_) (fun cdv A outer s H vs Q E hr h => ?_)
  · obtain ⟨v, n, rfl, _⟩ := h
    rfl
  obtain ⟨v, n, rfl, t, k⟩ := h
  refine ⟨_, pss_one (ps_ret (pe_and (pe_callB call_isi rfl (T.f "isinstance") (by decide +kernel) (pa_cons (pv 0) (pa_cons (pe_bltn (v := .ty "int") rfl (T.f "int") (by decide +kernel) rfl) pa_nil)))
    (pe_one (pe_not (pe_callB call_isi rfl (T.f "isinstance") (by decide +kernel) (pa_cons (pv 0) (pa_cons (pe_bltn (v := .ty "bool") rfl (T.f "bool") (by decide +kernel) rfl) pa_nil))))))), ?_⟩
  refine ⟨_, rfl, v, .ty "int", .type n, .type "int", _, rfl, .ty _, t.ty, t.kInt, _, rfl, ?_⟩
  refine ite2 (fun h => ?_) (fun h => ?_)
  · refine ⟨_, rfl, v, .ty "bool", .type n, .type "bool", _, rfl, .ty _, t.ty, t.kBool, _, rfl, ?_⟩
    have e : (!isB v) = isI v := by cases t <;> first | rfl | cases h
    rw [e]
    exact k
  · have e : isI v = false := by cases t <;> first | rfl | exact absurd rfl h
    rw [e] at k
    exact k
theorem scLInt : FnScope ["_law_thing"] ["_law_thing"] (defScope sLInt) := ⟨rfl, rfl, rfl, by decide +kernel, rfl, by decide +kernel, by decide +kernel⟩
theorem ok_lInt {fd : FuncData} (T : Txt K mg) (F : FnG K "_law_is_integer" sLInt fd) : FnOk P w K mg base CX0 1 (ga K "_law_is_integer") fd ["_law_thing"] spIsInt := by
  refine F.ok scLInt (fun vs H Q E h => ?_) (fun cdv A outer s H vs Q E hr h => ?_)
  · obtain ⟨v, n, rfl, _⟩ := h
    rfl
  obtain ⟨v, n, rfl, t, k⟩ := h
  refine ⟨_, pss_one (ps_ret (pe_and (pe_callB call_isi rfl (T.f "isinstance") (by decide +kernel) (pa_cons (pv 0) (pa_cons (pe_bltn (v := .ty "int") rfl (T.f "int") (by decide +kernel) rfl) pa_nil)))
    (pe_one (pe_not (pe_callB call_isi rfl (T.f "isinstance") (by decide +kernel) (pa_cons (pv 0) (pa_cons (pe_bltn (v := .ty "bool") rfl (T.f "bool") (by decide +kernel) rfl) pa_nil))))))), ?_⟩
  refine ⟨_, rfl, v, .ty "int", .type n, .type "int", _, rfl, .ty _, t.ty, t.kInt, _, rfl, ?_⟩
  refine ite2 (fun h => ?_) (fun h => ?_)
  · refine ⟨_, rfl, v, .ty "bool", .type n, .type "bool", _, rfl, .ty _, t.ty, t.kBool, _, rfl, ?_⟩
    have e : (!isB v) = isI v := by cases t <;> first | rfl | cases h
    rw [e]
    exact k
  · have e : isI v = false := by cases t <;> first | rfl | exact absurd rfl h
    rw [e] at k
    exact k
end
end K1
set_option Elab.async false
set_option linter.all false
set_option maxRecDepth 100000
set_option maxHeartbeats 2000000
namespace Sw
open PySem PySem.Spec PyProof.Rows L2
/-- [f(c) for c in z], the element changes nothing -/
theorem lc_mapS {i : Nat} {z : Str} {f : Nat → V} {te : TE} {σ : L2.St} {H1 : Hp} {D : Addr} {Qd : Hp → Prop} (hz : z.length ≤ 1000)
    (ht : ∀ (c : Nat) (H : Hp) (Q : VK), Q (f c) H → te ((wipe σ [i]).set i (some (.str ⟨#[c]⟩))) H Q) (hd : Qd (upd H1 D (.lst (z.cps.toList.map f)))) :
    ∃ W : Nat → Nat → Hp → Prop, (∃ m, W 0 m (upd H1 D (.lst []))) ∧ ∀ j m H, W j m H →
      ((Its z).stop j H ∧ Qd H) ∨ ((Its z).go j H ∧ ∃ Nx : Hp → Prop, (∀ H', Nx H' → ∃ m', m' < m ∧ W (j + 1) m' H') ∧ ∀ x H', (Its z).yld j H x H' → gName i x (wipe σ [i]) H' fun σ2 H2 => wipe σ2 [i] = wipe σ [i] ∧ tYes σ2 H2 fun b H3 =>
        if b = true then te σ2 H3 fun y H4 => ∃ acc, H4 D = some (.lst acc) ∧ acc.length < sizeLine ∧ Nx (upd H4 D (.lst (acc ++ [y]))) else Nx H3) := by
  have hsz : z.cps.size ≤ 1000 := hz
  have updd : ∀ (o o' : HO), upd (upd H1 D o) D o' = upd H1 D o' := fun o o' => by
    funext b
    by_cases hb : b = D
    · rw [hb, upd_same, upd_same]
    · rw [upd_ne hb, upd_ne hb, upd_ne hb]
  refine lc_it walk_str (fun j H => H = upd H1 D (.lst ((z.cps.toList.take j).map f))) (by simp) (fun _ _ _ _ => trivial) ?_ ?_
  · rintro j x H H' hj rfl ⟨rfl, c, hc, rfl⟩
    have hc2 : z.cps.toList[j]? = some c := by rw [Array.getElem?_toList]; exact hc
    refine ⟨by simp [wipe], ?_⟩
    refine ht c (upd H1 D (.lst ((z.cps.toList.take j).map f))) _ ⟨_, upd_same, ?_, ?_⟩
    · rw [List.length_map, List.length_take, sizeLine_eq]
      omega
    · show upd (upd H1 D _) D _ = _
      rw [updd, List.take_add_one, hc2]
      simp
  · rintro H rfl
    have e : z.cps.toList.take z.cps.size = z.cps.toList := List.take_of_length_le (by simp)
    rw [e]
    exact hd
end Sw
namespace K1
open PySem PySem.Spec PyProof.Rows L2 He Sw
section
variable {P : Program} {w : World} {K : PySem.W.Frag} {mg : Str → Option Value} {base : Heap}
abbrev LET : Str := "abcdefghijklmnopqrstuvwxyz"
/-- a text of small letters alone -/
def low (z : Str) : Bool := z.cps.toList.all fun c => decide (c ∈ LET.cps.toList)
def isNmS (z : Str) : Bool := decide ((1 : Int) ≤ (z.length : Nat)) && (decide (((z.length : Nat) : Int) ≤ 8) && (!inV (.str z) (noNames.map V.str) && low z))
def isNm : V → Bool
  | .str z => isNmS z
  | _ => false
def spIsName : Sp := fun vs H Q _ => ∃ (v : V) (n : String), vs = [v] ∧ Th H v n ∧ ∀ H', Same H H' → Q (.bl (isNm v)) H'
theorem scIsName : FnScope ["thing", "letter"] ["thing"] (defScope sIsName) := ⟨rfl, rfl, rfl, by decide +kernel, rfl, by decide +kernel, by decide +kernel⟩
theorem noN_flat : (noNames.map V.str).all flatV = true := rfl
theorem ok_isName {fd : FuncData} (T : Txt K mg) (F : FnG K "is_name" sIsName fd) : FnOk P w K mg base CX0 1 (ga K "is_name") fd ["thing"] spIsName := by
  refine F.ok scIsName (fun vs H Q E h => ?_) (fun cdv A outer s H vs Q E hr h => ?_)
  · obtain ⟨v, n, rfl, _⟩ := h
    rfl
  obtain ⟨v, n, rfl, t, k⟩ := h
  obtain ⟨tL, hL⟩ := T.let_
  obtain ⟨t8, h8⟩ := T.mLet
  have nd := scIsName.nd
  refine ⟨_, PSs.nox (pss_cons (ps_if (PW.pt (pw_or (pt_not (pt_val (pe_callB call_isi rfl (T.f "isinstance") (by decide +kernel) (pa_cons (pv 0) (pa_cons (pe_bltn (v := .ty "str") rfl (T.f "str") (by decide +kernel) rfl) pa_nil)))))
      (pw_or1 (pt_not (pt_chain op_le op_le pe_int (pe_callB call_len_str rfl (T.f "len") (by decide +kernel) (pa_cons (pv 0) pa_nil)) (pe_glob (v := .int 8) rfl h8 ⟨_, rfl⟩))))))
      (pss_one (ps_ret pe_bl)) pss_nil)
    (pss_one (ps_ret (pe_and (pe_cmpR op_notIn_seq (pv 0) (pe_glob (v := .ref (ga K "NO_NAMES")) rfl (T.g "NO_NAMES") rfl) rfl)
      (pe_one (pe_callB (cr_all rfl) rfl (T.f "all") (by decide +kernel) (pa_cons (pe_lc (own := [("letter", 1)]) (g := gName 1) (tt := tYes) rfl nd (pi_str (pv 0))
        (blkOk_by (N := ["thing", "letter"]) (sc := defScope sIsName) (by decide +kernel)) (fun _ _ _ _ _ => pg_name (i := 1) nd rfl (Or.inl rfl)) (fun _ _ _ _ _ => pts_nil)
        (fun _ _ _ _ _ => pe_cmpR op_in_sign (pv 1) (pe_glob (v := .str LET) rfl hL ⟨_, rfl⟩) rfl)) pa_nil))))))), ?_⟩
  refine ⟨_, rfl, v, .ty "str", .type n, .type "str", _, rfl, .ty _, t.ty, t.kStr, _, rfl, ?_⟩
  refine ite2 (fun h => ?_) (fun h => ?_)
  · -- no text
    refine ite2 (fun _ => ?_) (fun h2 => absurd rfl h2)
    have e : isNm v = false := by cases t <;> first | rfl | cases h
    have q := k H (Same.refl H)
    rw [e] at q
    exact q
  · obtain ⟨z, rfl, hz⟩ : ∃ z, v = V.str z ∧ z.length ≤ 100 := by
      cases t <;> first | exact absurd rfl h | skip
      rename_i z hz
      exact ⟨z, rfl, hz⟩
    refine ⟨_, rfl, z, rfl, (by rw [sizeLine_eq]; omega), _, _, rfl, rfl, _, rfl, ?_⟩
    have fin : ∀ (b : Bool), b = isNmS z → ∀ H', Same H H' → Q (.bl b) H' := fun b e H' s => by
      rw [e]
      exact k H' s
    have back : ∀ h1 : ¬ ((decide ((1 : Int) ≤ (z.length : Nat)) && decide (((z.length : Nat) : Int) ≤ 8)) = true), isNmS z = false := fun h1 => by
      unfold isNmS
      rw [← Bool.and_assoc, Bool.eq_false_iff.mpr h1, Bool.false_and]
    -- 1 <= len(thing) <= MOST_LETTERS
    have rest : (decide ((1 : Int) ≤ (z.length : Nat)) && decide (((z.length : Nat) : Int) ≤ 8)) = true → tAndV (tOp (rIn K true) (tVar 0) (tC (V.ref (ga K "NO_NAMES")))) (tCB (rAll K) (tCons (tLc (iStr (tVar 0)) (gName 1) tYes
        (tOp (fun x y H Q => ∃ c z, x = V.str { cps := #[c] } ∧ y = V.str z ∧ Q (V.bl (decide (c ∈ z.cps.toList))) H) (tVar 1) (tC (V.str LET))) [1]) tNil)) (L2.start ["thing", "letter"] [V.str z]) H Q := fun h1 => by
      have e1 : isNmS z = (!inV (.str z) (noNames.map V.str) && low z) := by
        unfold isNmS
        rw [← Bool.and_assoc, h1, Bool.true_and]
      refine ⟨_, rfl, _, _, rfl, .inr (T.noN H), rfl, noN_flat, _, rfl, ?_⟩
      refine ite2 (fun h2 => ?_) (fun h2 => ?_)
      · refine ⟨_, rfl, z, rfl, fun D hD => ?_⟩
        refine lc_mapS (f := fun c => V.bl (decide (c ∈ LET.cps.toList))) (by omega) (fun c H Q q => ⟨_, rfl, c, _, rfl, rfl, q⟩) ?_
        refine ⟨D, z.cps.toList.map fun c => decide (c ∈ LET.cps.toList), rfl, .inl (.inl ?_), ?_⟩
        · rw [upd_same, List.map_map]
          rfl
        · refine fin _ ?_ _ fun b o e => by rw [upd_ne (ne_of_none e hD)]; exact e
          rw [e1, show (!inV (.str z) (noNames.map V.str)) = true from h2, Bool.true_and, List.all_map]
          rfl
      · refine fin false ?_ H (Same.refl H)
        rw [e1, show (!inV (.str z) (noNames.map V.str)) = false from Bool.eq_false_iff.mpr h2, Bool.false_and]
    refine ite2 (fun h1 => ?_) (fun h1 => ?_)
    · refine ⟨_, _, rfl, rfl, _, rfl, ?_⟩
      refine ite2 (fun h2 => ?_) (fun h2 => ?_)
      · refine fin false (back fun y => ?_).symm H (Same.refl H)
        have y2 := (Bool.and_eq_true_iff.mp y).2
        rw [y2] at h2
        cases h2
      · refine rest ?_
        have h2' : decide (((z.length : Nat) : Int) ≤ 8) = true := by
          cases e : decide (((z.length : Nat) : Int) ≤ 8) with
          | true => rfl
          | false => exact absurd (by show (!decide (((z.length : Nat) : Int) ≤ 8)) = true; rw [e]; rfl) h2
        rw [h1, h2']
        rfl
    · refine ⟨_, rfl, ?_⟩
      refine ite2 (fun h2 => ?_) (fun h2 => absurd rfl h2)
      refine fin false (back fun y => h1 (Bool.and_eq_true_iff.mp y).1).symm H (Same.refl H)
end
end K1
set_option Elab.async false
set_option linter.all false
set_option maxRecDepth 100000
set_option maxHeartbeats 4000000
namespace K1
open PySem PySem.Spec PyProof.Rows L2 He Sw
section
variable {P : Program} {w : World} {K : PySem.W.Frag} {mg : Str → Option Value} {base : Heap}
def GoodN (z : Str) : Prop := isNmS z = true ∧ z.length ≤ 100
/-! ### check_name -/
def spCkName : Sp := fun vs H Q _ => ∃ (z : Str), vs = [.str z] ∧ GoodN z ∧ ∀ H', Same H H' → Q .non H'
theorem scCkName : FnScope ["thing"] ["thing"] (defScope sCkName) := ⟨rfl, rfl, rfl, by decide +kernel, rfl, by decide +kernel, by decide +kernel⟩
theorem ok_ckName {fd fdN : FuncData} (T : Txt K mg) (F : FnG K "check_name" sCkName fd) (FN : FnG K "is_name" sIsName fdN) : FnOk P w K mg base CX0 2 (ga K "check_name") fd ["thing"] spCkName := by
  have GN : FnOk P w K mg base CX0 1 (ga K "is_name") fdN ["thing"] spIsName := ok_isName T FN
  have bN : Binds K fdN ["thing"] [] := FN.bindsN fun _ _ _ _ _ _ us hl => match us, hl with | [_], _ => rfl
  refine F.ok scCkName (fun vs H Q E h => ?_) (fun cdv A outer s H vs Q E hr h => ?_)
  · obtain ⟨z, rfl, _⟩ := h
    rfl
  obtain ⟨z, rfl, g, k⟩ := h
  refine ⟨_, PSs.nox (pss_one (ps_if (pt_not (pt_val (pe_call GN hr rfl (T.g "is_name") FN.kp bN .nil pass0 (pa_cons (pv 0) pa_nil)))) (pss_one ps_never) pss_nil)), ?_⟩
  refine ⟨_, rfl, .str z, _, rfl, .str z g.2, fun H' s' => ⟨_, rfl, ?_⟩⟩
  refine ite2 (fun h => ?_) (fun _ => k H' s')
  have h : (!isNmS z) = true := h
  rw [g.1] at h
  cases h
/-! ### Formula.__init__ -/
def flds (kd th : V) (p d : Nat) : List (Str × V) := putF "depth" (.int d) (putF "parts" (.int p) (putF "things" th (putF "kind" kd [])))
/-- all but the object at a is as it was -/
def SameBut (a : Addr) (H H' : Hp) : Prop := ∀ b o, b ≠ a → H b = some o → H' b = some o
/-- a formula: where it stands, its depth, parts, indexes, class, kind and things -/
structure Kd where
  a : Addr
  d : Nat
  p : Nat
  ix : List Str
  C : Str
  kd : Str
  th : List V
def sumP (ks : List Kd) : Nat := (ks.map (·.p)).sum
def maxD : List Kd → Nat
  | [] => 0
  | k :: ks => max k.d (maxD ks)
def KidAt (K : PySem.W.Frag) (H : Hp) (k : Kd) : Prop := ∃ (dx t : Addr), k.C ∈ clsL ∧ H k.a = some (.ins (ga K k.C) dx (flds (.str k.kd) (.ref t) k.p k.d)) ∧ H t = some (.tup k.th)
theorem KidAt.same {H H' : Hp} {k : Kd} (h : KidAt K H k) (s : Same H H') : KidAt K H' k := by
  obtain ⟨dx, t, I, e, e2⟩ := h
  exact ⟨dx, t, I, s _ _ e, s _ _ e2⟩
def refs (ks : List Kd) : List V := ks.map fun k => V.ref k.a
def Fits (ks : List Kd) : Prop := 1 + sumP ks ≤ 300 ∧ 1 + maxD ks ≤ 40
def spForm (K : PySem.W.Frag) : Sp := fun vs H Q _ => ∃ (a C dx e : Addr) (kd th : V) (ks : List Kd), vs = [.ref a, kd, th, .ref e] ∧ H a = some (.ins C dx []) ∧ InsT K C ∧ H e = some (.tup (refs ks)) ∧ (∀ k ∈ ks, KidAt K H k) ∧ ks.length ≤ 10 ∧ Fits ks ∧
  ∀ H', SameBut a H H' → H' a = some (.ins C dx (flds kd th (1 + sumP ks) (1 + maxD ks))) → Q .non H'
theorem scForm : FnScope ["self", "kind", "things", "inner", "parts", "depth", "one"] ["self", "kind", "things", "inner"] (defScope sForm) := ⟨rfl, rfl, rfl, by decide +kernel, rfl, by decide +kernel, by decide +kernel⟩
/-- [one.f for one in inner] -/
theorem lc_kids {ks : List Kd} {f : Str} {g : Kd → Nat} {i : Nat} {e : Addr} {H D : _} {σ : L2.St} {Qd : Hp → Prop} (T : Txt K mg) (he : H e = some (.tup (refs ks))) (hk : ∀ k ∈ ks, KidAt K H k) (hl : ks.length ≤ 10) (hD : H D = none) (hf : f ∈ fldL)
    (hg : ∀ kd th (k : Kd), (flds kd th k.p k.d).lookup f = some (.int (g k))) (hi : ∀ v : V, ((wipe σ [i]).set i (some v))[i]? = some (some v)) (hw : ∀ v : V, wipe ((wipe σ [i]).set i (some v)) [i] = wipe σ [i]) (hd : ∀ H', H' D = some (.lst ((ks.map fun k => ((g k : Nat) : Int)).map V.int)) → Same H H' → Qd H') :
    ∃ W : Nat → Nat → Hp → Prop, (∃ m, W 0 m (upd H D (.lst []))) ∧ ∀ j m H, W j m H →
      ((Itt K e).stop j H ∧ Qd H) ∨ ((Itt K e).go j H ∧ ∃ Nx : Hp → Prop, (∀ H', Nx H' → ∃ m', m' < m ∧ W (j + 1) m' H') ∧ ∀ x H', (Itt K e).yld j H x H' → gName i x (wipe σ [i]) H' fun σ2 H2 => wipe σ2 [i] = wipe σ [i] ∧ tYes σ2 H2 fun b H3 =>
        if b = true then tFld K (tVar i) f σ2 H3 fun y H4 => ∃ acc, H4 D = some (.lst acc) ∧ acc.length < sizeLine ∧ Nx (upd H4 D (.lst (acc ++ [y]))) else Nx H3) := by
  have updd : ∀ (o o' : HO), upd (upd H D o) D o' = upd H D o' := fun o o' => by
    funext b
    by_cases hb : b = D
    · rw [hb, upd_same, upd_same]
    · rw [upd_ne hb, upd_ne hb, upd_ne hb]
  have up : ∀ {o}, Same H (upd H D o) := fun {o} b u e => by rw [upd_ne (ne_of_none e hD)]; exact e
  refine lc_tup (K := K) (a := e) (xs := refs ks) (fun j H' => H' = upd H D (.lst ((ks.take j).map fun k => .int (g k)))) (by simp) (fun j H' _ eH => by rw [eH]; exact SqT.of (up _ _ he)) (fun j x H' hx eH => ?_) (fun H' eH => ?_)
  · subst eH
    obtain ⟨k, hkj, rfl⟩ : ∃ k, ks[j]? = some k ∧ V.ref k.a = x := by
      unfold refs at hx
      rw [List.getElem?_map] at hx
      cases h : ks[j]? with
      | none => rw [h] at hx; cases hx
      | some k => rw [h] at hx; exact ⟨k, rfl, by injection hx⟩
    obtain ⟨dx, t, hC, ek, _⟩ := hk k (List.mem_of_getElem? hkj)
    have I := T.ins _ hC
    refine ⟨hw _, ?_⟩
    refine ⟨_, hi _, k.a, _, dx, _, _, rfl, up _ _ ek, I.cl, I.no f hf, hg _ _ k, _, upd_same, ?_, ?_⟩
    · rw [List.length_map, List.length_take, sizeLine_eq]
      omega
    · show upd (upd H D _) D _ = _
      rw [updd, List.take_add_one, hkj]
      simp
  · subst eH
    have e2 : ks.take (refs ks).length = ks := List.take_of_length_le (by simp [refs])
    rw [e2]
    exact hd _ (by rw [upd_same, List.map_map]; rfl) up
theorem maxD_ge : ∀ {ks : List Kd} {k : Kd}, k ∈ ks → k.d ≤ maxD ks
  | q :: qs, k, h => by
    rcases List.mem_cons.mp h with rfl | h
    · exact Nat.le_max_left _ _
    · exact Nat.le_trans (maxD_ge h) (Nat.le_max_right _ _)
theorem maxD_mem : ∀ {ks : List Kd}, ks ≠ [] → ∃ k ∈ ks, k.d = maxD ks
  | [q], _ => ⟨q, List.mem_cons_self, by show q.d = max q.d 0; omega⟩
  | q :: r :: qs, _ => by
    obtain ⟨k, hk, e⟩ := maxD_mem (ks := r :: qs) (by simp)
    by_cases h : maxD (r :: qs) ≤ q.d
    · exact ⟨q, List.mem_cons_self, by show q.d = max q.d (maxD (r :: qs)); omega⟩
    · exact ⟨k, List.mem_cons_of_mem _ hk, by show k.d = max q.d (maxD (r :: qs)); omega⟩
theorem sum_int : ∀ ks : List Kd, (ks.map fun k => (k.p : Int)).sum = (sumP ks : Nat)
  | [] => rfl
  | k :: ks => by
    have e := sum_int ks
    show (k.p : Int) + (ks.map fun k => (k.p : Int)).sum = ((k.p + sumP ks : Nat) : Int)
    omega
theorem max_kids {ks : List Kd} {G : Int → Prop} (q : G (maxD ks : Nat)) : (∀ m, m ∈ (ks.map fun k => (k.d : Int)) → (∀ y, y ∈ (ks.map fun k => (k.d : Int)) → y ≤ m) → G m) ∧ ((ks.map fun k => (k.d : Int)) = [] → G 0) := by
  refine ⟨fun m hm hy => ?_, fun h => ?_⟩
  · obtain ⟨k, hk, rfl⟩ := List.mem_map.mp hm
    have h1 := maxD_ge hk
    obtain ⟨k', hk', e'⟩ := maxD_mem (ks := ks) (fun z => by rw [z] at hk; cases hk)
    have h2 := hy _ (List.mem_map.mpr ⟨k', hk', rfl⟩)
    have e3 : k.d = maxD ks := by omega
    rw [e3]
    exact q
  · have e0 : ks = [] := List.map_eq_nil_iff.mp h
    subst e0
    exact q
theorem ok_form {fd : FuncData} (T : Txt K mg) (F : FnM K "Formula" "Formula.__init__" sForm [] fd) :
    FnOk P w K mg base CX0 1 (ma K (ga K "Formula") "__init__") fd ["self", "kind", "things", "inner"] (spForm K) := by
  refine F.ok scForm (fun vs H Q E h => ?_) (fun cdv A outer s H vs Q E hr h => ?_)
  · obtain ⟨a, C, dx, e, kd, th, ks, rfl, _⟩ := h
    rfl
  obtain ⟨a, C, dx, e, kd, th, ks, rfl, ha, TC, he, hk, hl, fit, k1⟩ := h
  obtain ⟨tP, hP⟩ := T.mPar
  obtain ⟨tD, hD⟩ := T.mDep
  have nd := scForm.nd
  refine ⟨_, PSs.nox (pss_cons (ps_set (i := 4) nd rfl (Or.inl rfl) (pe_op op_add pe_int (pe_callB (cr_sum rfl) rfl (T.f "sum") (by decide +kernel) (pa_cons (pe_lc (own := [("one", 6)]) (te := tFld K (tVar 6) "parts") (g := gName 6) (tt := tYes) rfl nd (pi_tup (pv 3))
        (blkOk_by (N := ["self", "kind", "things", "inner", "parts", "depth", "one"]) (sc := defScope sForm) (by decide +kernel)) (fun _ _ _ _ _ => pg_name (i := 6) nd rfl (Or.inl rfl)) (fun _ _ _ _ _ => pts_nil)
        (fun _ _ _ _ _ => pe_fld (pv 6) rfl)) pa_nil))))
    (pss_cons (ps_set (i := 5) nd rfl (Or.inl rfl) (pe_op op_add pe_int (pe_callBK (crk_max rfl) rfl (T.f "max") (by decide +kernel) (pa_cons (pe_lc (own := [("one", 6)]) (te := tFld K (tVar 6) "depth") (g := gName 6) (tt := tYes) rfl nd (pi_tup (pv 3))
        (blkOk_by (N := ["self", "kind", "things", "inner", "parts", "depth", "one"]) (sc := defScope sForm) (by decide +kernel)) (fun _ _ _ _ _ => pg_name (i := 6) nd rfl (Or.inl rfl)) (fun _ _ _ _ _ => pts_nil)
        (fun _ _ _ _ _ => pe_fld (pv 6) rfl)) pa_nil) (pk_cons pe_int pk_nil))))
    (pss_cons (ps_if (PW.pt (pw_or (pt_cmpR op_gt (pv 4) (pe_glob (v := .int 300) rfl hP ⟨_, rfl⟩) (nomark _)) (pw_or1 (pt_cmpR op_gt (pv 5) (pe_glob (v := .int 40) rfl hD ⟨_, rfl⟩) (nomark _)))))
      (pss_one ps_never) pss_nil)
    (pss_cons (ps_fld (pv 0) (pv 1) rfl) (pss_cons (ps_fld (pv 0) (pv 2) rfl) (pss_cons (ps_fld (pv 0) (pv 4) rfl) (pss_one (ps_fld (pv 0) (pv 5) rfl)))))))), ?_⟩
  have no : ∀ f ∈ fldL, NoAttr K C f := TC.no
  -- parts = 1 + sum([..])
  refine ⟨_, rfl, e, rfl, ⟨_, .inl (.inl he)⟩, fun D hDn => ?_⟩
  refine lc_kids T (g := fun k => k.p) he hk hl hDn (by decide +kernel) (fun _ _ _ => rfl) (fun _ => rfl) (fun _ => rfl) (fun H1 e1 s1 => ?_)
  refine ⟨D, ks.map fun k => (k.p : Int), rfl, SqL.of e1, _, _, rfl, rfl, ?_⟩
  rw [sum_int]
  -- depth = 1 + max([..], default=0)
  refine ⟨_, rfl, e, rfl, ⟨_, .inl (.inl (s1 _ _ he))⟩, fun D2 hD2 => ?_⟩
  refine lc_kids T (g := fun k => k.d) (s1 _ _ he) (fun k hk' => (hk k hk').same s1) hl hD2 (by decide +kernel) (fun _ _ _ => rfl) (fun _ => rfl) (fun _ => rfl) (fun H2 e2 s2 => ?_)
  have s02 := s1.trans s2
  refine ⟨D2, ks.map fun k => (k.d : Int), .int 0, rfl, rfl, SqL.of e2, And.symm (max_kids ?_)⟩
  refine ⟨_, _, rfl, rfl, ?_⟩
  have done : (1 + sumP ks ≤ 300 ∧ 1 + maxD ks ≤ 40) → ∀ H', SameBut a H H' → H' a = some (.ins C dx (putF "depth" (.int (1 + (maxD ks : Nat))) (putF "parts" (.int (1 + (sumP ks : Nat))) (putF "things" th (putF "kind" kd []))))) → Q .non H' := by
    intro g H' sb e'
    refine k1 H' sb ?_
    rw [e']
    unfold flds
    rw [Int.natCast_add, Int.natCast_add]
    rfl
  -- neither is too great
  refine ⟨_, rfl, _, _, rfl, rfl, _, rfl, ?_⟩
  refine ite2 (fun h => ?_) (fun h => ?_)
  · refine ite2 (fun _ => ?_) (fun h2 => absurd rfl h2)
    have h : (300 : Int) < 1 + (sumP ks : Nat) := of_decide_eq_true h
    exact absurd fit.1 (by omega)
  have h : ¬ ((300 : Int) < 1 + (sumP ks : Nat)) := fun z => h (decide_eq_true z)
  refine ⟨_, rfl, _, _, rfl, rfl, _, rfl, ?_⟩
  refine ite2 (fun h4 => ?_) (fun h4 => ?_)
  · have h4 : (40 : Int) < 1 + (maxD ks : Nat) := of_decide_eq_true h4
    exact absurd fit.2 (by omega)
  have h4 : ¬ ((40 : Int) < 1 + (maxD ks : Nat)) := fun z => h4 (decide_eq_true z)
  have ha2 := s02 _ _ ha
  -- the fields
  refine ⟨_, rfl, _, rfl, a, C, dx, _, rfl, ha2, TC.cl, no _ (by decide +kernel), (by show 0 < 1000; decide), ?_⟩
  refine ⟨_, rfl, _, rfl, a, C, dx, _, rfl, upd_same, TC.cl, no _ (by decide +kernel), (by show 1 < 1000; decide), ?_⟩
  refine ⟨_, rfl, _, rfl, a, C, dx, _, rfl, upd_same, TC.cl, no _ (by decide +kernel), (by show 2 < 1000; decide), ?_⟩
  refine ⟨_, rfl, _, rfl, a, C, dx, _, rfl, upd_same, TC.cl, no _ (by decide +kernel), (by show 3 < 1000; decide), ?_⟩
  refine done fit _ (fun b o hb q => ?_) upd_same
  rw [upd_ne hb, upd_ne hb, upd_ne hb, upd_ne hb]
  exact s02 _ _ q
end
end K1
set_option Elab.async false
set_option linter.all false
set_option maxRecDepth 100000
set_option maxHeartbeats 4000000
namespace K1
open PySem PySem.Spec PyProof.Rows L2 He Sw
section
variable {P : Program} {w : World} {K : PySem.W.Frag} {mg : Str → Option Value} {base : Heap}
theorem tsz {n : Nat} (h : n ≤ 1000) : n ≤ sizeLine := by rw [sizeLine_eq]; omega
theorem none_back {H H' : Hp} {d : Addr} (s : Same H H') (h : H' d = none) : H d = none := by
  cases e : H d with
  | none => rfl
  | some o => rw [s _ _ e] at h; cases h
/-! ### formulas in the heap -/
/-- class, kind and things, the formulas within, the index of its own -/
inductive Shp (H : Hp) : Str → Str → List V → List V → List Str → Prop
  | num (i : Int) : Shp H "Number" "number" [.int i] [] []
  | nam (z : Str) : Shp H "Name" "name" [.str z] [] []
  | seq {kd : Str} (as : List V) (h : kd = "plus" ∨ kd = "minus" ∨ kd = "times" ∨ kd = "negative") : Shp H "Formula" kd as as []
  | shift (a : V) (n : Int) : Shp H "Formula" "shift" [a, .int n] [a] []
  | sum (i : Str) (b a : V) : Shp H "Sum" "sum" [.str i, b, a] [a] [i]
  | call {u : Addr} (nm : Str) (as : List V) (e2 : H u = some (.tup as)) : Shp H "Call" "call" [.str nm, .ref u] as []
theorem Shp.same {H H' : Hp} {C kd : Str} {th as : List V} {own : List Str} (h : Shp H C kd th as own) (s : Same H H') : Shp H' C kd th as own := by
  cases h with
  | num i => exact .num i
  | nam z => exact .nam z
  | seq _ h => exact .seq _ h
  | shift a n => exact .shift a n
  | sum i b a => exact .sum i b a
  | call nm _ e => exact .call nm _ (s _ _ e)
theorem Shp.cls {H : Hp} {C kd : Str} {th as : List V} {own : List Str} (h : Shp H C kd th as own) : C ∈ clsL := by
  cases h <;> decide +kernel
theorem Shp.own {H : Hp} {C kd : Str} {th as : List V} {own : List Str} (h : Shp H C kd th as own) : own.length ≤ 1 := by
  cases h <;> simp
def ixs (ks : List Kd) : List Str := (ks.map (·.ix)).flatten
def NodeAt (K : PySem.W.Frag) (H : Hp) (k : Kd) (ks : List Kd) : Prop := ∃ (dx t : Addr) (own : List Str), H k.a = some (.ins (ga K k.C) dx (flds (.str k.kd) (.ref t) k.p k.d)) ∧ H t = some (.tup k.th) ∧ Shp H k.C k.kd k.th (refs ks) own ∧
  k.p = 1 + sumP ks ∧ k.d = 1 + maxD ks ∧ k.ix = own ++ ixs ks ∧ k.p ≤ 300 ∧ k.d ≤ 40
theorem NodeAt.same {H H' : Hp} {k : Kd} {ks : List Kd} (h : NodeAt K H k ks) (s : Same H H') : NodeAt K H' k ks := by
  obtain ⟨dx, t, own, h2, h3, h4, h5⟩ := h
  exact ⟨dx, t, own, s _ _ h2, s _ _ h3, h4.same s, h5⟩
def Fm (K : PySem.W.Frag) : Nat → Hp → Kd → Prop
  | 0, _, _ => False
  | n + 1, H, k => ∃ ks, NodeAt K H k ks ∧ ∀ q ∈ ks, Fm K n H q
theorem Fm.same : ∀ {n : Nat} {H H' : Hp} {k : Kd}, Fm K n H k → Same H H' → Fm K n H' k
  | n + 1, H, H', k, ⟨ks, h, r⟩, s => ⟨ks, h.same s, fun q hq => (r q hq).same s⟩
theorem Fm.mono : ∀ {n m : Nat} {H : Hp} {k : Kd}, Fm K n H k → n ≤ m → Fm K m H k
  | n + 1, m + 1, H, k, ⟨ks, h, r⟩, l => ⟨ks, h, fun q hq => (r q hq).mono (Nat.le_of_succ_le_succ l)⟩
abbrev FmD (K : PySem.W.Frag) (H : Hp) (k : Kd) : Prop := Fm K k.d H k
theorem FmD.of {H : Hp} {k : Kd} {ks : List Kd} (h : NodeAt K H k ks) (r : ∀ q ∈ ks, FmD K H q) : FmD K H k := by
  obtain ⟨_, _, _, _, _, _, _, hd, _⟩ := id h
  show Fm K k.d H k
  rw [hd, Nat.add_comm]
  exact ⟨ks, h, fun q hq => (r q hq).mono (maxD_ge hq)⟩
theorem Fm.node : ∀ {n : Nat} {H : Hp} {k : Kd}, Fm K n H k → ∃ ks, NodeAt K H k ks
  | n + 1, H, k, ⟨ks, h, _⟩ => ⟨ks, h⟩
theorem Fm.kid {n : Nat} {H : Hp} {k : Kd} (h : Fm K n H k) : KidAt K H k := by
  obtain ⟨ks, dx, t, own, h1, h2, h3, _⟩ := h.node
  exact ⟨dx, t, h3.cls, h1, h2⟩
theorem Fm.small {n : Nat} {H : Hp} {k : Kd} (h : Fm K n H k) : k.p ≤ 300 ∧ k.d ≤ 40 ∧ 1 ≤ k.p ∧ 1 ≤ k.d := by
  obtain ⟨ks, dx, t, own, _, _, _, e1, e2, _, e3, e4⟩ := h.node
  exact ⟨e3, e4, by omega, by omega⟩
theorem ixs_len : ∀ {ks : List Kd}, (∀ q ∈ ks, q.ix.length ≤ q.p) → (ixs ks).length ≤ sumP ks
  | [], _ => Nat.le_refl _
  | k :: ks, h => by
    have h1 := h k List.mem_cons_self
    have h2 := ixs_len (ks := ks) fun q hq => h q (List.mem_cons_of_mem _ hq)
    show (k.ix ++ ixs ks).length ≤ k.p + sumP ks
    rw [List.length_append]
    omega
theorem Fm.ixLen : ∀ {n : Nat} {H : Hp} {k : Kd}, Fm K n H k → k.ix.length ≤ k.p
  | n + 1, H, k, ⟨ks, ⟨dx, t, own, _, _, hs, e1, e2, e3, _⟩, r⟩ => by
    have h1 := ixs_len fun q hq => (r q hq).ixLen
    have h2 := hs.own
    rw [e3, List.length_append, e1]
    omega
/-! ### check_formula -/
def spCkForm (K : PySem.W.Frag) : Sp := fun vs H Q _ => ∃ (n : Nat) (k : Kd), vs = [.ref k.a] ∧ Fm K n H k ∧ Q .non H
theorem scCkForm : FnScope ["thing"] ["thing"] (defScope sCkForm) := ⟨rfl, rfl, rfl, by decide +kernel, rfl, by decide +kernel, by decide +kernel⟩
theorem kitF (T : Txt K mg) {C : Str} (h : C ∈ clsL) : PySem.W.kitOne K (.ref (ga K C)) (.ref (ga K "Formula")) = some true := by
  have e := T.kit C h "Formula" (by decide +kernel)
  rw [e, show decide (("Formula" : Str) = "Formula") = true by decide +kernel, Bool.or_true]
theorem ok_ckForm {fd : FuncData} (T : Txt K mg) (F : FnG K "check_formula" sCkForm fd) : FnOk P w K mg base CX0 1 (ga K "check_formula") fd ["thing"] (spCkForm K) := by
  refine F.ok scCkForm (fun vs H Q E h => ?_) (fun cdv A outer s H vs Q E hr h => ?_)
  · obtain ⟨n, k, rfl, _⟩ := h
    rfl
  obtain ⟨n, k, rfl, hf, q⟩ := h
  obtain ⟨ks, dx, t, own, h2, _, h3, _⟩ := hf.node
  have I := T.ins _ h3.cls
  refine ⟨_, PSs.nox (pss_one (ps_if (pt_not (pt_val (pe_callB call_isi rfl (T.f "isinstance") (by decide +kernel) (pa_cons (pv 0) (pa_cons (pe_glob (v := .ref (ga K "Formula")) rfl (T.g "Formula") rfl) pa_nil))))) (pss_one ps_never) pss_nil)), ?_⟩
  refine ⟨_, rfl, .ref k.a, _, _, _, true, rfl, .own _, .base (.ins h2 I.cl I.ha I.hn I.ht I.hm), kitF T h3.cls, _, rfl, ?_⟩
  exact ite2 (fun h => absurd h (by decide)) (fun _ => q)
/-! ### what a maker of formulas does -/
abbrev nd (x : Addr) (C kd : Str) (th : List V) (own : List Str) (ks : List Kd) : Kd := ⟨x, 1 + maxD ks, 1 + sumP ks, own ++ ixs ks, C, kd, th⟩
theorem SameBut.of {a : Addr} {H H' : Hp} (x : Same H H') : SameBut a H H' := fun b o _ e => x b o e
theorem SameBut.trans {a : Addr} {H H1 H2 : Hp} (x : SameBut a H H1) (y : SameBut a H1 H2) : SameBut a H H2 := fun b o hb e => y b o hb (x b o hb e)
theorem tup_but {H H' : Hp} {a C dx t : Addr} {fs : List (Str × V)} {xs : List V} (ha : H a = some (.ins C dx fs)) (s : SameBut a H H') (et : H t = some (.tup xs)) : H' t = some (.tup xs) := s _ _ (fun z => by
  rw [z, ha] at et
  cases et) et
/-- C(..) where the __init__ leaves such a state at the new instance -/
theorem made {H H1 H' : Hp} {C kd : Str} {x dx t : Addr} {th : List V} {own : List Str} {ks : List Kd} (s : Same H H1) (hx : H1 x = none) (hdx : H1 dx = none) (sb : SameBut x (upd (upd H1 dx (.own x)) x (.ins (ga K C) dx [])) H')
    (e : H' x = some (.ins (ga K C) dx (flds (.str kd) (.ref t) (1 + sumP ks) (1 + maxD ks)))) (et : H' t = some (.tup th)) (sh : Shp H' C kd th (refs ks) own) (r : ∀ q ∈ ks, FmD K H q) (fit : Fits ks) : Same H H' ∧ FmD K H' (nd x C kd th own ks) := by
  have s1 : Same H1 (upd (upd H1 dx (.own x)) x (.ins (ga K C) dx [])) := fun b o e => by rw [upd_ne (ne_of_none e hx), upd_ne (ne_of_none e hdx)]; exact e
  have s2 : Same H1 H' := fun b o q => sb b o (ne_of_none q hx) (s1 _ _ q)
  have s3 := s.trans s2
  exact ⟨s3, FmD.of (ks := ks) ⟨dx, t, own, e, et, sh, rfl, rfl, rfl, fit.1, fit.2⟩ fun q hq => (r q hq).same s3⟩
/-- a method of Formula -/
abbrev FnF (K : PySem.W.Frag) (m q : Str) (st : Stmt) (fd : FuncData) : Prop := FunD K m q (defArgs st) (defBody st) (defScope st) [] [] (ma K (ga K "Formula") m) fd
def spBin (K : PySem.W.Frag) (kd : Str) : Sp := fun vs H Q _ => ∃ (ka kb : Kd), vs = [.ref ka.a, .ref kb.a] ∧ FmD K H ka ∧ FmD K H kb ∧ Fits [ka, kb] ∧ ∀ H' x, Same H H' → FmD K H' (nd x "Formula" kd [.ref ka.a, .ref kb.a] [] [ka, kb]) → Q (.ref x) H'
theorem scAdd : FnScope ["self", "other"] ["self", "other"] (defScope sAdd) := ⟨rfl, rfl, rfl, by decide +kernel, rfl, by decide +kernel, by decide +kernel⟩
theorem scSub : FnScope ["self", "other"] ["self", "other"] (defScope sSub) := ⟨rfl, rfl, rfl, by decide +kernel, rfl, by decide +kernel, by decide +kernel⟩
theorem scMul : FnScope ["self", "other"] ["self", "other"] (defScope sMul) := ⟨rfl, rfl, rfl, by decide +kernel, rfl, by decide +kernel, by decide +kernel⟩
theorem scNeg : FnScope ["self"] ["self"] (defScope sNeg) := ⟨rfl, rfl, rfl, by decide +kernel, rfl, by decide +kernel, by decide +kernel⟩
/-- Formula(kind, things, inner), as the methods write it -/
theorem form_read {H H2 : Hp} {kd : Str} {th : List V} {ks : List Kd} {t e : Addr} {Q : VK} (T : Txt K mg) (s02 : Same H H2) (r : ∀ q ∈ ks, FmD K H q) (hl : ks.length ≤ 10) (fit : Fits ks) (et : H2 t = some (.tup th)) (ee : H2 e = some (.tup (refs ks)))
    (sh : ∀ H', Shp H' "Formula" kd th (refs ks) []) (q : ∀ H' x, Same H H' → FmD K H' (nd x "Formula" kd th [] ks) → Q (.ref x) H') :
    ∀ x dx, H2 x = none → H2 dx = none → dx ≠ x → ∀ E, spForm K [.ref x, .str kd, .ref t, .ref e] (upd (upd H2 dx (.own x)) x (.ins (ga K "Formula") dx [])) (fun v H3 => v = .non ∧ Q (.ref x) H3) E := by
  intro x dx hx hdx hne E
  have s3 : Same H2 (upd (upd H2 dx (.own x)) x (.ins (ga K "Formula") dx [])) := fun b o q => by rw [upd_ne (ne_of_none q hx), upd_ne (ne_of_none q hdx)]; exact q
  refine ⟨x, _, dx, e, _, _, ks, rfl, upd_same, T.ins _ (by decide +kernel), s3 _ _ ee, (fun k hk => ((r k hk).same (s02.trans s3)).kid), hl, fit, fun H' sb e' => ⟨rfl, ?_⟩⟩
  obtain ⟨a1, a2⟩ := made s02 hx hdx sb e' (tup_but upd_same sb (s3 _ _ et)) (sh H') r fit
  exact q H' x a1 a2
theorem ok_add {fd fdC fdF : FuncData} (T : Txt K mg) (F : FnF K "__add__" "Formula.__add__" sAdd fd) (FC' : FnG K "check_formula" sCkForm fdC) (FF : FnM K "Formula" "Formula.__init__" sForm [] fdF) : FnOk P w K mg base CX0 3 (ma K (ga K "Formula") "__add__") fd ["self", "other"] (spBin K "plus") := by
  have GC : FnOk P w K mg base CX0 1 (ga K "check_formula") fdC ["thing"] (spCkForm K) := ok_ckForm T FC'
  have GF : FnOk P w K mg base CX0 1 (ma K (ga K "Formula") "__init__") fdF ["self", "kind", "things", "inner"] (spForm K) := ok_form T FF
  have bC : Binds K fdC ["thing"] [] := FC'.bindsN fun _ _ _ _ _ _ us hl => match us, hl with | [_], _ => rfl
  have bF : Binds K fdF ["self", "kind", "things", "inner"] [] := FF.bindsN fun _ _ _ _ _ _ us hl => match us, hl with | [_, _, _, _], _ => rfl
  refine F.ok scAdd (fun vs H Q E h => ?_) (fun cdv A outer s H vs Q E hr h => ?_)
  · obtain ⟨ka, kb, rfl, _⟩ := h
    rfl
  obtain ⟨ka, kb, rfl, ha, hb, fit, q⟩ := h
  refine ⟨_, PSs.nox (pss_cons (ps_expr (pe_call GC (hr.mono (by decide)) rfl (T.g "check_formula") FC'.kp bC .nil pass0 (pa_cons (pv 1) pa_nil)))
    (pss_one (ps_ret (pe_make (T.ins "Formula" (by decide +kernel)).mkr GF hr rfl (T.g "Formula") bF .nil pass0 (pa_cons pe_str (pa_cons (pe_tup (pa_cons (pv 0) (pa_cons (pv 1) pa_nil))) (pa_cons (pe_tup (pa_cons (pv 0) (pa_cons (pv 1) pa_nil))) pa_nil))))))), ?_⟩
  refine ⟨_, rfl, _, kb, rfl, hb, ?_⟩
  refine ⟨_, rfl, _, rfl, tsz (by show 2 ≤ 1000; decide), fun t ht => ⟨_, rfl, _, rfl, tsz (by show 2 ≤ 1000; decide), fun e he => ?_⟩⟩
  have s1 : Same H (upd H t (.tup [.ref ka.a, .ref kb.a])) := fun b o q => by rw [upd_ne (ne_of_none q ht)]; exact q
  have et : (upd H t (.tup [.ref ka.a, .ref kb.a])) t = some (.tup [.ref ka.a, .ref kb.a]) := upd_same
  generalize upd H t (.tup [.ref ka.a, .ref kb.a]) = H1 at s1 et he ⊢
  have s2 : Same H1 (upd H1 e (.tup [.ref ka.a, .ref kb.a])) := fun b o q => by rw [upd_ne (ne_of_none q he)]; exact q
  have ee : (upd H1 e (.tup [.ref ka.a, .ref kb.a])) e = some (.tup [.ref ka.a, .ref kb.a]) := upd_same
  generalize upd H1 e (.tup [.ref ka.a, .ref kb.a]) = H2 at s2 ee ⊢
  intro x dx hx hdx hne
  refine form_read T (s1.trans s2) (fun q hq => ?_) (by show 2 ≤ 10; decide) fit (s2 _ _ et) ee (fun _ => .seq _ (.inl rfl)) q x dx hx hdx hne _
  rcases List.mem_cons.mp hq with rfl | hq
  · exact ha
  · rw [List.mem_singleton.mp hq]; exact hb
theorem ok_sub {fd fdC fdF : FuncData} (T : Txt K mg) (F : FnF K "__sub__" "Formula.__sub__" sSub fd) (FC' : FnG K "check_formula" sCkForm fdC) (FF : FnM K "Formula" "Formula.__init__" sForm [] fdF) : FnOk P w K mg base CX0 3 (ma K (ga K "Formula") "__sub__") fd ["self", "other"] (spBin K "minus") := by
  have GC : FnOk P w K mg base CX0 1 (ga K "check_formula") fdC ["thing"] (spCkForm K) := ok_ckForm T FC'
  have GF : FnOk P w K mg base CX0 1 (ma K (ga K "Formula") "__init__") fdF ["self", "kind", "things", "inner"] (spForm K) := ok_form T FF
  have bC : Binds K fdC ["thing"] [] := FC'.bindsN fun _ _ _ _ _ _ us hl => match us, hl with | [_], _ => rfl
  have bF : Binds K fdF ["self", "kind", "things", "inner"] [] := FF.bindsN fun _ _ _ _ _ _ us hl => match us, hl with | [_, _, _, _], _ => rfl
  refine F.ok scSub (fun vs H Q E h => ?_) (fun cdv A outer s H vs Q E hr h => ?_)
  · obtain ⟨ka, kb, rfl, _⟩ := h
    rfl
  obtain ⟨ka, kb, rfl, ha, hb, fit, q⟩ := h
  refine ⟨_, PSs.nox (pss_cons (ps_expr (pe_call GC (hr.mono (by decide)) rfl (T.g "check_formula") FC'.kp bC .nil pass0 (pa_cons (pv 1) pa_nil)))
    (pss_one (ps_ret (pe_make (T.ins "Formula" (by decide +kernel)).mkr GF hr rfl (T.g "Formula") bF .nil pass0 (pa_cons pe_str (pa_cons (pe_tup (pa_cons (pv 0) (pa_cons (pv 1) pa_nil))) (pa_cons (pe_tup (pa_cons (pv 0) (pa_cons (pv 1) pa_nil))) pa_nil))))))), ?_⟩
  refine ⟨_, rfl, _, kb, rfl, hb, ?_⟩
  refine ⟨_, rfl, _, rfl, tsz (by show 2 ≤ 1000; decide), fun t ht => ⟨_, rfl, _, rfl, tsz (by show 2 ≤ 1000; decide), fun e he => ?_⟩⟩
  have s1 : Same H (upd H t (.tup [.ref ka.a, .ref kb.a])) := fun b o q => by rw [upd_ne (ne_of_none q ht)]; exact q
  have et : (upd H t (.tup [.ref ka.a, .ref kb.a])) t = some (.tup [.ref ka.a, .ref kb.a]) := upd_same
  generalize upd H t (.tup [.ref ka.a, .ref kb.a]) = H1 at s1 et he ⊢
  have s2 : Same H1 (upd H1 e (.tup [.ref ka.a, .ref kb.a])) := fun b o q => by rw [upd_ne (ne_of_none q he)]; exact q
  have ee : (upd H1 e (.tup [.ref ka.a, .ref kb.a])) e = some (.tup [.ref ka.a, .ref kb.a]) := upd_same
  generalize upd H1 e (.tup [.ref ka.a, .ref kb.a]) = H2 at s2 ee ⊢
  intro x dx hx hdx hne
  refine form_read T (s1.trans s2) (fun q hq => ?_) (by show 2 ≤ 10; decide) fit (s2 _ _ et) ee (fun _ => .seq _ (.inr (.inl rfl))) q x dx hx hdx hne _
  rcases List.mem_cons.mp hq with rfl | hq
  · exact ha
  · rw [List.mem_singleton.mp hq]; exact hb
theorem ok_mul {fd fdC fdF : FuncData} (T : Txt K mg) (F : FnF K "__mul__" "Formula.__mul__" sMul fd) (FC' : FnG K "check_formula" sCkForm fdC) (FF : FnM K "Formula" "Formula.__init__" sForm [] fdF) : FnOk P w K mg base CX0 3 (ma K (ga K "Formula") "__mul__") fd ["self", "other"] (spBin K "times") := by
  have GC : FnOk P w K mg base CX0 1 (ga K "check_formula") fdC ["thing"] (spCkForm K) := ok_ckForm T FC'
  have GF : FnOk P w K mg base CX0 1 (ma K (ga K "Formula") "__init__") fdF ["self", "kind", "things", "inner"] (spForm K) := ok_form T FF
  have bC : Binds K fdC ["thing"] [] := FC'.bindsN fun _ _ _ _ _ _ us hl => match us, hl with | [_], _ => rfl
  have bF : Binds K fdF ["self", "kind", "things", "inner"] [] := FF.bindsN fun _ _ _ _ _ _ us hl => match us, hl with | [_, _, _, _], _ => rfl
  refine F.ok scMul (fun vs H Q E h => ?_) (fun cdv A outer s H vs Q E hr h => ?_)
  · obtain ⟨ka, kb, rfl, _⟩ := h
    rfl
  obtain ⟨ka, kb, rfl, ha, hb, fit, q⟩ := h
  refine ⟨_, PSs.nox (pss_cons (ps_expr (pe_call GC (hr.mono (by decide)) rfl (T.g "check_formula") FC'.kp bC .nil pass0 (pa_cons (pv 1) pa_nil)))
    (pss_one (ps_ret (pe_make (T.ins "Formula" (by decide +kernel)).mkr GF hr rfl (T.g "Formula") bF .nil pass0 (pa_cons pe_str (pa_cons (pe_tup (pa_cons (pv 0) (pa_cons (pv 1) pa_nil))) (pa_cons (pe_tup (pa_cons (pv 0) (pa_cons (pv 1) pa_nil))) pa_nil))))))), ?_⟩
  refine ⟨_, rfl, _, kb, rfl, hb, ?_⟩
  refine ⟨_, rfl, _, rfl, tsz (by show 2 ≤ 1000; decide), fun t ht => ⟨_, rfl, _, rfl, tsz (by show 2 ≤ 1000; decide), fun e he => ?_⟩⟩
  have s1 : Same H (upd H t (.tup [.ref ka.a, .ref kb.a])) := fun b o q => by rw [upd_ne (ne_of_none q ht)]; exact q
  have et : (upd H t (.tup [.ref ka.a, .ref kb.a])) t = some (.tup [.ref ka.a, .ref kb.a]) := upd_same
  generalize upd H t (.tup [.ref ka.a, .ref kb.a]) = H1 at s1 et he ⊢
  have s2 : Same H1 (upd H1 e (.tup [.ref ka.a, .ref kb.a])) := fun b o q => by rw [upd_ne (ne_of_none q he)]; exact q
  have ee : (upd H1 e (.tup [.ref ka.a, .ref kb.a])) e = some (.tup [.ref ka.a, .ref kb.a]) := upd_same
  generalize upd H1 e (.tup [.ref ka.a, .ref kb.a]) = H2 at s2 ee ⊢
  intro x dx hx hdx hne
  refine form_read T (s1.trans s2) (fun q hq => ?_) (by show 2 ≤ 10; decide) fit (s2 _ _ et) ee (fun _ => .seq _ (.inr (.inr (.inl rfl)))) q x dx hx hdx hne _
  rcases List.mem_cons.mp hq with rfl | hq
  · exact ha
  · rw [List.mem_singleton.mp hq]; exact hb
end
end K1
set_option Elab.async false
set_option linter.all false
set_option maxRecDepth 100000
set_option maxHeartbeats 4000000
namespace K1
open PySem PySem.Spec PyProof.Rows L2 He Sw
section
variable {P : Program} {w : World} {K : PySem.W.Frag} {mg : Str → Option Value} {base : Heap}
def spNeg (K : PySem.W.Frag) : Sp := fun vs H Q _ => ∃ (ka : Kd), vs = [.ref ka.a] ∧ FmD K H ka ∧ Fits [ka] ∧ ∀ H' x, Same H H' → FmD K H' (nd x "Formula" "negative" [.ref ka.a] [] [ka]) → Q (.ref x) H'
theorem ok_neg {fd fdF : FuncData} (T : Txt K mg) (F : FnF K "__neg__" "Formula.__neg__" sNeg fd) (FF : FnM K "Formula" "Formula.__init__" sForm [] fdF) : FnOk P w K mg base CX0 3 (ma K (ga K "Formula") "__neg__") fd ["self"] (spNeg K) := by
  have GF : FnOk P w K mg base CX0 1 (ma K (ga K "Formula") "__init__") fdF ["self", "kind", "things", "inner"] (spForm K) := ok_form T FF
  have bF : Binds K fdF ["self", "kind", "things", "inner"] [] := FF.bindsN fun _ _ _ _ _ _ us hl => match us, hl with | [_, _, _, _], _ => rfl
  refine F.ok scNeg (fun vs H Q E h => ?_) (fun cdv A outer s H vs Q E hr h => ?_)
  · obtain ⟨ka, rfl, _⟩ := h
    rfl
  obtain ⟨ka, rfl, ha, fit, q⟩ := h
  refine ⟨_, PSs.nox (pss_one (ps_ret (pe_make (T.ins "Formula" (by decide +kernel)).mkr GF hr rfl (T.g "Formula") bF .nil pass0 (pa_cons pe_str (pa_cons (pe_tup (pa_cons (pv 0) pa_nil)) (pa_cons (pe_tup (pa_cons (pv 0) pa_nil)) pa_nil)))))), ?_⟩
  refine ⟨_, rfl, tsz (by show 1 ≤ 1000; decide), fun t ht => ⟨_, rfl, tsz (by show 1 ≤ 1000; decide), fun e he => ?_⟩⟩
  have s1 : Same H (upd H t (.tup [.ref ka.a])) := fun b o q => by rw [upd_ne (ne_of_none q ht)]; exact q
  have et : (upd H t (.tup [.ref ka.a])) t = some (.tup [.ref ka.a]) := upd_same
  generalize upd H t (.tup [.ref ka.a]) = H1 at s1 et he ⊢
  have s2 : Same H1 (upd H1 e (.tup [.ref ka.a])) := fun b o q => by rw [upd_ne (ne_of_none q he)]; exact q
  have ee : (upd H1 e (.tup [.ref ka.a])) e = some (.tup [.ref ka.a]) := upd_same
  generalize upd H1 e (.tup [.ref ka.a]) = H2 at s2 ee ⊢
  intro x dx hx hdx hne
  exact form_read T (s1.trans s2) (fun q hq => by rw [List.mem_singleton.mp hq]; exact ha) (by show 1 ≤ 10; decide) fit (s2 _ _ et) ee (fun _ => .seq _ (.inr (.inr (.inr rfl)))) q x dx hx hdx hne _
def spIsShift : Sp := fun vs H Q _ => ∃ i : Int, vs = [.int i] ∧ 0 ≤ i ∧ i ≤ 64 ∧ Q (.bl true) H
theorem scIsShift : FnScope ["thing"] ["thing"] (defScope sIsShift) := ⟨rfl, rfl, rfl, by decide +kernel, rfl, by decide +kernel, by decide +kernel⟩
theorem ok_isShift {fd fdI : FuncData} (T : Txt K mg) (F : FnG K "is_shift" sIsShift fd) (FI : FnG K "is_integer" sIsInt fdI) : FnOk P w K mg base CX0 2 (ga K "is_shift") fd ["thing"] spIsShift := by
  have GI : FnOk P w K mg base CX0 1 (ga K "is_integer") fdI ["thing"] spIsInt := ok_isInt T FI
  have bI : Binds K fdI ["thing"] [] := FI.bindsN fun _ _ _ _ _ _ us hl => match us, hl with | [_], _ => rfl
  obtain ⟨t6, h6⟩ := T.mShf
  refine F.ok scIsShift (fun vs H Q E h => ?_) (fun cdv A outer s H vs Q E hr h => ?_)
  · obtain ⟨i, rfl, _⟩ := h
    rfl
  obtain ⟨i, rfl, i0, i1, q⟩ := h
  refine ⟨_, pss_one (ps_ret (pe_and (pe_call GI hr rfl (T.g "is_integer") FI.kp bI .nil pass0 (pa_cons (pv 0) pa_nil))
    (pe_one (pe_chain op_le op_le pe_int (pv 0) (pe_glob (v := .int 64) rfl h6 ⟨_, rfl⟩))))), ?_⟩
  refine ⟨_, rfl, _, _, rfl, .int i, _, rfl, ?_⟩
  refine ite2 (fun _ => ?_) (fun h => absurd rfl h)
  refine ⟨_, rfl, _, _, rfl, rfl, _, rfl, ?_⟩
  refine ite2 (fun h => ?_) (fun h => absurd (decide_eq_true i0) h)
  refine ⟨_, _, rfl, rfl, ?_⟩
  show Q (V.bl (decide (i ≤ 64))) H
  rw [decide_eq_true i1]
  exact q
def spCkShift : Sp := fun vs H Q _ => ∃ i : Int, vs = [.int i] ∧ 0 ≤ i ∧ i ≤ 64 ∧ Q .non H
theorem scCkShift : FnScope ["thing"] ["thing"] (defScope sCkShift) := ⟨rfl, rfl, rfl, by decide +kernel, rfl, by decide +kernel, by decide +kernel⟩
theorem ok_ckShift {fd fdI fdJ : FuncData} (T : Txt K mg) (F : FnG K "check_shift" sCkShift fd) (FJ : FnG K "is_shift" sIsShift fdJ) (FI : FnG K "is_integer" sIsInt fdI) : FnOk P w K mg base CX0 3 (ga K "check_shift") fd ["thing"] spCkShift := by
  have GJ : FnOk P w K mg base CX0 2 (ga K "is_shift") fdJ ["thing"] spIsShift := ok_isShift T FJ FI
  have bJ : Binds K fdJ ["thing"] [] := FJ.bindsN fun _ _ _ _ _ _ us hl => match us, hl with | [_], _ => rfl
  refine F.ok scCkShift (fun vs H Q E h => ?_) (fun cdv A outer s H vs Q E hr h => ?_)
  · obtain ⟨i, rfl, _⟩ := h
    rfl
  obtain ⟨i, rfl, i0, i1, q⟩ := h
  refine ⟨_, PSs.nox (pss_one (ps_if (pt_not (pt_val (pe_call GJ hr rfl (T.g "is_shift") FJ.kp bJ .nil pass0 (pa_cons (pv 0) pa_nil)))) (pss_one ps_never) pss_nil)), ?_⟩
  refine ⟨_, rfl, i, rfl, i0, i1, _, rfl, ?_⟩
  exact ite2 (fun h => Bool.noConfusion (show false = true from h)) (fun _ => q)
def spShl (K : PySem.W.Frag) : Sp := fun vs H Q _ => ∃ (ka : Kd) (i : Int), vs = [.ref ka.a, .int i] ∧ 0 ≤ i ∧ i ≤ 64 ∧ FmD K H ka ∧ Fits [ka] ∧ ∀ H' x, Same H H' → FmD K H' (nd x "Formula" "shift" [.ref ka.a, .int i] [] [ka]) → Q (.ref x) H'
theorem scShl : FnScope ["self", "other"] ["self", "other"] (defScope sShl) := ⟨rfl, rfl, rfl, by decide +kernel, rfl, by decide +kernel, by decide +kernel⟩
theorem ok_shl {fd fdF fdC fdI fdJ : FuncData} (T : Txt K mg) (F : FnF K "__lshift__" "Formula.__lshift__" sShl fd) (FF : FnM K "Formula" "Formula.__init__" sForm [] fdF) (FC' : FnG K "check_shift" sCkShift fdC) (FJ : FnG K "is_shift" sIsShift fdJ) (FI : FnG K "is_integer" sIsInt fdI) :
    FnOk P w K mg base CX0 4 (ma K (ga K "Formula") "__lshift__") fd ["self", "other"] (spShl K) := by
  have GF : FnOk P w K mg base CX0 1 (ma K (ga K "Formula") "__init__") fdF ["self", "kind", "things", "inner"] (spForm K) := ok_form T FF
  have GC : FnOk P w K mg base CX0 3 (ga K "check_shift") fdC ["thing"] spCkShift := ok_ckShift T FC' FJ FI
  have bC : Binds K fdC ["thing"] [] := FC'.bindsN fun _ _ _ _ _ _ us hl => match us, hl with | [_], _ => rfl
  have bF : Binds K fdF ["self", "kind", "things", "inner"] [] := FF.bindsN fun _ _ _ _ _ _ us hl => match us, hl with | [_, _, _, _], _ => rfl
  refine F.ok scShl (fun vs H Q E h => ?_) (fun cdv A outer s H vs Q E hr h => ?_)
  · obtain ⟨ka, i, rfl, _⟩ := h
    rfl
  obtain ⟨ka, i, rfl, i0, i1, ha, fit, q⟩ := h
  refine ⟨_, PSs.nox (pss_cons (ps_expr (pe_call GC (hr.mono (by decide)) rfl (T.g "check_shift") FC'.kp bC .nil pass0 (pa_cons (pv 1) pa_nil)))
    (pss_one (ps_ret (pe_make (T.ins "Formula" (by decide +kernel)).mkr GF (hr.mono (by decide)) rfl (T.g "Formula") bF .nil pass0 (pa_cons pe_str (pa_cons (pe_tup (pa_cons (pv 0) (pa_cons (pv 1) pa_nil))) (pa_cons (pe_tup (pa_cons (pv 0) pa_nil)) pa_nil))))))), ?_⟩
  refine ⟨_, rfl, i, rfl, i0, i1, ?_⟩
  refine ⟨_, rfl, _, rfl, tsz (by show 2 ≤ 1000; decide), fun t ht => ⟨_, rfl, tsz (by show 1 ≤ 1000; decide), fun e he => ?_⟩⟩
  have s1 : Same H (upd H t (.tup [.ref ka.a, .int i])) := fun b o q => by rw [upd_ne (ne_of_none q ht)]; exact q
  have et : (upd H t (.tup [.ref ka.a, .int i])) t = some (.tup [.ref ka.a, .int i]) := upd_same
  generalize upd H t (.tup [.ref ka.a, .int i]) = H1 at s1 et he ⊢
  have s2 : Same H1 (upd H1 e (.tup [.ref ka.a])) := fun b o q => by rw [upd_ne (ne_of_none q he)]; exact q
  have ee : (upd H1 e (.tup [.ref ka.a])) e = some (.tup [.ref ka.a]) := upd_same
  generalize upd H1 e (.tup [.ref ka.a]) = H2 at s2 ee ⊢
  intro x dx hx hdx hne
  exact form_read T (s1.trans s2) (fun q hq => by rw [List.mem_singleton.mp hq]; exact ha) (by show 1 ≤ 10; decide) fit (s2 _ _ et) ee (fun _ => .shift _ _) q x dx hx hdx hne _
/-! ### Number, Name -/
theorem fits0 : Fits [] := ⟨by decide, by decide⟩
/-- what an __init__ leaves -/
def Left (H : Hp) (a C dx : Addr) (kd : Str) (p d : Nat) (th : List V) (Q : VK) : Prop := ∀ H' t, SameBut a H H' → H' a = some (.ins C dx (flds (.str kd) (.ref t) p d)) → H' t = some (.tup th) → Q .non H'
theorem init_read {H H2 : Hp} {a C dx t e : Addr} {kd : Str} {th : List V} {ks : List Kd} {Q : VK} {E : XK} (ha : H a = some (.ins C dx [])) (I : InsT K C) (s2 : Same H H2) (et : H2 t = some (.tup th)) (ee : H2 e = some (.tup (refs ks))) (r : ∀ q ∈ ks, KidAt K H q) (hl : ks.length ≤ 10) (fit : Fits ks)
    (k : Left H a C dx kd (1 + sumP ks) (1 + maxD ks) th Q) : spForm K [.ref a, .str kd, .ref t, .ref e] H2 Q E := by
  have ha2 := s2 _ _ ha
  exact ⟨a, C, dx, e, _, _, ks, rfl, ha2, I, ee, fun k hk => (r k hk).same s2, hl, fit, fun H' sb e' => k H' t ((SameBut.of s2).trans sb) e' (tup_but ha2 sb et)⟩
def spNumI (K : PySem.W.Frag) : Sp := fun vs H Q _ => ∃ (a C dx : Addr) (i : Int), vs = [.ref a, .int i] ∧ 0 ≤ i ∧ i < 10 ^ 30 ∧ H a = some (.ins C dx []) ∧ InsT K C ∧ Left H a C dx "number" 1 1 [.int i] Q
theorem scNum : FnScope ["self", "n"] ["self", "n"] (defScope sNum) := ⟨rfl, rfl, rfl, by decide +kernel, rfl, by decide +kernel, by decide +kernel⟩
theorem ok_num {fd fdF fdI : FuncData} (T : Txt K mg) (F : FnM K "Number" "Number.__init__" sNum [] fd) (FF : FnM K "Formula" "Formula.__init__" sForm [] fdF) (FI : FnG K "is_integer" sIsInt fdI) : FnOk P w K mg base CX0 2 (ma K (ga K "Number") "__init__") fd ["self", "n"] (spNumI K) := by
  have GF : FnOk P w K mg base CX0 1 (ma K (ga K "Formula") "__init__") fdF ["self", "kind", "things", "inner"] (spForm K) := ok_form T FF
  have GI : FnOk P w K mg base CX0 1 (ga K "is_integer") fdI ["thing"] spIsInt := ok_isInt T FI
  have bI : Binds K fdI ["thing"] [] := FI.bindsN fun _ _ _ _ _ _ us hl => match us, hl with | [_], _ => rfl
  have bF : Binds K fdF ["self", "kind", "things", "inner"] [] := FF.bindsN fun _ _ _ _ _ _ us hl => match us, hl with | [_, _, _, _], _ => rfl
  obtain ⟨tE, hE⟩ := T.nEnd
  refine F.ok scNum (fun vs H Q E h => ?_) (fun cdv A outer s H vs Q E hr h => ?_)
  · obtain ⟨a, C, dx, i, rfl, _⟩ := h
    rfl
  obtain ⟨a, C, dx, i, rfl, i0, i1, ha, I, k⟩ := h
  refine ⟨_, PSs.nox (pss_cons (ps_if (PW.pt (pw_or (pt_not (pt_val (pe_call GI hr rfl (T.g "is_integer") FI.kp bI .nil pass0 (pa_cons (pv 1) pa_nil))))
      (pw_or1 (pt_not (pt_chain op_le op_lt pe_int (pv 1) (pe_glob (v := .int (10 ^ 30)) rfl hE ⟨_, rfl⟩)))))) (pss_one ps_never) pss_nil)
    (pss_one (ps_expr (pe_clfn (x := "Formula") rfl (T.g "Formula") T.foI GF hr FF.kp bF .nil pass0 (pa_cons (pv 0) (pa_cons pe_str (pa_cons (pe_tup (pa_cons (pv 1) pa_nil)) (pa_cons (pe_tup pa_nil) pa_nil)))))))), ?_⟩
  refine ⟨_, rfl, _, _, rfl, .int i, _, rfl, ?_⟩
  refine ite2 (fun h => Bool.noConfusion (show false = true from h)) (fun _ => ?_)
  refine ⟨_, rfl, _, _, rfl, rfl, _, rfl, ?_⟩
  refine ite2 (fun h => ?_) (fun h => absurd (decide_eq_true i0) h)
  refine ⟨_, _, rfl, rfl, _, rfl, ?_⟩
  refine ite2 (fun h => ?_) (fun _ => ?_)
  · have h : (!decide (i < 10 ^ 30)) = true := h
    rw [decide_eq_true i1] at h
    cases h
  refine ⟨_, rfl, _, rfl, tsz (by show 1 ≤ 1000; decide), fun t ht => ⟨tsz (by show 0 ≤ 1000; decide), fun e he => ?_⟩⟩
  have s1 : Same H (upd H t (.tup [.int i])) := fun b o q => by rw [upd_ne (ne_of_none q ht)]; exact q
  have et : (upd H t (.tup [.int i])) t = some (.tup [.int i]) := upd_same
  generalize upd H t (.tup [.int i]) = H1 at s1 et he ⊢
  have s2 : Same H1 (upd H1 e (.tup [])) := fun b o q => by rw [upd_ne (ne_of_none q he)]; exact q
  exact init_read (E := E0) (ks := []) ha I (s1.trans s2) (s2 _ _ et) upd_same (fun k hk => by cases hk) (by decide) fits0 k
def spNameI (K : PySem.W.Frag) : Sp := fun vs H Q _ => ∃ (a C dx : Addr) (z : Str), vs = [.ref a, .str z] ∧ GoodN z ∧ H a = some (.ins C dx []) ∧ InsT K C ∧ Left H a C dx "name" 1 1 [.str z] Q
theorem scName : FnScope ["self", "name"] ["self", "name"] (defScope sName) := ⟨rfl, rfl, rfl, by decide +kernel, rfl, by decide +kernel, by decide +kernel⟩
theorem ok_name {fd fdF fdC fdN : FuncData} (T : Txt K mg) (F : FnM K "Name" "Name.__init__" sName [] fd) (FF : FnM K "Formula" "Formula.__init__" sForm [] fdF) (FC' : FnG K "check_name" sCkName fdC) (FN : FnG K "is_name" sIsName fdN) : FnOk P w K mg base CX0 3 (ma K (ga K "Name") "__init__") fd ["self", "name"] (spNameI K) := by
  have GF : FnOk P w K mg base CX0 1 (ma K (ga K "Formula") "__init__") fdF ["self", "kind", "things", "inner"] (spForm K) := ok_form T FF
  have GC : FnOk P w K mg base CX0 2 (ga K "check_name") fdC ["thing"] spCkName := ok_ckName T FC' FN
  have bC : Binds K fdC ["thing"] [] := FC'.bindsN fun _ _ _ _ _ _ us hl => match us, hl with | [_], _ => rfl
  have bF : Binds K fdF ["self", "kind", "things", "inner"] [] := FF.bindsN fun _ _ _ _ _ _ us hl => match us, hl with | [_, _, _, _], _ => rfl
  refine F.ok scName (fun vs H Q E h => ?_) (fun cdv A outer s H vs Q E hr h => ?_)
  · obtain ⟨a, C, dx, i, rfl, _⟩ := h
    rfl
  obtain ⟨a, C, dx, z, rfl, z0, ha, I, k⟩ := h
  refine ⟨_, PSs.nox (pss_cons (ps_expr (pe_call GC hr rfl (T.g "check_name") FC'.kp bC .nil pass0 (pa_cons (pv 1) pa_nil)))
    (pss_one (ps_expr (pe_clfn (x := "Formula") rfl (T.g "Formula") T.foI GF (hr.mono (by decide)) FF.kp bF .nil pass0 (pa_cons (pv 0) (pa_cons pe_str (pa_cons (pe_tup (pa_cons (pv 1) pa_nil)) (pa_cons (pe_tup pa_nil) pa_nil)))))))), ?_⟩
  refine ⟨_, rfl, z, rfl, z0, fun H0 s0 => ?_⟩
  refine ⟨_, rfl, _, rfl, tsz (by show 1 ≤ 1000; decide), fun t ht => ⟨tsz (by show 0 ≤ 1000; decide), fun e he => ?_⟩⟩
  have s1 : Same H0 (upd H0 t (.tup [.str z])) := fun b o q => by rw [upd_ne (ne_of_none q ht)]; exact q
  have et : (upd H0 t (.tup [.str z])) t = some (.tup [.str z]) := upd_same
  generalize upd H0 t (.tup [.str z]) = H1 at s1 et he ⊢
  have s2 : Same H1 (upd H1 e (.tup [])) := fun b o q => by rw [upd_ne (ne_of_none q he)]; exact q
  exact init_read (E := E0) (ks := []) ha I ((s0.trans s1).trans s2) (s2 _ _ et) upd_same (fun k hk => by cases hk) (by decide) fits0 k
/-! ### inner_formulas -/
def spInner (K : PySem.W.Frag) : Sp := fun vs H Q _ => ∃ (k : Kd) (ks : List Kd), vs = [.ref k.a] ∧ NodeAt K H k ks ∧ ∀ u H', Same H H' → H' u = some (.tup (refs ks)) → Q (.ref u) H'
theorem scInner : FnScope ["formula"] ["formula"] (defScope sInner) := ⟨rfl, rfl, rfl, by decide +kernel, rfl, by decide +kernel, by decide +kernel⟩
theorem ok_inner {fd : FuncData} (T : Txt K mg) (F : FnG K "inner_formulas" sInner fd) : FnOk P w K mg base CX0 1 (ga K "inner_formulas") fd ["formula"] (spInner K) := by
  refine F.ok scInner (fun vs H Q E h => ?_) (fun cdv A outer s H vs Q E hr h => ?_)
  · obtain ⟨k, ks, rfl, _⟩ := h
    rfl
  obtain ⟨k, ks, rfl, ⟨dx, t, own, ha, et, hs, _⟩, q⟩ := h
  have I := T.ins _ hs.cls
  generalize k.kd = kd at ha hs
  generalize k.th = th at et hs
  generalize k.C = C at ha hs I
  refine ⟨_, PSs.nox (pss_cons (ps_if (pt_cmpR op_in_seq (pe_fld (pv 0) rfl) (pe_tup (pa_cons pe_str (pa_cons pe_str pa_nil))) rfl) (pss_one (ps_ret (pe_tup pa_nil))) pss_nil)
    (pss_cons (ps_if (pt_cmpR op_eq (pe_fld (pv 0) rfl) pe_str (nomark _)) (pss_one (ps_ret (pe_slice sl_tup (pe_fld (pv 0) rfl) po_none (po_some pe_int)))) pss_nil)
    (pss_cons (ps_if (pt_cmpR op_eq (pe_fld (pv 0) rfl) pe_str (nomark _)) (pss_one (ps_ret (pe_slice sl_tup (pe_fld (pv 0) rfl) (po_some pe_int) po_none))) pss_nil)
    (pss_cons (ps_if (pt_cmpR op_eq (pe_fld (pv 0) rfl) pe_str (nomark _)) (pss_one (ps_ret (pe_ix ix_tup (pe_fld (pv 0) rfl) pe_int (fun _ _ => rfl)))) pss_nil)
    (pss_one (ps_ret (pe_fld (pv 0) rfl))))))), ?_⟩
  have nk := I.no "kind" (by decide +kernel)
  have nt := I.no "things" (by decide +kernel)
  generalize refs ks = as at hs q
  refine ⟨_, rfl, k.a, _, dx, _, .str kd, rfl, ha, I.cl, nk, rfl, tsz (by show 2 ≤ 1000; decide), fun p hp => ?_⟩
  have s1 : Same H (upd H p (.tup [.str "number", .str "name"])) := fun b o q => by rw [upd_ne (ne_of_none q hp)]; exact q
  have ep : (upd H p (.tup [.str "number", .str "name"])) p = some (.tup [.str "number", .str "name"]) := upd_same
  generalize upd H p (.tup [.str "number", .str "name"]) = H1 at s1 ep ⊢
  have ha1 := s1 _ _ ha
  refine ⟨p, _, rfl, .inr (SqT.of ep), rfl, rfl, _, rfl, ?_⟩
  cases hs with
  | num i =>
    refine ite2 (fun _ => ?_) (fun n => absurd (by decide +kernel) n)
    exact ⟨tsz (by show 0 ≤ 1000; decide), fun u hu => q u _ (s1.trans fun b o e => by rw [upd_ne (ne_of_none e hu)]; exact e) upd_same⟩
  | nam z =>
    refine ite2 (fun _ => ?_) (fun n => absurd (by decide +kernel) n)
    exact ⟨tsz (by show 0 ≤ 1000; decide), fun u hu => q u _ (s1.trans fun b o e => by rw [upd_ne (ne_of_none e hu)]; exact e) upd_same⟩
  | seq _ h =>
    have d1 : inV (.str kd) [.str "number", .str "name"] = false := by rcases h with rfl | rfl | rfl | rfl <;> decide +kernel
    have d2 : decide (V.str kd = V.str "shift") = false := by rcases h with rfl | rfl | rfl | rfl <;> decide +kernel
    have d3 : decide (V.str kd = V.str "sum") = false := by rcases h with rfl | rfl | rfl | rfl <;> decide +kernel
    have d4 : decide (V.str kd = V.str "call") = false := by rcases h with rfl | rfl | rfl | rfl <;> decide +kernel
    refine ite2 (fun n => Bool.noConfusion (d1.symm.trans n)) (fun _ => ?_)
    refine ⟨_, rfl, k.a, _, dx, _, _, rfl, ha1, I.cl, nk, rfl, rfl, _, rfl, ite2 (fun n => Bool.noConfusion (d2.symm.trans n)) (fun _ => ?_)⟩
    refine ⟨_, rfl, k.a, _, dx, _, _, rfl, ha1, I.cl, nk, rfl, rfl, _, rfl, ite2 (fun n => Bool.noConfusion (d3.symm.trans n)) (fun _ => ?_)⟩
    refine ⟨_, rfl, k.a, _, dx, _, _, rfl, ha1, I.cl, nk, rfl, rfl, _, rfl, ite2 (fun n => Bool.noConfusion (d4.symm.trans n)) (fun _ => ?_)⟩
    exact ⟨_, rfl, k.a, _, dx, _, _, rfl, ha1, I.cl, nt, rfl, q t H1 s1 (s1 _ _ et)⟩
  | shift a n =>
    refine ite2 (fun n => absurd n (by decide +kernel)) (fun _ => ?_)
    refine ⟨_, rfl, k.a, _, dx, _, _, rfl, ha1, I.cl, nk, rfl, rfl, _, rfl, ite2 (fun _ => ?_) (fun n => absurd (by decide +kernel) n)⟩
    refine ⟨_, rfl, k.a, _, dx, _, _, rfl, ha1, I.cl, nt, rfl, _, rfl, t, _, rfl, SqT.of (s1 _ _ et), (by show ¬ (HT.sIx 2 0 none = 0 ∧ HT.sIx 2 2 (some 1) = 2); decide +kernel), fun u hu => ?_⟩
    exact q u _ (s1.trans fun b o e => by rw [upd_ne (ne_of_none e hu)]; exact e) upd_same
  | sum i b a =>
    refine ite2 (fun n => absurd n (by decide +kernel)) (fun _ => ?_)
    refine ⟨_, rfl, k.a, _, dx, _, _, rfl, ha1, I.cl, nk, rfl, rfl, _, rfl, ite2 (fun n => absurd n (by decide +kernel)) (fun _ => ?_)⟩
    refine ⟨_, rfl, k.a, _, dx, _, _, rfl, ha1, I.cl, nk, rfl, rfl, _, rfl, ite2 (fun _ => ?_) (fun n => absurd (by decide +kernel) n)⟩
    refine ⟨_, rfl, k.a, _, dx, _, _, rfl, ha1, I.cl, nt, rfl, _, rfl, t, _, rfl, SqT.of (s1 _ _ et), (by show ¬ (HT.sIx 3 0 (some 2) = 0 ∧ HT.sIx 3 3 none = 3); decide +kernel), fun u hu => ?_⟩
    exact q u _ (s1.trans fun b o e => by rw [upd_ne (ne_of_none e hu)]; exact e) upd_same
  | @call u nm _ e2 =>
    refine ite2 (fun n => absurd n (by decide +kernel)) (fun _ => ?_)
    refine ⟨_, rfl, k.a, _, dx, _, _, rfl, ha1, I.cl, nk, rfl, rfl, _, rfl, ite2 (fun n => absurd n (by decide +kernel)) (fun _ => ?_)⟩
    refine ⟨_, rfl, k.a, _, dx, _, _, rfl, ha1, I.cl, nk, rfl, rfl, _, rfl, ite2 (fun n => absurd n (by decide +kernel)) (fun _ => ?_)⟩
    refine ⟨_, rfl, k.a, _, dx, _, _, rfl, ha1, I.cl, nk, rfl, rfl, _, rfl, ite2 (fun _ => ?_) (fun n => absurd (by decide +kernel) n)⟩
    exact ⟨_, rfl, k.a, _, dx, _, _, rfl, ha1, I.cl, nt, rfl, t, _, _, _, rfl, rfl, SqT.of (s1 _ _ et), rfl, q u H1 s1 (s1 _ _ e2)⟩
end
end K1
set_option Elab.async false
set_option linter.all false
set_option maxRecDepth 100000
set_option maxHeartbeats 4000000
namespace K1
open PySem PySem.Spec PyProof.Rows L2 He Sw
section
variable {P : Program} {w : World} {K : PySem.W.Frag} {mg : Str → Option Value} {base : Heap}
/-! ### index_names -/
theorem Shp.sumOr {H : Hp} {C kd : Str} {th as : List V} {own : List Str} (h : Shp H C kd th as own) : (kd = "sum" ∧ ∃ i b a, th = [.str i, b, a] ∧ own = [i]) ∨ (decide (V.str kd = V.str "sum") = false ∧ own = []) := by
  cases h with
  | num i => exact .inr ⟨by decide +kernel, rfl⟩
  | nam z => exact .inr ⟨by decide +kernel, rfl⟩
  | seq _ h => exact .inr ⟨by rcases h with rfl | rfl | rfl | rfl <;> decide +kernel, rfl⟩
  | shift a n => exact .inr ⟨by decide +kernel, rfl⟩
  | sum i b a => exact .inl ⟨rfl, _, _, _, rfl, rfl⟩
  | call nm _ e => exact .inr ⟨by decide +kernel, rfl⟩
theorem ixs_take : ∀ {ks : List Kd} {i : Nat}, (∀ q ∈ ks, q.ix.length ≤ q.p) → (ixs (ks.take i)).length ≤ sumP ks
  | [], i, _ => by simp [ixs]
  | k :: ks, 0, _ => Nat.zero_le _
  | k :: ks, i + 1, h => by
    have h1 := h k List.mem_cons_self
    have h2 := ixs_take (ks := ks) (i := i) fun q hq => h q (List.mem_cons_of_mem _ hq)
    show (k.ix ++ ixs (ks.take i)).length ≤ k.p + sumP ks
    rw [List.length_append]
    omega
theorem ixs_next {ks : List Kd} {i : Nat} {q : Kd} (h : ks[i]? = some q) : ixs (ks.take (i + 1)) = ixs (ks.take i) ++ q.ix := by
  unfold ixs
  rw [List.take_add_one, h]
  simp
def spIx (K : PySem.W.Frag) (n : Nat) : Sp := fun vs H Q _ => ∃ (k : Kd), vs = [.ref k.a] ∧ Fm K n H k ∧ ∀ l H', Same H H' → H l = none → H' l = some (.lst (k.ix.map V.str)) → Q (.ref l) H'
theorem scIx : FnScope ["formula", "found", "one", "index"] ["formula"] (defScope sIx) := ⟨rfl, rfl, rfl, by decide +kernel, rfl, by decide +kernel, by decide +kernel⟩
theorem ok_ix {fd fdI : FuncData} (T : Txt K mg) (F : FnG K "index_names" sIx fd) (FI : FnG K "inner_formulas" sInner fdI) : ∀ n, FnOk P w K mg base CX0 (n + 2) (ga K "index_names") fd ["formula"] (spIx K n)
  | 0 => ⟨fun vs H Q E h => by
      obtain ⟨k, rfl, _⟩ := h
      rfl, fun A outer s H args us vs Q E _ _ _ _ h => by
      obtain ⟨k, _, h, _⟩ := h
      exact h.elim⟩
  | n + 1 => by
    have GX : FnOk P w K mg base CX0 (n + 2) (ga K "index_names") fd ["formula"] (spIx K n) := ok_ix T F FI n
    have GI : FnOk P w K mg base CX0 1 (ga K "inner_formulas") fdI ["formula"] (spInner K) := ok_inner T FI
    have bX : Binds K fd ["formula"] [] := F.bindsN fun _ _ _ _ _ _ us hl => match us, hl with | [_], _ => rfl
    have bI : Binds K fdI ["formula"] [] := FI.bindsN fun _ _ _ _ _ _ us hl => match us, hl with | [_], _ => rfl
    refine F.ok scIx (fun vs H Q E h => ?_) (fun cdv A outer s H vs Q E hr h => ?_)
    · obtain ⟨k, rfl, _⟩ := h
      rfl
    obtain ⟨k, rfl, ⟨ks, hn, hks⟩, q⟩ := h
    obtain ⟨dx, t, own, ha, eth, hs, e1, e2, e3, e4, e5⟩ := id hn
    have I := T.ins _ hs.cls
    have nk := I.no "kind" (by decide +kernel)
    have nt := I.no "things" (by decide +kernel)
    have nd := scIx.nd
    have hr1 : Room 1 _ := hr.mono (by omega)
    refine ⟨_, PSs.nox (pss_cons (ps_setLc2 (i := 1) (own := [("one", 2), ("index", 3)]) (vs1 := [3]) (g := gName 2) (tt := tYes) (wi1 := iList K (tCall (spIx K n) [] E0 (tCons (tVar 2) tNil))) (g1 := gName 3) (tt1 := tYes) (te := tVar 3) rfl nd rfl rfl (sw_true rfl rfl rfl (by decide +kernel))
        (pi_tup (pe_call GI hr1 rfl (T.g "inner_formulas") FI.kp bI .nil pass0 (pa_cons (pv 0) pa_nil))) (blkOk_by (N := ["formula", "found", "one", "index"]) (sc := defScope sIx) (by decide +kernel)) (by decide)
        (fun _ _ _ _ _ => pg_name (i := 2) nd rfl (Or.inl rfl)) (fun _ _ _ _ _ => pts_nil)
        (fun _ _ _ _ _ => pi_list (pe_call GX hr rfl (T.g "index_names") F.kp bX .nil pass0 (pa_cons (pv 2) pa_nil)))
        (fun _ _ _ _ _ => pg_name (i := 3) nd rfl (Or.inl rfl)) (fun _ _ _ _ _ => pts_nil) (fun _ _ _ _ _ => pv 3))
      (pss_cons (ps_if (pt_cmpR op_eq (pe_fld (pv 0) rfl) pe_str (nomark _)) (pss_one (ps_ret (pe_op op_cat (pe_lst (pa_cons (pe_ix ix_tup (pe_fld (pv 0) rfl) pe_int (fun _ _ => rfl)) pa_nil)) (pv 1)))) pss_nil)
      (pss_one (ps_ret (pv 1))))), ?_⟩
    refine ⟨_, rfl, k, ks, rfl, hn, fun u H0 s0 eu => ⟨u, rfl, ⟨_, SqT.of eu⟩, fun D hD => ?_⟩⟩
    have ixl : ∀ q ∈ ks, q.ix.length ≤ q.p := fun q hq => (hks q hq).ixLen
    have up0 : ∀ {H' : Hp} {o : HO}, Same H0 H' → Same H0 (upd H' D o) := fun {H' o} s' b o' e => by rw [upd_ne (ne_of_none e hD)]; exact s' _ _ e
    have hD0 : H D = none := none_back s0 hD
    refine ⟨fun i m H' => m = ks.length - i ∧ i ≤ ks.length ∧ Same H0 H' ∧ H' D = some (.lst ((ixs (ks.take i)).map V.str)), ⟨_, rfl, Nat.zero_le _, up0 (Same.refl _), by rw [upd_same]; rfl⟩, ?_⟩
    rintro i m H1 ⟨rfl, hi, s1, eD⟩
    have hlen : (refs ks).length = ks.length := by simp [refs]
    by_cases hlt : i < ks.length
    · -- one more formula
      have hq : ks[i]? = some ks[i] := List.getElem?_eq_getElem hlt
      generalize ks[i] = qk at hq
      have hmem : qk ∈ ks := List.mem_of_getElem? hq
      have href : (refs ks)[i]? = some (V.ref qk.a) := by unfold refs; rw [List.getElem?_map, hq]; rfl
      refine .inr ⟨⟨_, _, SqT.of (s1 _ _ eu), href⟩, fun H' => i + 1 ≤ ks.length ∧ Same H0 H' ∧ H' D = some (.lst ((ixs (ks.take (i + 1))).map V.str)), fun H' ⟨a1, a2, a3⟩ => ⟨_, by omega, rfl, a1, a2, a3⟩, ?_⟩
      rintro x H2 ⟨rfl, hx⟩
      obtain rfl : x = V.ref qk.a := by
        have e := hx _ (SqT.of (s1 _ _ eu))
        rw [href] at e
        injection e with e
        exact e.symm
      refine ⟨rfl, ?_⟩
      refine ⟨_, rfl, qk, rfl, (hks qk hmem).same (s0.trans s1), fun l H3 s3 hl el => ⟨l, rfl, ⟨_, SqL.of el⟩, ?_⟩⟩
      have nl : l ≠ D := fun z => by rw [z, eD] at hl; cases hl
      have lqx : qk.ix.length ≤ 300 := by
        have a1 := (hks qk hmem).ixLen
        have a2 := (hks qk hmem).small.1
        omega
      have ltk : (ixs (ks.take i)).length ≤ 300 := by
        have a1 := ixs_take (i := i) ixl
        omega
      refine ⟨fun j m' H' => m' = qk.ix.length - j ∧ j ≤ qk.ix.length ∧ Same H0 H' ∧ H' l = some (.lst (qk.ix.map V.str)) ∧ H' D = some (.lst ((ixs (ks.take i) ++ qk.ix.take j).map V.str)), ⟨_, rfl, Nat.zero_le _, s1.trans s3, el, by rw [List.take_zero, List.append_nil]; exact s3 _ _ eD⟩, ?_⟩
      rintro j m' H4 ⟨rfl, hj, s4, el4, eD4⟩
      by_cases hjl : j < qk.ix.length
      · have hz : qk.ix[j]? = some qk.ix[j] := List.getElem?_eq_getElem hjl
        generalize qk.ix[j] = z at hz
        have hzm : (qk.ix.map V.str)[j]? = some (V.str z) := by rw [List.getElem?_map, hz]; rfl
        refine .inr ⟨⟨_, _, SqL.of el4, hzm⟩, fun H' => j + 1 ≤ qk.ix.length ∧ Same H0 H' ∧ H' l = some (.lst (qk.ix.map V.str)) ∧ H' D = some (.lst ((ixs (ks.take i) ++ qk.ix.take (j + 1)).map V.str)), fun H' ⟨a1, a2, a3, a4⟩ => ⟨_, by omega, rfl, a1, a2, a3, a4⟩, ?_⟩
        rintro x H5 ⟨rfl, hx⟩
        obtain rfl : x = V.str z := by
          have e := hx _ (SqL.of el4)
          rw [hzm] at e
          injection e with e
          exact e.symm
        refine ⟨rfl, ?_⟩
        refine ⟨_, rfl, _, eD4, ?_, hjl, up0 s4, by rw [upd_ne nl]; exact el4, ?_⟩
        · rw [List.length_map, List.length_append, List.length_take, sizeLine_eq]
          omega
        · rw [upd_same, List.take_add_one, hz]
          simp
      · have ej : j = qk.ix.length := by omega
        subst ej
        refine .inl ⟨⟨_, SqL.of el4, by rw [List.length_map]; exact Nat.le_refl _⟩, hlt, s4, ?_⟩
        rw [eD4, List.take_length, ixs_next hq]
    · -- all of them
      have ei : i = ks.length := by omega
      subst ei
      refine .inl ⟨⟨_, SqT.of (s1 _ _ eu), by rw [hlen]; exact Nat.le_refl _⟩, ?_⟩
      rw [List.take_length] at eD
      have s01 := s0.trans s1
      refine ⟨_, rfl, k.a, _, dx, _, .str k.kd, rfl, s01 _ _ ha, I.cl, nk, rfl, rfl, _, rfl, ?_⟩
      rcases hs.sumOr with ⟨ekd, ix, b, a, et, rfl⟩ | ⟨hne, rfl⟩
      · rw [et] at eth
        have et := eth
        refine ite2 (fun _ => ?_) (fun n => absurd (by rw [ekd]; decide +kernel) n)
        refine ⟨_, rfl, k.a, _, dx, _, _, rfl, s01 _ _ ha, I.cl, nt, rfl, t, _, _, .str ix, rfl, rfl, SqT.of (s01 _ _ et), rfl, tsz (by show 1 ≤ 1000; decide), fun p hp => ?_⟩
        have s2 : Same H1 (upd H1 p (.lst [.str ix])) := fun b o e => by rw [upd_ne (ne_of_none e hp)]; exact e
        have ep : (upd H1 p (.lst [.str ix])) p = some (.lst [.str ix]) := upd_same
        generalize upd H1 p (.lst [.str ix]) = H2 at s2 ep ⊢
        refine ⟨_, rfl, p, D, _, _, rfl, rfl, ep, s2 _ _ eD, ?_, fun l hl => ?_⟩
        · have a1 := ixs_len ixl
          rw [List.length_map, sizeLine_eq]
          show 1 + _ ≤ _
          omega
        · refine q l _ ((s01.trans s2).trans fun b o e => by rw [upd_ne (ne_of_none e hl)]; exact e) (none_back (s01.trans s2) hl) ?_
          rw [upd_same, e3]
          simp
      · refine ite2 (fun n => Bool.noConfusion (hne.symm.trans n)) (fun _ => ?_)
        refine ⟨_, rfl, q D H1 s01 hD0 ?_⟩
        rw [eD, e3]
        rfl
theorem flat_strs (zs : List Str) : (zs.map V.str).all flatV = true := by
  rw [List.all_eq_true]
  intro v hv
  obtain ⟨z, _, rfl⟩ := List.mem_map.mp hv
  rfl
theorem inV_strs (z : Str) : ∀ zs : List Str, inV (.str z) (zs.map V.str) = decide (z ∈ zs)
  | [] => rfl
  | y :: zs => by
    have h := inV_strs z zs
    have e : inV (.str z) ((y :: zs).map V.str) = (eqV (.str y) (.str z) || inV (.str z) (zs.map V.str)) := rfl
    have e2 : eqV (.str y) (.str z) = decide (z = y) := by
      show decide _ = _
      by_cases c : z = y
      · subst c
        simp
      · simp [c, Ne.symm c]
    rw [e, e2, h]
    by_cases c : z = y
    · simp [c]
    · simp [c]
/-! ### Sum.__init__ -/
/-- what bounds a sum: a number, or a name that is not the index -/
def BndAt (K : PySem.W.Frag) (H : Hp) (b : Kd) (i : Str) : Prop := FmD K H b ∧ ((∃ n : Int, b.C = "Number" ∧ b.th = [.int n]) ∨ ∃ z : Str, b.C = "Name" ∧ b.th = [.str z] ∧ z ≠ i)
def spSumI (K : PySem.W.Frag) : Sp := fun vs H Q _ => ∃ (a C dx : Addr) (b : Kd) (i : Str) (k : Kd), vs = [.ref a, .str i, .ref b.a, .ref k.a] ∧ GoodN i ∧ H a = some (.ins C dx []) ∧ InsT K C ∧ BndAt K H b i ∧ FmD K H k ∧ i ∉ k.ix ∧ Fits [k] ∧ Left H a C dx "sum" (1 + sumP [k]) (1 + maxD [k]) [.str i, .ref b.a, .ref k.a] Q
theorem scSum : FnScope ["self", "index", "below", "body"] ["self", "index", "below", "body"] (defScope sSum) := ⟨rfl, rfl, rfl, by decide +kernel, rfl, by decide +kernel, by decide +kernel⟩
theorem ok_sum {fd fdF fdC fdN fdK fdX fdI : FuncData} (T : Txt K mg) (F : FnM K "Sum" "Sum.__init__" sSum [] fd) (FF : FnM K "Formula" "Formula.__init__" sForm [] fdF) (FC' : FnG K "check_name" sCkName fdC) (FN : FnG K "is_name" sIsName fdN) (FK : FnG K "check_formula" sCkForm fdK) (FX : FnG K "index_names" sIx fdX) (FI : FnG K "inner_formulas" sInner fdI) :
    FnOk P w K mg base CX0 43 (ma K (ga K "Sum") "__init__") fd ["self", "index", "below", "body"] (spSumI K) := by
  have GF : FnOk P w K mg base CX0 1 (ma K (ga K "Formula") "__init__") fdF ["self", "kind", "things", "inner"] (spForm K) := ok_form T FF
  have GC : FnOk P w K mg base CX0 2 (ga K "check_name") fdC ["thing"] spCkName := ok_ckName T FC' FN
  have GK : FnOk P w K mg base CX0 1 (ga K "check_formula") fdK ["thing"] (spCkForm K) := ok_ckForm T FK
  have GX : FnOk P w K mg base CX0 42 (ga K "index_names") fdX ["formula"] (spIx K 40) := ok_ix T FX FI 40
  have bC : Binds K fdC ["thing"] [] := FC'.bindsN fun _ _ _ _ _ _ us hl => match us, hl with | [_], _ => rfl
  have bK : Binds K fdK ["thing"] [] := FK.bindsN fun _ _ _ _ _ _ us hl => match us, hl with | [_], _ => rfl
  have bX : Binds K fdX ["formula"] [] := FX.bindsN fun _ _ _ _ _ _ us hl => match us, hl with | [_], _ => rfl
  have bF : Binds K fdF ["self", "kind", "things", "inner"] [] := FF.bindsN fun _ _ _ _ _ _ us hl => match us, hl with | [_, _, _, _], _ => rfl
  refine F.ok scSum (fun vs H Q E h => ?_) (fun cdv A outer s H vs Q E hr h => ?_)
  · obtain ⟨a, C, dx, b, i, k, rfl, _⟩ := h
    rfl
  obtain ⟨a, C, dx, b, i, k, rfl, z0, ha, I, ⟨hb, hbk⟩, hk, ni, fit, q⟩ := h
  have hr1 : Room 1 _ := hr.mono (by decide)
  have hr2 : Room 2 _ := hr.mono (by decide)
  obtain ⟨dxb, tb, hCb, eb, etb⟩ := hb.kid
  have INu := T.ins _ hCb
  refine ⟨_, PSs.nox (pss_cons (ps_expr (pe_call GC hr2 rfl (T.g "check_name") FC'.kp bC .nil pass0 (pa_cons (pv 1) pa_nil)))
    (pss_cons (ps_if (PW.pt (pw_or (pt_not (pt_val (pe_callB call_isiT rfl (T.f "isinstance") (by decide +kernel) (pa_cons (pv 2) (pa_cons (pe_tup (pa_cons (pe_glob (v := .ref (ga K "Name")) rfl (T.g "Name") rfl) (pa_cons (pe_glob (v := .ref (ga K "Number")) rfl (T.g "Number") rfl) pa_nil))) pa_nil)))))
      (pw_or1 (pt_cmpR op_eq (pe_ix ix_tup (pe_fld (pv 2) rfl) pe_int (fun _ _ => rfl)) (pv 1) (nomark _))))) (pss_one ps_never) pss_nil)
    (pss_cons (ps_expr (pe_call GK hr1 rfl (T.g "check_formula") FK.kp bK .nil pass0 (pa_cons (pv 3) pa_nil)))
    (pss_cons (ps_if (pt_cmpR op_in_seq (pv 1) (pe_call GX hr rfl (T.g "index_names") FX.kp bX .nil pass0 (pa_cons (pv 3) pa_nil)) rfl) (pss_one ps_never) pss_nil)
    (pss_one (ps_expr (pe_clfn (x := "Formula") rfl (T.g "Formula") T.foI GF hr1 FF.kp bF .nil pass0 (pa_cons (pv 0) (pa_cons pe_str (pa_cons (pe_tup (pa_cons (pv 1) (pa_cons (pv 2) (pa_cons (pv 3) pa_nil)))) (pa_cons (pe_tup (pa_cons (pv 3) pa_nil)) pa_nil))))))))))), ?_⟩
  -- the name
  refine ⟨_, rfl, i, rfl, z0, fun H1 s1 => ?_⟩
  -- the bound
  refine ⟨_, rfl, tsz (by show 2 ≤ 1000; decide), fun tp htp => ?_⟩
  have s2 : Same H1 (upd H1 tp (.tup [.ref (ga K "Name"), .ref (ga K "Number")])) := fun b o q => by rw [upd_ne (ne_of_none q htp)]; exact q
  have etp : (upd H1 tp (.tup [.ref (ga K "Name"), .ref (ga K "Number")])) tp = some (.tup [.ref (ga K "Name"), .ref (ga K "Number")]) := upd_same
  generalize upd H1 tp (.tup [.ref (ga K "Name"), .ref (ga K "Number")]) = H2 at s2 etp ⊢
  have s02 := s1.trans s2
  have any : PySem.W.kitAny K (.ref (ga K b.C)) [.ref (ga K "Name"), .ref (ga K "Number")] = some true := by
    rcases hbk with ⟨n, ec, _⟩ | ⟨z, ec, _⟩
    · rw [ec]
      exact kitAny_cons (T.kit "Number" (by decide +kernel) "Name" (by decide +kernel)) (fun _ => kitAny_cons (T.kit "Number" (by decide +kernel) "Number" (by decide +kernel)) (fun h => absurd h (by decide +kernel)) (fun _ => rfl)) (fun _ => rfl)
    · rw [ec]
      exact kitAny_cons (T.kit "Name" (by decide +kernel) "Name" (by decide +kernel)) (fun h => absurd h (by decide +kernel)) (fun _ => rfl)
  refine ⟨.ref b.a, tp, _, _, _, true, rfl, etp, .cons (.own _) (.cons (.own _) .nil), .base (.ins (s02 _ _ eb) INu.cl INu.ha INu.hn INu.ht INu.hm), any, _, rfl, ?_⟩
  refine ite2 (fun h => Bool.noConfusion (show false = true from h)) (fun _ => ?_)
  obtain ⟨v0, ev0, esc, ene⟩ : ∃ v0, atI b.th 0 = some v0 ∧ scal v0 (.str i) = true ∧ decide (v0 = V.str i) = false := by
    rcases hbk with ⟨n, _, et⟩ | ⟨z, _, et, hz⟩
    · exact ⟨.int n, by rw [et]; rfl, rfl, decide_eq_false (fun z => nomatch z)⟩
    · exact ⟨.str z, by rw [et]; rfl, rfl, decide_eq_false (fun y => hz (by injection y))⟩
  refine ⟨_, rfl, b.a, _, dxb, _, _, rfl, s02 _ _ eb, INu.cl, INu.no "things" (by decide +kernel), rfl, tb, _, _, v0, rfl, rfl, SqT.of (s02 _ _ etb), ev0, _, rfl, esc, _, rfl, ?_⟩
  refine ite2 (fun h => Bool.noConfusion (ene.symm.trans h)) (fun _ => ?_)
  -- the body
  refine ⟨_, rfl, _, k, rfl, hk.same s02, ?_⟩
  refine ⟨_, rfl, _, rfl, k, rfl, (hk.same s02).mono hk.small.2.1, fun l H3 s3 hl el => ⟨l, _, rfl, .inl (SqL.of el), rfl, flat_strs _, _, rfl, ?_⟩⟩
  have s03 := s02.trans s3
  refine ite2 (fun h => ?_) (fun h => ?_)
  · have h : inV (.str i) (k.ix.map V.str) = true := h
    rw [inV_strs] at h
    exact absurd (of_decide_eq_true h) ni
  · refine ⟨_, rfl, _, rfl, _, rfl, _, rfl, tsz (by show 3 ≤ 1000; decide), fun t ht => ⟨_, rfl, tsz (by show 1 ≤ 1000; decide), fun e he => ?_⟩⟩
    have s4 : Same H3 (upd H3 t (.tup [.str i, .ref b.a, .ref k.a])) := fun b o q => by rw [upd_ne (ne_of_none q ht)]; exact q
    have et : (upd H3 t (.tup [.str i, .ref b.a, .ref k.a])) t = some (.tup [.str i, .ref b.a, .ref k.a]) := upd_same
    generalize upd H3 t (.tup [.str i, .ref b.a, .ref k.a]) = H4 at s4 et he ⊢
    have s5 : Same H4 (upd H4 e (.tup [.ref k.a])) := fun b o q => by rw [upd_ne (ne_of_none q he)]; exact q
    have ee : (upd H4 e (.tup [.ref k.a])) e = some (.tup [.ref k.a]) := upd_same
    generalize upd H4 e (.tup [.ref k.a]) = H5 at s5 ee ⊢
    exact init_read (E := E0) (ks := [k]) ha I ((s03.trans s4).trans s5) (s5 _ _ et) ee (fun q hq => by rw [List.mem_singleton.mp hq]; exact hk.kid) (by show 1 ≤ 10; decide) fit q
/-! ### is_row -/
def spRow : Sp := fun vs H Q _ => ∃ (l : Addr) (xs : List V), vs = [.ref l] ∧ H l = some (.lst xs) ∧ ∀ H', Same H H' → Q (.bl true) H'
theorem scRow : FnScope ["thing"] ["thing"] (defScope sIsRow) := ⟨rfl, rfl, rfl, by decide +kernel, rfl, by decide +kernel, by decide +kernel⟩
theorem ok_row {fd : FuncData} (T : Txt K mg) (F : FnG K "is_row" sIsRow fd) : FnOk P w K mg base CX0 1 (ga K "is_row") fd ["thing"] spRow := by
  refine F.ok scRow (fun vs H Q E h => ?_) (fun cdv A outer s H vs Q E hr h => ?_)
  · obtain ⟨l, xs, rfl, _⟩ := h
    rfl
  obtain ⟨l, xs, rfl, el, q⟩ := h
  refine ⟨_, PSs.nox (pss_one (ps_ret (pe_callB call_isiT rfl (T.f "isinstance") (by decide +kernel) (pa_cons (pv 0) (pa_cons (pe_tup (pa_cons (pe_bltn (v := .ty "list") rfl (T.f "list") (by decide +kernel) rfl) (pa_cons (pe_bltn (v := .ty "tuple") rfl (T.f "tuple") (by decide +kernel) rfl) pa_nil))) pa_nil))))), ?_⟩
  refine ⟨_, rfl, tsz (by show 2 ≤ 1000; decide), fun tp htp => ?_⟩
  have s2 : Same H (upd H tp (.tup [.ty "list", .ty "tuple"])) := fun b o q => by rw [upd_ne (ne_of_none q htp)]; exact q
  have etp : (upd H tp (.tup [.ty "list", .ty "tuple"])) tp = some (.tup [.ty "list", .ty "tuple"]) := upd_same
  generalize upd H tp (.tup [.ty "list", .ty "tuple"]) = H2 at s2 etp ⊢
  exact ⟨.ref l, tp, _, .type "list", [.type "list", .type "tuple"], true, rfl, etp, .cons (.ty _) (.cons (.ty _) .nil), .base (.lst (s2 _ _ el)), kitAny_cons (b := true) (kit_ty (show kitB _ _ = some true by decide +kernel)) (fun h => nomatch h) (fun _ => rfl), q H2 s2⟩
/-! ### Call.__init__ -/
def spCallI (K : PySem.W.Frag) : Sp := fun vs H Q _ => ∃ (a C dx l : Addr) (z : Str) (ks : List Kd), vs = [.ref a, .str z, .ref l] ∧ GoodN z ∧ H a = some (.ins C dx []) ∧ InsT K C ∧ H l = some (.lst (refs ks)) ∧ 1 ≤ ks.length ∧ ks.length ≤ 4 ∧ (∀ k ∈ ks, FmD K H k) ∧ Fits ks ∧
  ∀ H' t u, SameBut a H H' → H' a = some (.ins C dx (flds (.str "call") (.ref t) (1 + sumP ks) (1 + maxD ks))) → H' t = some (.tup [.str z, .ref u]) → H' u = some (.tup (refs ks)) → Q .non H'
theorem scCall : FnScope ["self", "name", "things", "thing"] ["self", "name", "things"] (defScope sCall) := ⟨rfl, rfl, rfl, by decide +kernel, rfl, by decide +kernel, by decide +kernel⟩
theorem ok_call {fd fdF fdC fdN fdK fdR : FuncData} (T : Txt K mg) (F : FnM K "Call" "Call.__init__" sCall [] fd) (FF : FnM K "Formula" "Formula.__init__" sForm [] fdF) (FC' : FnG K "check_name" sCkName fdC) (FN : FnG K "is_name" sIsName fdN) (FK : FnG K "check_formula" sCkForm fdK) (FR : FnG K "is_row" sIsRow fdR) :
    FnOk P w K mg base CX0 3 (ma K (ga K "Call") "__init__") fd ["self", "name", "things"] (spCallI K) := by
  have GF : FnOk P w K mg base CX0 1 (ma K (ga K "Formula") "__init__") fdF ["self", "kind", "things", "inner"] (spForm K) := ok_form T FF
  have GC : FnOk P w K mg base CX0 2 (ga K "check_name") fdC ["thing"] spCkName := ok_ckName T FC' FN
  have GK : FnOk P w K mg base CX0 1 (ga K "check_formula") fdK ["thing"] (spCkForm K) := ok_ckForm T FK
  have GR : FnOk P w K mg base CX0 1 (ga K "is_row") fdR ["thing"] spRow := ok_row T FR
  have bC : Binds K fdC ["thing"] [] := FC'.bindsN fun _ _ _ _ _ _ us hl => match us, hl with | [_], _ => rfl
  have bK : Binds K fdK ["thing"] [] := FK.bindsN fun _ _ _ _ _ _ us hl => match us, hl with | [_], _ => rfl
  have bR : Binds K fdR ["thing"] [] := FR.bindsN fun _ _ _ _ _ _ us hl => match us, hl with | [_], _ => rfl
  have bF : Binds K fdF ["self", "kind", "things", "inner"] [] := FF.bindsN fun _ _ _ _ _ _ us hl => match us, hl with | [_, _, _, _], _ => rfl
  obtain ⟨t4, h4⟩ := T.mThg
  refine F.ok scCall (fun vs H Q E h => ?_) (fun cdv A outer s H vs Q E hr h => ?_)
  · obtain ⟨a, C, dx, l, z, ks, rfl, _⟩ := h
    rfl
  obtain ⟨a, C, dx, l, z, ks, rfl, z0, ha, I, el, n1, n4, hk, fit, ri⟩ := h
  have nd := scCall.nd
  have hr1 : Room 1 _ := hr.mono (by decide)
  refine ⟨_, PSs.nox (pss_cons (ps_expr (pe_call GC hr rfl (T.g "check_name") FC'.kp bC .nil pass0 (pa_cons (pv 1) pa_nil)))
    (pss_cons (ps_if (PW.pt (pw_or (pt_not (pt_val (pe_call GR hr1 rfl (T.g "is_row") FR.kp bR .nil pass0 (pa_cons (pv 2) pa_nil))))
      (pw_or1 (pt_not (pt_chain op_le op_le pe_int (pe_callB call_len_seq rfl (T.f "len") (by decide +kernel) (pa_cons (pv 2) pa_nil)) (pe_glob (v := .int 4) rfl h4 ⟨_, rfl⟩)))))) (pss_one ps_never) pss_nil)
    (pss_cons (ps_for PassesOwn.never rfl (pi_list (pv 2)) (pg_name (i := 3) nd rfl (Or.inl rfl)) (pss_one (ps_expr (pe_call GK hr1 rfl (T.g "check_formula") FK.kp bK .nil pass0 (pa_cons (pv 3) pa_nil)))))
    (pss_one (ps_expr (pe_clfn (x := "Formula") rfl (T.g "Formula") T.foI GF hr1 FF.kp bF .nil pass0 (pa_cons (pv 0) (pa_cons pe_str (pa_cons (pe_tup (pa_cons (pv 1) (pa_cons (pe_callTy call_tuple_of rfl (T.f "tuple") (by decide +kernel) (pa_cons (pv 2) pa_nil)) pa_nil)))
      (pa_cons (pe_callTy call_tuple_of rfl (T.f "tuple") (by decide +kernel) (pa_cons (pv 2) pa_nil)) pa_nil)))))))))), ?_⟩
  -- the name
  refine ⟨_, rfl, z, rfl, z0, fun H1 s1 => ?_⟩
  -- the row
  refine ⟨_, rfl, l, _, rfl, s1 _ _ el, fun H2 s2 => ⟨_, rfl, ?_⟩⟩
  have s02 := s1.trans s2
  have lr : (refs ks).length = ks.length := by simp [refs]
  refine ite2 (fun h => Bool.noConfusion (show false = true from h)) (fun _ => ?_)
  refine ⟨_, rfl, l, _, rfl, .inl (SqL.of (s02 _ _ el)), _, _, rfl, rfl, _, rfl, ?_⟩
  refine ite2 (fun h => ?_) (fun h => absurd (decide_eq_true (by rw [lr]; omega)) h)
  refine ⟨_, _, rfl, rfl, _, rfl, ?_⟩
  refine ite2 (fun h => ?_) (fun _ => ?_)
  · have h : (!decide (((refs ks).length : Int) ≤ 4)) = true := h
    rw [decide_eq_true (by rw [lr]; omega)] at h
    cases h
  -- each thing is a formula
  refine ⟨_, rfl, l, rfl, ⟨_, SqL.of (s02 _ _ el)⟩, for_list (xs := refs ks) (fun _ σ H' => (∃ v, σ = [some (.ref a), some (.str z), some (.ref l), v]) ∧ H' = H2) ⟨⟨none, rfl⟩, rfl⟩ (fun i σ H' _ ⟨_, eH⟩ => by rw [eH]; exact SqL.of (s02 _ _ el)) ?_ ?_⟩
  · rintro i x σ H' hx ⟨⟨v, rfl⟩, rfl⟩
    obtain ⟨k, hkj, rfl⟩ : ∃ k, ks[i]? = some k ∧ V.ref k.a = x := by
      unfold refs at hx
      rw [List.getElem?_map] at hx
      cases h : ks[i]? with
      | none => rw [h] at hx; cases hx
      | some k => rw [h] at hx; exact ⟨k, rfl, by injection hx⟩
    exact ⟨_, rfl, _, k, rfl, (hk k (List.mem_of_getElem? hkj)).same s02, ⟨_, rfl⟩, rfl⟩
  · rintro σ H' ⟨⟨v, rfl⟩, rfl⟩
    refine ⟨_, rfl, _, rfl, _, rfl, l, _, rfl, .inl ⟨SqL.of (s02 _ _ el), fun u hu => ?_⟩⟩
    have s3 : Same H' (upd H' u (.tup (refs ks))) := fun b o q => by rw [upd_ne (ne_of_none q hu)]; exact q
    have eu : (upd H' u (.tup (refs ks))) u = some (.tup (refs ks)) := upd_same
    generalize upd H' u (.tup (refs ks)) = H3 at s3 eu ⊢
    refine ⟨tsz (by show 2 ≤ 1000; decide), fun t ht => ?_⟩
    have s4 : Same H3 (upd H3 t (.tup [.str z, .ref u])) := fun b o q => by rw [upd_ne (ne_of_none q ht)]; exact q
    have et : (upd H3 t (.tup [.str z, .ref u])) t = some (.tup [.str z, .ref u]) := upd_same
    generalize upd H3 t (.tup [.str z, .ref u]) = H4 at s4 et ⊢
    have s04 := (s02.trans s3).trans s4
    refine ⟨_, rfl, l, _, rfl, .inl ⟨SqL.of (s04 _ _ el), fun e he => ?_⟩⟩
    have s5 : Same H4 (upd H4 e (.tup (refs ks))) := fun b o q => by rw [upd_ne (ne_of_none q he)]; exact q
    have ee : (upd H4 e (.tup (refs ks))) e = some (.tup (refs ks)) := upd_same
    generalize upd H4 e (.tup (refs ks)) = H5 at s5 ee ⊢
    have s05 := s04.trans s5
    have ha5 := s05 _ _ ha
    exact ⟨a, C, dx, e, _, _, ks, rfl, ha5, I, ee, (fun q hq => ((hk q hq).kid).same s05), by omega, fit, fun H' sb e' => ri H' t u ((SameBut.of s05).trans sb) e' (tup_but ha5 sb (s5 _ _ et)) (tup_but ha5 sb (s5 _ _ (s4 _ _ eu)))⟩
end
end K1
set_option Elab.async false
set_option linter.all false
set_option maxRecDepth 100000
set_option maxHeartbeats 2000000
namespace K1
open PySem PySem.Spec PyProof.Rows L2 He Sw
section
variable {P : Program} {w : World} {K : PySem.W.Frag} {mg : Str → Option Value} {base : Heap}
/-! ### draws -/
/-- at st: the script's copy and the three numbers of the draws -/
def StAt (H : Hp) (st : Addr) (ns : Addr × List Int) : Prop := ∃ (a b c : Int), H st = some (.lst [.ref ns.1, .int a, .int b, .int c]) ∧ H ns.1 = some (.lst (ns.2.map V.int)) ∧ 0 ≤ a ∧ 0 ≤ b ∧ b < 2147483647 ∧ 0 ≤ c
theorem SameBut.refl {a : Addr} {H : Hp} : SameBut a H H := fun _ _ _ e => e
theorem sameBut_upd {a : Addr} {H : Hp} {o : HO} : SameBut a H (upd H a o) := fun b u hb e => by rw [upd_ne hb]; exact e
theorem StAt.put {H : Hp} {st l : Addr} {ns : List Int} {a b c a' b' c' : Int} (h1 : H st = some (.lst [.ref l, .int a, .int b, .int c])) (h2 : H l = some (.lst (ns.map V.int))) (ha : 0 ≤ a') (hb : 0 ≤ b') (hb2 : b' < 2147483647) (hc : 0 ≤ c') (hn : l ≠ st) :
    StAt (upd H st (.lst [.ref l, .int a', .int b', .int c'])) st (l, ns) := ⟨a', b', c', upd_same, by rw [upd_ne hn]; exact h2, ha, hb, hb2, hc⟩
theorem StAt.same {H H' : Hp} {st : Addr} {ns : Addr × List Int} (h : StAt H st ns) (s : Same H H') : StAt H' st ns := by
  obtain ⟨a, b, c, h1, h2, h3⟩ := h
  exact ⟨a, b, c, s _ _ h1, s _ _ h2, h3⟩
theorem st_ne {H : Hp} {st l : Addr} {ns : List Int} {a b c : Int} (h1 : H st = some (.lst [.ref l, .int a, .int b, .int c])) (h2 : H l = some (.lst (ns.map V.int))) : l ≠ st := fun z => by
  rw [z, h1] at h2
  cases ns with
  | nil => cases h2
  | cons n r => cases h2
def spDraw : Sp := fun vs H Q _ => ∃ (st : Addr) (many : Int) (ns : Addr × List Int), vs = [.ref st, .int many] ∧ 0 < many ∧ many ≤ 10 ^ 30 ∧ StAt H st ns ∧ ∀ r H', 0 ≤ r → r < many → StAt H' st ns → SameBut st H H' → Q (.int r) H'
theorem spDraw_len : ∀ vs H Q E, spDraw vs H Q E → vs.length = ["_law_state", "_law_many"].length := fun vs H Q E h => by
  obtain ⟨st, many, ns, rfl, _⟩ := h
  rfl
theorem scDraw : FnScope ["_law_state", "_law_many", "_law_drawn", "_law_cell", "_law_k", "_law_mixed"] ["_law_state", "_law_many"] (defScope sDraw) := ⟨rfl, rfl, rfl, by decide +kernel, rfl, by decide +kernel, by decide +kernel⟩
theorem wideMany {i many : Int} (h0 : 0 < many) (h1 : many ≤ 10 ^ 30) : CDivW i many := wide_div (b := 100) h0 (wide_le (by omega) h1 (by decide)) (by decide) (by decide)
theorem small64 {i : Int} (h0 : 0 ≤ i) (h1 : i < 2147483647) : -(2 ^ 64) < i ∧ i < 2 ^ 64 := ⟨by omega, by omega⟩
theorem ok_draw {fd : FuncData} (T : Txt K mg) (F : FnG K "_law_draw" sDraw fd) : FnOk P w K mg base CX0 1 (ga K "_law_draw") fd ["_law_state", "_law_many"] spDraw := by
  refine F.ok scDraw spDraw_len (fun cdv A outer s H vs Q E hr h => ?_)
  obtain ⟨st, many, ⟨l, ns⟩, rfl, m0, m1, ⟨a, b, c, h1, h2, a0, b0, b1, c0⟩, k⟩ := h
  dsimp only at h1 h2
  obtain ⟨cn, rfl⟩ := Int.eq_ofNat_of_zero_le c0
  have nd := scDraw.nd
  have nls := st_ne h1 h2
  refine ⟨_, PSs.nox (pss_cons (ps_if (pt_cmpR op_gt (pe_ix ix_list (pv 0) pe_int (fun _ _ => rfl)) pe_int (nomark _))
      (pss_cons (ps_set (i := 2) nd rfl (Or.inl rfl) (pe_op op_mod (pe_callTy call_int1 rfl (T.f "int") (by decide +kernel) (pa_cons (pe_ix ix_list (pv 0) pe_int (fun _ _ => rfl)) pa_nil)) (pv 1)))
      (pss_cons (ps_asg (pe_op op_fdivW (pe_ix ix_list (pv 0) pe_int (fun _ _ => rfl)) (pv 1)) (pg_sub (pv 0) pe_int set_list))
      (pss_one (ps_ret (pv 2))))) pss_nil)
    (pss_cons (ps_set (i := 3) nd rfl (Or.inl rfl) pe_int)
    (pss_cons (ps_set (i := 4) nd rfl (Or.inl rfl) (pe_ix ix_list (pv 0) pe_int (fun _ _ => rfl)))
    (pss_cons (ps_asg (pe_op op_add (pv 4) pe_int) (pg_sub (pv 0) pe_int set_list))
    (pss_cons (ps_if (pt_cmpR op_lt (pv 4) (pe_callB call_len_seq rfl (T.f "len") (by decide +kernel) (pa_cons (pe_ix ix_list (pv 0) pe_int (fun _ _ => rfl)) pa_nil)) (nomark _))
      (pss_cons (ps_set (i := 3) nd rfl (Or.inl rfl) (pe_callB call_abs rfl (T.f "abs") (by decide +kernel) (pa_cons (pe_ix ix_list (pe_ix ix_list (pv 0) pe_int (fun _ _ => rfl)) (pv 4) (fun _ _ => rfl)) pa_nil)))
      (pss_one (ps_if (pt_cmpR op_ge (pv 3) (pe_op op_pow pe_int pe_int) (nomark _))
        (pss_cons (ps_asg (pe_op op_fdivW (pv 3) (pv 1)) (pg_sub (pv 0) pe_int set_list))
        (pss_one (ps_ret (pe_op op_mod (pe_callTy call_int1 rfl (T.f "int") (by decide +kernel) (pa_cons (pv 3) pa_nil)) (pv 1))))) pss_nil))) pss_nil)
    (pss_cons (ps_asg (pe_op op_mod (pe_callTy call_int1 rfl (T.f "int") (by decide +kernel) (pa_cons (pe_op op_add (pe_op op_add (pe_op op_add (pe_op op_mul (pe_ix ix_list (pv 0) pe_int (fun _ _ => rfl)) pe_int) (pe_op op_mul (pv 3) pe_int))
        (pe_op op_mul pe_int (pv 4))) pe_int) pa_nil)) pe_int) (pg_sub (pv 0) pe_int set_list))
    (pss_cons (ps_set (i := 5) nd rfl (Or.inl rfl) (pe_op op_mod (pe_callTy call_int1 rfl (T.f "int") (by decide +kernel) (pa_cons (pe_op op_mul (pe_ix ix_list (pv 0) pe_int (fun _ _ => rfl))
        (pe_op op_add (pe_op op_fdiv (pe_ix ix_list (pv 0) pe_int (fun _ _ => rfl)) pe_int) pe_int)) pa_nil)) pe_int))
    (pss_cons (ps_set (i := 5) nd rfl (Or.inl rfl) (pe_op op_mod (pe_callTy call_int1 rfl (T.f "int") (by decide +kernel) (pa_cons (pe_op op_mul (pv 5) (pe_op op_add (pe_op op_fdiv (pv 5) pe_int) pe_int)) pa_nil)) pe_int))
    (pss_one (ps_ret (pe_op op_mod (pe_op op_fdiv (pv 5) pe_int) (pv 1)))))))))))), ?_⟩
  refine ⟨_, rfl, st, _, _, _, rfl, rfl, SqL.of h1, atI_nat (j := 1) rfl, _, _, rfl, rfl, _, rfl, ?_⟩
  refine ite2 (fun h => ?_) (fun h => ?_)
  · -- something is left of a great cell
    refine ⟨_, rfl, st, _, _, _, rfl, rfl, SqL.of h1, atI_nat (j := 1) rfl, .inl ⟨_, rfl, _, rfl, _, _, rfl, rfl, m0, ?_⟩⟩
    refine ⟨_, rfl, st, _, _, _, rfl, rfl, SqL.of h1, atI_nat (j := 1) rfl, _, rfl, _, _, rfl, rfl, wideMany m0 m1, _, rfl, st, _, _, 1, rfl, rfl, h1, rfl, ?_⟩
    refine ⟨_, rfl, ?_⟩
    exact k _ _ (Int.emod_nonneg _ (by omega)) (Int.emod_lt_of_pos _ m0) (StAt.put h1 h2 (Int.ediv_nonneg a0 (by omega)) b0 b1 c0 nls) sameBut_upd
  -- the next cell
  refine ⟨_, rfl, st, _, _, _, rfl, rfl, SqL.of h1, atI_nat (j := 3) rfl, ?_⟩
  refine ⟨_, rfl, _, _, rfl, rfl, _, rfl, st, _, _, 3, rfl, rfl, h1, rfl, ?_⟩
  generalize hH1 : upd H st _ = H1
  have S1 : H1 st = some (.lst [.ref l, .int a, .int b, .int ((cn : Int) + 1)]) := by rw [← hH1]; exact upd_same
  have L1 : H1 l = some (.lst (ns.map V.int)) := by rw [← hH1, upd_ne nls]; exact h2
  have B1 : SameBut st H H1 := by rw [← hH1]; exact sameBut_upd
  clear hH1
  refine ⟨_, rfl, _, rfl, st, _, _, _, rfl, rfl, SqL.of S1, atI_nat (j := 0) rfl, l, _, rfl, .inl (SqL.of L1), _, _, rfl, rfl, _, rfl, ?_⟩
  refine ite2 (fun hlt => ?_) (fun hlt => ?_)
  · have lt : cn < ns.length := by
      have q : (cn : Int) < ((ns.map V.int).length : Nat) := of_decide_eq_true hlt
      rw [List.length_map] at q
      omega
    have hx : (ns.map V.int)[cn]? = some (V.int ns[cn]) := by rw [List.getElem?_map, List.getElem?_eq_getElem lt]; rfl
    refine ⟨_, rfl, st, _, _, _, rfl, rfl, SqL.of S1, atI_nat (j := 0) rfl, _, rfl, l, _, _, _, rfl, rfl, SqL.of L1, atI_nat hx, _, rfl, ?_⟩
    refine ⟨_, rfl, _, _, rfl, rfl, ⟨by decide, by decide, by decide⟩, _, _, rfl, rfl, _, rfl, ?_⟩
    refine ite2 (fun hge => ?big) (fun _ => ?_)
    case big =>
      refine ⟨_, rfl, _, rfl, _, _, rfl, rfl, wideMany m0 m1, _, rfl, st, _, _, 1, rfl, rfl, S1, rfl, ?_⟩
      refine ⟨_, rfl, .inl ⟨_, rfl, _, rfl, _, _, rfl, rfl, m0, ?_⟩⟩
      refine k _ _ (Int.emod_nonneg _ (by omega)) (Int.emod_lt_of_pos _ m0) (StAt.put S1 L1 (Int.ediv_nonneg ?_ (by omega)) b0 b1 (by omega) nls) (B1.trans sameBut_upd)
      split <;> omega
    refine ⟨_, rfl, st, _, _, _, rfl, rfl, SqL.of S1, atI_nat (j := 2) rfl, _, _, rfl, rfl, .inl (small64 b0 b1), _, rfl, _, _, rfl, rfl, .inr ⟨by decide, by decide⟩, _, _, rfl, rfl, _, rfl, _, _, rfl, rfl, .inl ⟨by decide, by decide⟩, _, _, rfl, rfl, _, _, rfl, rfl,
      .inl ⟨_, rfl, _, _, rfl, rfl, (by decide : (0 : Int) < 2147483647), _, rfl, st, _, _, 2, rfl, rfl, S1, rfl, ?_⟩⟩
    generalize hH2 : upd H1 st _ = H2
    have S2 : ∃ b', H2 st = some (.lst [.ref l, .int a, .int b', .int ((cn : Int) + 1)]) ∧ 0 ≤ b' ∧ b' < 2147483647 :=
      ⟨_, by rw [← hH2]; exact upd_same, Int.emod_nonneg _ (by decide), Int.emod_lt_of_pos _ (by decide)⟩
    obtain ⟨b', S2, b0', b1'⟩ := S2
    have L2 : H2 l = some (.lst (ns.map V.int)) := by rw [← hH2, upd_ne nls]; exact L1
    have B2 : SameBut st H H2 := by rw [← hH2]; exact B1.trans sameBut_upd
    clear hH2
    refine ⟨_, rfl, st, _, _, _, rfl, rfl, SqL.of S2, atI_nat (j := 2) rfl, _, rfl, st, _, _, _, rfl, rfl, SqL.of S2, atI_nat (j := 2) rfl, _, _, rfl, rfl, ⟨by decide, by decide⟩, _, _, rfl, rfl, _, _, rfl, rfl, .inl (small64 b0' b1'),
      .inl ⟨_, rfl, _, _, rfl, rfl, (by decide : (0 : Int) < 2147483647), ?_⟩⟩
    refine ⟨_, rfl, _, rfl, _, _, rfl, rfl, ⟨by decide, by decide⟩, _, _, rfl, rfl, _, _, rfl, rfl, .inl (small64 (Int.emod_nonneg _ (by decide)) (Int.emod_lt_of_pos _ (by decide))), .inl ⟨_, rfl, _, _, rfl, rfl, (by decide : (0 : Int) < 2147483399), ?_⟩⟩
    refine ⟨_, rfl, _, _, rfl, rfl, ⟨by decide, by decide⟩, _, rfl, _, _, rfl, rfl, m0, ?_⟩
    exact k _ _ (Int.emod_nonneg _ (by omega)) (Int.emod_lt_of_pos _ m0) ⟨a, b', _, S2, L2, a0, b0', b1', by omega⟩ B2
  · refine ⟨_, rfl, st, _, _, _, rfl, rfl, SqL.of S1, atI_nat (j := 2) rfl, _, _, rfl, rfl, .inl (small64 b0 b1), _, rfl, _, _, rfl, rfl, .inr ⟨by decide, by decide⟩, _, _, rfl, rfl, _, rfl, _, _, rfl, rfl, .inl ⟨by decide, by decide⟩, _, _, rfl, rfl, _, _, rfl, rfl,
      .inl ⟨_, rfl, _, _, rfl, rfl, (by decide : (0 : Int) < 2147483647), _, rfl, st, _, _, 2, rfl, rfl, S1, rfl, ?_⟩⟩
    generalize hH2 : upd H1 st _ = H2
    have S2 : ∃ b', H2 st = some (.lst [.ref l, .int a, .int b', .int ((cn : Int) + 1)]) ∧ 0 ≤ b' ∧ b' < 2147483647 :=
      ⟨_, by rw [← hH2]; exact upd_same, Int.emod_nonneg _ (by decide), Int.emod_lt_of_pos _ (by decide)⟩
    obtain ⟨b', S2, b0', b1'⟩ := S2
    have L2 : H2 l = some (.lst (ns.map V.int)) := by rw [← hH2, upd_ne nls]; exact L1
    have B2 : SameBut st H H2 := by rw [← hH2]; exact B1.trans sameBut_upd
    clear hH2
    refine ⟨_, rfl, st, _, _, _, rfl, rfl, SqL.of S2, atI_nat (j := 2) rfl, _, rfl, st, _, _, _, rfl, rfl, SqL.of S2, atI_nat (j := 2) rfl, _, _, rfl, rfl, ⟨by decide, by decide⟩, _, _, rfl, rfl, _, _, rfl, rfl, .inl (small64 b0' b1'),
      .inl ⟨_, rfl, _, _, rfl, rfl, (by decide : (0 : Int) < 2147483647), ?_⟩⟩
    refine ⟨_, rfl, _, rfl, _, _, rfl, rfl, ⟨by decide, by decide⟩, _, _, rfl, rfl, _, _, rfl, rfl, .inl (small64 (Int.emod_nonneg _ (by decide)) (Int.emod_lt_of_pos _ (by decide))), .inl ⟨_, rfl, _, _, rfl, rfl, (by decide : (0 : Int) < 2147483399), ?_⟩⟩
    refine ⟨_, rfl, _, _, rfl, rfl, ⟨by decide, by decide⟩, _, rfl, _, _, rfl, rfl, m0, ?_⟩
    exact k _ _ (Int.emod_nonneg _ (by omega)) (Int.emod_lt_of_pos _ m0) ⟨a, b', _, S2, L2, a0, b0', b1', by omega⟩ B2
end
end K1
set_option Elab.async false
set_option linter.all false
set_option maxRecDepth 100000
set_option maxHeartbeats 4000000
namespace K1
open PySem PySem.Spec PyProof.Rows L2 He Sw L2H
section
variable {P : Program} {w : World} {K : PySem.W.Frag} {mg : Str → Option Value} {base : Heap}
/-! ### what lists do not touch -/
def SameT (H H' : Hp) : Prop := ∀ b o, H b = some o → (∀ xs, o ≠ .lst xs) → H' b = some o
theorem SameT.of {H H' : Hp} (s : Same H H') : SameT H H' := fun b o e _ => s b o e
theorem SameT.trans {H H1 H2 : Hp} (x : SameT H H1) (y : SameT H1 H2) : SameT H H2 := fun b o e n => y b o (x b o e n) n
theorem SameT.but {H H' : Hp} {a : Addr} {xs : List V} (s : SameBut a H H') (ha : H a = some (.lst xs)) : SameT H H' := fun b o e n => s b o (fun z => by
  rw [z, ha] at e
  injection e with e
  exact n xs e.symm) e
theorem Shp.sameT {H H' : Hp} {C kd : Str} {th as : List V} {own : List Str} (h : Shp H C kd th as own) (s : SameT H H') : Shp H' C kd th as own := by
  have n : ∀ {xs : List V} (ys : List V), HO.tup xs ≠ .lst ys := fun _ z => by cases z
  cases h with
  | num i => exact .num i
  | nam z => exact .nam z
  | seq _ h => exact .seq _ h
  | shift a n => exact .shift a n
  | sum i b a => exact .sum i b a
  | call nm _ e => exact .call nm _ (s _ _ e n)
theorem Fm.sameT : ∀ {n : Nat} {H H' : Hp} {k : Kd}, Fm K n H k → SameT H H' → Fm K n H' k
  | n + 1, H, H', k, ⟨ks, ⟨dx, t, own, h1, h2, h3, h4⟩, r⟩, s => ⟨ks, ⟨dx, t, own, s _ _ h1 (fun _ z => by cases z), s _ _ h2 (fun _ z => by cases z), h3.sameT s, h4⟩, fun q hq => (r q hq).sameT s⟩
abbrev DrawOk (P : Program) (w : World) (K : PySem.W.Frag) (mg : Str → Option Value) (base : Heap) (fdD : FuncData) : Prop := FnOk P w K mg base CX0 1 (ga K "_law_draw") fdD ["_law_state", "_law_many"] spDraw
theorem StAt.new {H H' : Hp} {st O : Addr} {ns : Addr × List Int} {xs : List V} (h : StAt H' st ns) (h0 : StAt H st ns) (hO : H O = none) : StAt (upd H' O (.lst xs)) st ns := by
  obtain ⟨a, b, c, h1, h2, h3⟩ := h
  obtain ⟨_, _, _, g1, g2, _⟩ := h0
  exact ⟨a, b, c, by rw [upd_ne (ne_of_none g1 hO)]; exact h1, by rw [upd_ne (ne_of_none g2 hO)]; exact h2, h3⟩
theorem SameBut.new {H H' : Hp} {st O : Addr} {o : HO} (h : SameBut st H H') (hO : H O = none) : SameBut st H (upd H' O o) := fun b u hb e => by rw [upd_ne (ne_of_none e hO)]; exact h b u hb e
theorem SameBut.none {H H' : Hp} {st O : Addr} {ns : Addr × List Int} (h : SameBut st H H') (S : StAt H st ns) (S' : StAt H' st ns) (hO : H' O = none) : H O = none := by
  cases e : H O with
  | none => rfl
  | some o =>
    by_cases z : O = st
    · obtain ⟨_, _, _, g1, _⟩ := S'
      rw [z, g1] at hO
      cases hO
    · rw [h O o z e] at hO
      cases hO
/-! ### _law_large -/
theorem scLarge : FnScope ["_law_state", "_law_many", "_law_number", "_law_k"] ["_law_state", "_law_many"] (defScope sLarge) := ⟨rfl, rfl, rfl, by decide +kernel, rfl, by decide +kernel, by decide +kernel⟩
theorem ok_large {fd fdD : FuncData} (T : Txt K mg) (F : FnG K "_law_large" sLarge fd) (FD : FnG K "_law_draw" sDraw fdD) : FnOk P w K mg base CX0 2 (ga K "_law_large") fd ["_law_state", "_law_many"] spDraw := by
  have GD : DrawOk P w K mg base fdD := ok_draw T FD
  have bD : Binds K fdD ["_law_state", "_law_many"] [] := FD.bindsN fun _ _ _ _ _ _ us hl => match us, hl with | [_, _], _ => rfl
  refine F.ok scLarge spDraw_len (fun cdv A outer s H vs Q E hr h => ?_)
  obtain ⟨st, many, ns, rfl, m0, m1, S, k⟩ := h
  have nd := scLarge.nd
  refine ⟨_, PSs.nox (pss_cons (ps_if (pt_cmpR op_ge (pe_ix ix_list (pv 0) pe_int (fun _ _ => rfl)) (pv 1) (nomark _))
      (pss_one (ps_ret (pe_call GD hr rfl (T.g "_law_draw") FD.kp bD .nil pass0 (pa_cons (pv 0) (pa_cons (pv 1) pa_nil))))) pss_nil)
    (pss_cons (ps_set (i := 2) nd rfl (Or.inl rfl) pe_int)
    (pss_cons (ps_for PassesOwn.never rfl (pi_range1 rfl (T.f "range") (pa_cons pe_int pa_nil)) (pg_name (i := 3) nd rfl (Or.inl rfl))
      (pss_one (ps_set (i := 2) nd rfl (Or.inl rfl) (pe_op op_add (pe_op op_mul (pv 2) pe_int) (pe_call GD hr rfl (T.g "_law_draw") FD.kp bD .nil pass0 (pa_cons (pv 0) (pa_cons pe_int pa_nil)))))))
    (pss_one (ps_ret (pe_op op_mod (pe_callTy call_int1 rfl (T.f "int") (by decide +kernel) (pa_cons (pv 2) pa_nil)) (pv 1))))))), ?_⟩
  obtain ⟨a, b, c, h1, h2, a0, b0, b1, c0⟩ := id S
  refine ⟨_, rfl, st, _, _, _, rfl, rfl, SqL.of h1, atI_nat (j := 1) rfl, _, rfl, _, _, rfl, rfl, _, rfl, ?_⟩
  refine ite2 (fun h => ?_) (fun h => ?_)
  · exact ⟨_, rfl, _, rfl, st, many, ns, rfl, m0, m1, S, k⟩
  refine ⟨7, rfl, by decide, by decide, for_range (lo := 0) (n := 7) (fun _ σ H' => ∃ (x : Int) (kv : Option V), σ = [some (.ref st), some (.int many), some (.int x), kv] ∧ StAt H' st ns ∧ SameBut st H H') ⟨0, none, rfl, S, SameBut.refl⟩ ?_ ?_⟩
  · rintro i σ H' hi ⟨x, kv, rfl, S', B'⟩
    refine ⟨_, rfl, _, _, rfl, rfl, .inr ⟨by decide, by decide⟩, _, rfl, st, 99991, ns, rfl, by decide, by decide, S', fun r H2 r0 r1 S2 B2 => ?_⟩
    exact ⟨_, _, rfl, rfl, _, _, rfl, S2, B'.trans B2⟩
  · rintro σ H' ⟨x, kv, rfl, S', B'⟩
    exact ⟨_, rfl, .inl ⟨_, rfl, _, rfl, _, _, rfl, rfl, m0, k _ _ (Int.emod_nonneg _ (by omega)) (Int.emod_lt_of_pos _ m0) S' B'⟩⟩

end
/-! ### words as lists of signs -/
def mk (l : List Nat) : Str := ⟨l.toArray⟩
theorem mk_add (a b : List Nat) : mk a ++ mk b = mk (a ++ b) := by
  show (⟨a.toArray ++ b.toArray⟩ : Str) = ⟨(a ++ b).toArray⟩
  simp
theorem mk_len (l : List Nat) : (mk l).length = l.length := by
  show l.toArray.size = _
  simp
theorem mk_inj {a b : List Nat} (h : mk a = mk b) : a = b := by
  have e : a.toArray = b.toArray := congrArg Str.cps h
  simpa using e
def Lo (l : List Nat) : Prop := ∀ x ∈ l, 97 ≤ x ∧ x < 123
theorem LET_ix : ∀ j : _root_.Fin 26, LET.cps[j.val]? = some (97 + j.val) := by decide +kernel
theorem LET_find : ∀ j : _root_.Fin 26, Txt.find LET ⟨#[97 + j.val]⟩ = (j.val : Int) := by decide +kernel
theorem LET_mem : ∀ j : _root_.Fin 26, 97 + j.val ∈ LET.cps.toList := by decide +kernel
theorem LET_len : LET.length = 26 := by decide +kernel
theorem low_mk {l : List Nat} (h : Lo l) : low (mk l) = true := by
  unfold low
  show (l.toArray.toList.all fun c => decide (c ∈ LET.cps.toList)) = true
  rw [List.all_eq_true]
  intro c hc
  have hc : c ∈ l := by simpa using hc
  obtain ⟨h1, h2⟩ := h c hc
  have e := LET_mem ⟨c - 97, by omega⟩
  have e2 : 97 + (c - 97) = c := by omega
  exact decide_eq_true (by rw [← e2]; exact e)
theorem good_mk {l : List Nat} (h : Lo l) (h1 : 1 ≤ l.length) (h8 : l.length ≤ 8) (hn : mk l ∉ noNames) : isNmS (mk l) = true := by
  unfold isNmS
  rw [mk_len, inV_strs, decide_eq_false hn, low_mk h, decide_eq_true (by omega : (1 : Int) ≤ (l.length : Nat)), decide_eq_true (by omega : ((l.length : Nat) : Int) ≤ 8)]
  rfl
/-- no more of them than places -/
theorem pig : ∀ (L B : List Str), L.Nodup → (∀ x ∈ L, x ∈ B) → L.length ≤ B.length
  | [], B, _, _ => Nat.zero_le _
  | x :: xs, B, hn, h => by
    have hx := h x List.mem_cons_self
    have hn' := List.nodup_cons.mp hn
    have r := pig xs (B.erase x) hn'.2 fun y hy => (List.mem_erase_of_ne (fun z => hn'.1 (by rw [← z]; exact hy))).mpr (h y (List.mem_cons_of_mem _ hy))
    have e := List.length_erase_of_mem hx
    have p := List.length_pos_of_mem hx
    show xs.length + 1 ≤ B.length
    omega
def turned (w : List Nat) (c j : Nat) : Str := mk (w ++ [97 + (c + j) % 26])
theorem turned_nodup (w : List Nat) (c : Nat) : ((List.range 26).map (turned w c)).Nodup := by
  unfold List.Nodup
  rw [List.pairwise_map]
  refine (List.pairwise_lt_range (n := 26)).imp_of_mem fun {a b} ha hb hlt e => ?_
  have ha := List.mem_range.mp ha
  have hb := List.mem_range.mp hb
  have e2 := mk_inj e
  have e3 : 97 + (c + a) % 26 = 97 + (c + b) % 26 := by simpa using e2
  omega
/-- not all the 26 can be barred -/
theorem some_free {w : List Nat} {c : Nat} {B : List Str} (hB : B.length ≤ 20) (h : ∀ j, j < 26 → turned w c j ∈ B) : False := by
  have r := pig _ B (turned_nodup w c) fun x hx => by
    obtain ⟨j, hj, rfl⟩ := List.mem_map.mp hx
    exact h j (List.mem_range.mp hj)
  rw [List.length_map, List.length_range] at r
  omega
theorem cut_last (w : List Nat) (x : Nat) : cutS (mk (w ++ [x])) none (some (-1)) = mk w := by
  unfold cutS
  have e1 : HT.sIx (mk (w ++ [x])).length 0 none = 0 := rfl
  have e2 : HT.sIx (mk (w ++ [x])).length (mk (w ++ [x])).length (some (-1)) = w.length := by
    rw [mk_len]
    show (if (-1 : Int) < 0 then ((-1 : Int) + ((w ++ [x]).length : Int)).toNat else min (-1 : Int).toNat (w ++ [x]).length) = _
    rw [if_pos (by decide), List.length_append]
    show ((-1 : Int) + ((w.length + 1 : Nat) : Int)).toNat = _
    omega
  rw [e1, e2]
  show (⟨(((w ++ [x]).toArray.toList.drop 0).take (w.length - 0)).toArray⟩ : Str) = ⟨w.toArray⟩
  simp
theorem at_last (w : List Nat) (x : Nat) : atI (mk (w ++ [x])).cps.toList (-1) = some x := by
  unfold atI ixN
  have e : (mk (w ++ [x])).cps.toList = w ++ [x] := by show (w ++ [x]).toArray.toList = _; simp
  rw [e, if_neg (by decide), List.length_append]
  show ((if -((w.length + 1 : Nat) : Int) ≤ -1 then some ((-1 : Int) + ((w.length + 1 : Nat) : Int)).toNat else none).bind fun j => (w ++ [x])[j]?) = some x
  rw [if_pos (by omega), show ((-1 : Int) + ((w.length + 1 : Nat) : Int)).toNat = w.length by omega]
  show (w ++ [x])[w.length]? = some x
  simp
section
variable {P : Program} {w : World} {K : PySem.W.Frag} {mg : Str → Option Value} {base : Heap}
/-! ### _law_names -/
def spNames : Sp := fun vs H Q _ => ∃ (st : Addr) (ns : Addr × List Int), vs = [.ref st, .int 5] ∧ StAt H st ns ∧ ∀ l H' (zs : List Str), zs.length = 5 → (∀ z ∈ zs, GoodN z) → StAt H' st ns → SameBut st H H' → H l = none → H' l = some (.lst (zs.map V.str)) → Q (.ref l) H'
theorem scNames : FnScope ["_law_state", "_law_many", "_law_letters", "_law_kept", "_law_found", "_law_k", "_law_count", "_law_word", "_law_j"] ["_law_state", "_law_many"] (defScope sNames) := ⟨rfl, rfl, rfl, by decide +kernel, rfl, by decide +kernel, by decide +kernel⟩
abbrev ng (st KL O : Addr) (k c z j : Option V) : L2.St := [some (.ref st), some (.int 5), some (.str LET), some (.ref KL), some (.ref O), k, c, z, j]
theorem ok_names {fd fdD : FuncData} (T : Txt K mg) (F : FnG K "_law_names" sNames fd) (FD : FnG K "_law_draw" sDraw fdD) : FnOk P w K mg base CX0 2 (ga K "_law_names") fd ["_law_state", "_law_many"] spNames := by
  have GD : DrawOk P w K mg base fdD := ok_draw T FD
  have bD : Binds K fdD ["_law_state", "_law_many"] [] := FD.bindsN fun _ _ _ _ _ _ us hl => match us, hl with | [_, _], _ => rfl
  refine F.ok scNames (fun vs H Q E h => ?_) (fun cdv A outer s H vs Q E hr h => ?_)
  · obtain ⟨st, ns, rfl, _⟩ := h
    rfl
  obtain ⟨st, ns, rfl, S, k⟩ := h
  have nd := scNames.nd
  refine ⟨_, PSs.nox (pss_cons (ps_set (i := 2) nd rfl (Or.inl rfl) pe_str)
    (pss_cons (ps_set (i := 3) nd rfl (Or.inl rfl) (pe_lst (pa_cons pe_str (pa_cons pe_str (pa_cons pe_str (pa_cons pe_str (pa_cons pe_str (pa_cons pe_str (pa_cons pe_str (pa_cons pe_str (pa_cons pe_str pa_nil)))))))))))
    (pss_cons (ps_set (i := 4) nd rfl (Or.inl rfl) (pe_lst pa_nil))
    (pss_cons (ps_for PassesOwn.never rfl (pi_range1 rfl (T.f "range") (pa_cons (pv 1) pa_nil)) (pg_name (i := 5) nd rfl (Or.inl rfl))
      (pss_cons (ps_set (i := 6) nd rfl (Or.inl rfl) pe_int)
      (C8.pss_cut (ps_if (pt_cmpR op_eq (pe_call GD hr rfl (T.g "_law_draw") FD.kp bD .nil pass0 (pa_cons (pv 0) (pa_cons pe_int pa_nil))) pe_int (nomark _))
        (pss_one (ps_set (i := 6) nd rfl (Or.inl rfl) (pe_op op_add pe_int (pe_call GD hr rfl (T.g "_law_draw") FD.kp bD .nil pass0 (pa_cons (pv 0) (pa_cons pe_int pa_nil)))))) pss_nil)
      (pss_cons (ps_set (i := 7) nd rfl (Or.inl rfl) pe_str)
      (pss_cons (ps_for PassesOwn.never rfl (pi_range1 rfl (T.f "range") (pa_cons (pv 6) pa_nil)) (pg_name (i := 8) nd rfl (Or.inl rfl))
        (pss_one (ps_set (i := 7) nd rfl (Or.inl rfl) (pe_op op_add_str (pv 7) (pe_item_str (pv 2) (pe_call GD hr rfl (T.g "_law_draw") FD.kp bD .nil pass0 (pa_cons (pv 0) (pa_cons pe_int pa_nil))) (fun _ _ => rfl))))))
      (pss_cons (ps_for PassesOwn.never rfl (pi_range1 rfl (T.f "range") (pa_cons pe_int pa_nil)) (pg_name (i := 8) nd rfl (Or.inl rfl))
        (pss_one (ps_if (PW.pt (pw_or (pt_cmpR op_in_seq (pv 7) (pv 4) rfl) (pw_or1 (pt_cmpR op_in_seq (pv 7) (pv 3) rfl))))
          (pss_one (ps_set (i := 7) nd rfl (Or.inl rfl) (pe_op op_add_str (pe_slice sl_str (pv 7) po_none (po_some (pe_un un_neg pe_int)))
            (pe_item_str (pv 2) (pe_op op_mod (pe_op op_add (pe_m1 PySem.F.slot_str_find PySem.F.type_str_find mt_find (pv 2) (pe_ix ix_str (pv 7) (pe_un un_neg pe_int) (fun _ _ => rfl))) pe_int) pe_int) (fun _ _ => rfl))))) pss_nil)))
      (pss_one (ps_expr (pe_bm PySem.F.plainAttrs_list PySem.F.slot_list_append PySem.F.type_list_append mt_append (pv 4) (pa_cons (pv 7) pa_nil))))))))))
    (pss_one (ps_ret (pv 4))))))), ?_⟩
  refine ⟨tsz (by show 9 ≤ 1000; decide), fun KL hKL => ?_⟩
  have s1 : Same H (upd H KL (.lst (noNames.map V.str))) := fun b o q => by rw [upd_ne (ne_of_none q hKL)]; exact q
  have eK : (upd H KL (.lst (noNames.map V.str))) KL = some (.lst (noNames.map V.str)) := upd_same
  have nK : KL ≠ st := fun z => by
    obtain ⟨_, _, _, h1, _⟩ := S
    rw [z, h1] at hKL
    cases hKL
  change tSeq _ _ _ _ (upd H KL (.lst (noNames.map V.str)))
  generalize upd H KL (.lst (noNames.map V.str)) = H1 at s1 eK ⊢
  have S1 := S.same s1
  refine ⟨tsz (by show 0 ≤ 1000; decide), fun O hO => ?_⟩
  have nO : O ≠ st := fun z => by
    obtain ⟨_, _, _, h1, _⟩ := S1
    rw [z, h1] at hO
    cases hO
  have S2 : StAt (upd H1 O (.lst [])) st ns := StAt.new S1 S1 hO
  have B2 : SameBut st H1 (upd H1 O (.lst [])) := SameBut.new (fun _ _ _ e => e) hO
  have e2 : (upd H1 O (.lst [])) O = some (.lst (([] : List Str).map V.str)) := upd_same
  generalize upd H1 O (.lst []) = H2 at S2 B2 e2 ⊢
  refine ⟨_, rfl, _, rfl, by decide, by decide, for_range (lo := 0) (n := 5) (fun i σ H' => ∃ (kv cv zv jv : Option V) (zs : List Str), σ = ng st KL O kv cv zv jv ∧ StAt H' st ns ∧ SameBut st H1 H' ∧ H' O = some (.lst (zs.map V.str)) ∧ zs.length = i ∧ ∀ z ∈ zs, GoodN z) ⟨none, none, none, none, [], rfl, S2, B2, e2, rfl, fun z hz => by cases hz⟩ ?_ ?_⟩
  · rintro i σ H3 hi ⟨kv, cv, zv, jv, zs, rfl, S3, B3, e3, lz, gz⟩
    refine ⟨fun σ H' => ∃ (kv zv jv : Option V) (ct : Int), σ = ng st KL O kv (some (.int ct)) zv jv ∧ 1 ≤ ct ∧ ct ≤ 8 ∧ StAt H' st ns ∧ SameBut st H1 H' ∧ H' O = some (.lst (zs.map V.str)), ?_, ?_⟩
    · refine ⟨_, rfl, st, 3, ns, rfl, by decide, by decide, S3, fun r' H4 _ _ S4 B4 => ⟨rfl, _, rfl, ?_⟩⟩
      refine ite2 (fun _ => ?_) (fun _ => ?_)
      · refine ⟨_, rfl, st, 8, ns, rfl, by decide, by decide, S4, fun r H5 r0 r1 S5 B5 => ⟨_, _, rfl, rfl, _, _, _, 1 + r, rfl, by omega, by omega, S5, (B3.trans B4).trans B5, B5 _ _ nO (B4 _ _ nO e3)⟩⟩
      · exact ⟨_, _, _, 1, rfl, by omega, by omega, S4, B3.trans B4, B4 _ _ nO e3⟩
    rintro σ H4 ⟨kv4, zv4, jv4, ct, rfl, c1, c8, S4, B4, e4⟩
    obtain ⟨n, rfl⟩ := Int.eq_ofNat_of_zero_le (show 0 ≤ ct by omega)
    -- the letters
    refine ⟨_, rfl, _, rfl, by omega, by omega, for_range (lo := 0) (n := ((n : Nat) : Int).toNat) (fun i σ H' => ∃ (jv : Option V) (w : List Nat), σ = ng st KL O kv4 (some (.int (n : Nat))) (some (.str (mk w))) jv ∧ w.length = i ∧ Lo w ∧ StAt H' st ns ∧ SameBut st H1 H' ∧ H' O = some (.lst (zs.map V.str))) ⟨jv4, [], rfl, rfl, (fun x hx => by cases hx), S4, B4, e4⟩ ?_ ?_⟩
    · rintro i σ H5 hi ⟨jv, w, rfl, lw, ow, S5, B5, e5⟩
      refine ⟨_, rfl, _, rfl, _, rfl, st, 26, ns, rfl, by decide, by decide, S5, fun r H6 x0 x1 S6 B6 => ?_⟩
      obtain ⟨j, rfl⟩ := Int.eq_ofNat_of_zero_le x0
      have hc := LET_ix ⟨j, by omega⟩
      refine ⟨LET, _, 97 + j, rfl, rfl, x0, by omega, (by rw [LET_len]; omega), hc, _, _, rfl, rfl, ?_, ?_⟩
      · rw [mk_len, sizeLine_eq]
        show w.length + 1 ≤ _
        omega
      · refine ⟨some (.int (0 + (i : Nat))), w ++ [97 + j], ?_, ?_, ?_, S6, B5.trans B6, B6 _ _ nO e5⟩
        · rw [← mk_add]
          rfl
        · rw [List.length_append, lw]
          rfl
        · intro x hx
          rcases List.mem_append.mp hx with hx | hx
          · exact ow x hx
          · rw [List.mem_singleton.mp hx]
            omega
    rintro σ H5 ⟨jv5, w5, rfl, lw5, ow5, S5, B5, e5⟩
    have lw1 : 1 ≤ w5.length := by omega
    have lw8 : w5.length ≤ 8 := by omega
    obtain ⟨w, x, rfl⟩ : ∃ w x, w5 = w ++ [x] := ⟨w5.dropLast, w5.getLast (by intro z; rw [z] at lw1; cases lw1), (List.dropLast_concat_getLast _).symm⟩
    have ow : Lo w := fun y hy => ow5 y (List.mem_append_left _ hy)
    obtain ⟨x0, x1⟩ := ow5 x (List.mem_append_right _ List.mem_cons_self)
    have lw : w.length ≤ 7 := by
      rw [List.length_append] at lw8
      have : [x].length = 1 := rfl
      omega
    generalize hc0 : x - 97 = c0
    have ex : x = 97 + c0 := by omega
    subst ex
    have c26 : c0 < 26 := by omega
    -- until it is free
    refine ⟨_, rfl, by decide, by decide, for_range (lo := 0) (n := 26) (fun i σ H' => H' = H5 ∧ ∃ (jv : Option V) (c : Nat), σ = ng st KL O kv4 (some (.int (n : Nat))) (some (.str (mk (w ++ [97 + c])))) jv ∧ c < 26 ∧
      ((mk (w ++ [97 + c]) ∉ zs ∧ mk (w ++ [97 + c]) ∉ noNames) ∨ (c = (c0 + i) % 26 ∧ ∀ j, j < i → turned w c0 j ∈ zs ++ noNames))) ⟨rfl, jv5, c0, rfl, c26, .inr ⟨by omega, fun j hj => absurd hj (by omega)⟩⟩ ?_ ?_⟩
    · rintro i σ H6 hi ⟨rfl, jv, c, rfl, cc, al⟩
      refine ⟨_, rfl, _, rfl, O, _, rfl, .inl (SqL.of e5), rfl, flat_strs _, _, rfl, ?_⟩
      have chg : (mk (w ++ [97 + c]) ∈ zs ∨ mk (w ++ [97 + c]) ∈ noNames) → c = (c0 + i) % 26 ∧ (∀ j, j < i → turned w c0 j ∈ zs ++ noNames) ∧ turned w c0 i ∈ zs ++ noNames := fun hin => by
        rcases al with ⟨n1, n2⟩ | ⟨a1, a2⟩
        · rcases hin with hin | hin
          · exact absurd hin n1
          · exact absurd hin n2
        · refine ⟨a1, a2, ?_⟩
          unfold turned
          rw [← a1]
          exact List.mem_append.mpr hin
      refine ite2 (fun h1 => ?_) (fun h1 => ?_)
      · have hin : mk (w ++ [97 + c]) ∈ zs := by
          have h1 : inV (.str (mk (w ++ [97 + c]))) (zs.map V.str) = true := h1
          rw [inV_strs] at h1
          exact of_decide_eq_true h1
        obtain ⟨a1, a2, a3⟩ := chg (.inl hin)
        refine ite2 (fun _ => ?_) (fun h => absurd rfl h)
        refine ⟨_, rfl, _, rfl, _, rfl, mk (w ++ [97 + c]), rfl, ?_, ?_⟩
        · rw [mk_len, List.length_append, sizeLine_eq]
          show w.length + 1 ≤ _
          omega
        have hf := LET_find ⟨c, cc⟩
        have hx := LET_ix ⟨(c + 1) % 26, Nat.mod_lt _ (by decide)⟩
        have em : ((c : Nat) + 1 : Int) % 26 = (((c + 1) % 26 : Nat) : Int) := by omega
        refine ⟨_, rfl, _, rfl, ⟨_, rfl⟩, _, rfl, _, rfl, mk (w ++ [97 + c]), -1, 97 + c, rfl, rfl, ?_, at_last w (97 + c), LET, ⟨#[97 + c]⟩, rfl, rfl, ?_⟩
        · rw [mk_len, List.length_append, sizeLine_eq]
          show w.length + 1 ≤ _
          omega
        rw [hf]
        refine ⟨_, _, rfl, rfl, _, _, rfl, rfl, (show (0 : Int) < 26 by decide), LET, ((c : Nat) + 1 : Int) % 26, 97 + (c + 1) % 26, rfl, rfl, by omega, by omega, by rw [LET_len]; omega, by rw [em]; exact hx, _, _, rfl, rfl, ?_, ?_⟩
        · rw [cut_last, mk_len, sizeLine_eq]
          show w.length + 1 ≤ _
          omega
        refine ⟨rfl, some (.int (0 + (i : Nat))), (c + 1) % 26, ?_, Nat.mod_lt _ (by decide), .inr ⟨by omega, fun j hj => ?_⟩⟩
        · rw [cut_last]
          have ea : mk w ++ (⟨#[97 + (c + 1) % 26]⟩ : Str) = mk (w ++ [97 + (c + 1) % 26]) := mk_add w [97 + (c + 1) % 26]
          rw [ea]
          rfl
        · rcases Nat.lt_succ_iff_lt_or_eq.mp hj with hj | rfl
          · exact a2 j hj
          · exact a3
      have n1 : mk (w ++ [97 + c]) ∉ zs := by
        have h1 : ¬ (inV (.str (mk (w ++ [97 + c]))) (zs.map V.str) = true) := h1
        rw [inV_strs] at h1
        exact fun z => h1 (decide_eq_true z)
      refine ⟨_, rfl, _, rfl, KL, _, rfl, .inl (SqL.of (B5 _ _ nK eK)), rfl, flat_strs _, _, rfl, ?_⟩
      refine ite2 (fun h2 => ?_) (fun h2 => ?_)
      · have hin : mk (w ++ [97 + c]) ∈ noNames := by
          have h2 : inV (.str (mk (w ++ [97 + c]))) (noNames.map V.str) = true := h2
          rw [inV_strs] at h2
          exact of_decide_eq_true h2
        obtain ⟨a1, a2, a3⟩ := chg (.inr hin)
        refine ⟨_, rfl, _, rfl, _, rfl, mk (w ++ [97 + c]), rfl, ?_, ?_⟩
        · rw [mk_len, List.length_append, sizeLine_eq]
          show w.length + 1 ≤ _
          omega
        have hf := LET_find ⟨c, cc⟩
        have hx := LET_ix ⟨(c + 1) % 26, Nat.mod_lt _ (by decide)⟩
        have em : ((c : Nat) + 1 : Int) % 26 = (((c + 1) % 26 : Nat) : Int) := by omega
        refine ⟨_, rfl, _, rfl, ⟨_, rfl⟩, _, rfl, _, rfl, mk (w ++ [97 + c]), -1, 97 + c, rfl, rfl, ?_, at_last w (97 + c), LET, ⟨#[97 + c]⟩, rfl, rfl, ?_⟩
        · rw [mk_len, List.length_append, sizeLine_eq]
          show w.length + 1 ≤ _
          omega
        rw [hf]
        refine ⟨_, _, rfl, rfl, _, _, rfl, rfl, (show (0 : Int) < 26 by decide), LET, ((c : Nat) + 1 : Int) % 26, 97 + (c + 1) % 26, rfl, rfl, by omega, by omega, by rw [LET_len]; omega, by rw [em]; exact hx, _, _, rfl, rfl, ?_, ?_⟩
        · rw [cut_last, mk_len, sizeLine_eq]
          show w.length + 1 ≤ _
          omega
        refine ⟨rfl, some (.int (0 + (i : Nat))), (c + 1) % 26, ?_, Nat.mod_lt _ (by decide), .inr ⟨by omega, fun j hj => ?_⟩⟩
        · rw [cut_last]
          have ea : mk w ++ (⟨#[97 + (c + 1) % 26]⟩ : Str) = mk (w ++ [97 + (c + 1) % 26]) := mk_add w [97 + (c + 1) % 26]
          rw [ea]
          rfl
        · rcases Nat.lt_succ_iff_lt_or_eq.mp hj with hj | rfl
          · exact a2 j hj
          · exact a3
      · have n2 : mk (w ++ [97 + c]) ∉ noNames := by
          have h2 : ¬ (inV (.str (mk (w ++ [97 + c]))) (noNames.map V.str) = true) := h2
          rw [inV_strs] at h2
          exact fun z => h2 (decide_eq_true z)
        exact ⟨rfl, some (.int (0 + (i : Nat))), c, rfl, cc, .inl ⟨n1, n2⟩⟩
    · rintro σ H6 ⟨rfl, jv, c, rfl, cc, al⟩
      have free : mk (w ++ [97 + c]) ∉ noNames := by
        rcases al with ⟨_, n2⟩ | ⟨_, a2⟩
        · exact n2
        · refine (some_free (w := w) (c := c0) (B := zs ++ noNames) ?_ a2).elim
          rw [List.length_append, lz]
          show i + 9 ≤ 20
          omega
      have lo2 : Lo (w ++ [97 + c]) := fun y hy => by
        rcases List.mem_append.mp hy with hy | hy
        · exact ow y hy
        · rw [List.mem_singleton.mp hy]
          omega
      have len2 : (w ++ [97 + c]).length = w.length + 1 := by rw [List.length_append]; rfl
      have gz2 : GoodN (mk (w ++ [97 + c])) := ⟨good_mk lo2 (by omega) (by omega) free, by rw [mk_len]; omega⟩
      refine ⟨_, rfl, .inl ⟨rfl, _, SqL.of e5⟩, _, rfl, O, _, _, rfl, rfl, e5, ?_, ?_⟩
      · rw [List.length_map, sizeLine_eq]
        omega
      · refine ⟨kv4, _, _, jv, zs ++ [mk (w ++ [97 + c])], rfl, StAt.new S5 S1 hO, B5.new hO, by rw [upd_same]; simp, ?_, fun z hz => ?_⟩
        · rw [List.length_append, lz]
          rfl
        · rcases List.mem_append.mp hz with hz | hz
          · exact gz z hz
          · rw [List.mem_singleton.mp hz]
            exact gz2
  · rintro σ H3 ⟨kv, cv, zv, jv, zs, rfl, S3, B3, e3, lz, gz⟩
    exact ⟨_, rfl, k O H3 zs lz gz S3 ((SameBut.of s1).trans B3) (none_back s1 hO) e3⟩
end
end K1
set_option Elab.async false
set_option linter.all false
set_option maxRecDepth 100000
set_option maxHeartbeats 4000000
namespace K1
open PySem PySem.Spec PyProof.Rows L2 He Sw L2H
section
variable {P : Program} {w : World} {K : PySem.W.Frag} {mg : Str → Option Value} {base : Heap}
/-! ### the law's trees: tuples -/
/-- a tree that is a number or a name -/
def LeafAt (H : Hp) (b : Addr) : Prop := (∃ n : Int, 0 ≤ n ∧ n < 10 ^ 30 ∧ H b = some (.tup [.str "number", .int n])) ∨ ∃ z : Str, GoodN z ∧ H b = some (.tup [.str "name", .str z])
def Bnd (H : Hp) (b : Addr) (i : Str) : Prop := (∃ n : Int, 0 ≤ n ∧ n < 10 ^ 30 ∧ H b = some (.tup [.str "number", .int n])) ∨ ∃ z : Str, GoodN z ∧ z ≠ i ∧ H b = some (.tup [.str "name", .str z])
/-- what a tree's tuple holds, the trees within, the index of its own -/
inductive TShp (H : Hp) : List V → List V → List Str → Prop
  | num (i : Int) (h0 : 0 ≤ i) (h1 : i < 10 ^ 30) : TShp H [.str "number", .int i] [] []
  | nam (z : Str) (g : GoodN z) : TShp H [.str "name", .str z] [] []
  | neg (a : V) : TShp H [.str "negative", a] [a] []
  | shift (a : V) (n : Int) (h0 : 0 ≤ n) (h1 : n ≤ 64) : TShp H [.str "shift", a, .int n] [a] []
  | sum (i : Str) (b : Addr) (a : V) (g : GoodN i) (hb : Bnd H b i) : TShp H [.str "sum", .str i, .ref b, a] [a] [i]
  | call {u : Addr} (z : Str) (as : List V) (g : GoodN z) (e : H u = some (.tup as)) (l1 : 1 ≤ as.length) (l4 : as.length ≤ 4) : TShp H [.str "call", .str z, .ref u] as []
  | bin (kd : Str) (h : kd = "plus" ∨ kd = "minus" ∨ kd = "times") (a b : V) : TShp H [.str kd, a, b] [a, b] []
theorem Bnd.sameT {H H' : Hp} {b : Addr} {i : Str} (h : Bnd H b i) (s : SameT H H') : Bnd H' b i := by
  rcases h with ⟨n, h0, h1, e⟩ | ⟨z, g, ne, e⟩
  · exact .inl ⟨n, h0, h1, s _ _ e fun _ z => by cases z⟩
  · exact .inr ⟨z, g, ne, s _ _ e fun _ z => by cases z⟩
theorem TShp.sameT {H H' : Hp} {th as : List V} {own : List Str} (h : TShp H th as own) (s : SameT H H') : TShp H' th as own := by
  cases h with
  | num i h0 h1 => exact .num i h0 h1
  | nam z g => exact .nam z g
  | neg a => exact .neg a
  | shift a n h0 h1 => exact .shift a n h0 h1
  | sum i b a g hb => exact .sum i b a g (hb.sameT s)
  | call z _ g e l1 l4 => exact .call z _ g (s _ _ e fun _ z => by cases z) l1 l4
  | bin kd h a b => exact .bin kd h a b
/-- a tree's node: its address, depth, parts and indexes are told by a Kd, th is its tuple -/
def TNode (H : Hp) (T : Kd) (ts : List Kd) : Prop := ∃ own, H T.a = some (.tup T.th) ∧ TShp H T.th (refs ts) own ∧ T.p = 1 + sumP ts ∧ T.d = 1 + maxD ts ∧ T.ix = own ++ ixs ts ∧ ∀ i ∈ own, i ∉ ixs ts
theorem TNode.sameT {H H' : Hp} {T : Kd} {ts : List Kd} (h : TNode H T ts) (s : SameT H H') : TNode H' T ts := by
  obtain ⟨own, h1, h2, h3⟩ := h
  exact ⟨own, s _ _ h1 (fun _ z => by cases z), h2.sameT s, h3⟩
def Tr : Nat → Hp → Kd → Prop
  | 0, _, _ => False
  | n + 1, H, T => ∃ ts, TNode H T ts ∧ ∀ q ∈ ts, Tr n H q
theorem Tr.sameT : ∀ {n : Nat} {H H' : Hp} {T : Kd}, Tr n H T → SameT H H' → Tr n H' T
  | n + 1, H, H', T, ⟨ts, h, r⟩, s => ⟨ts, h.sameT s, fun q hq => (r q hq).sameT s⟩
theorem Tr.same {n : Nat} {H H' : Hp} {T : Kd} (h : Tr n H T) (s : Same H H') : Tr n H' T := h.sameT (SameT.of s)
theorem Tr.mono : ∀ {n m : Nat} {H : Hp} {T : Kd}, Tr n H T → n ≤ m → Tr m H T
  | n + 1, m + 1, H, T, ⟨ts, h, r⟩, l => ⟨ts, h, fun q hq => (r q hq).mono (Nat.le_of_succ_le_succ l)⟩
abbrev TrD (H : Hp) (T : Kd) : Prop := Tr T.d H T
theorem TrD.of {H : Hp} {T : Kd} {ts : List Kd} (h : TNode H T ts) (r : ∀ q ∈ ts, TrD H q) : TrD H T := by
  obtain ⟨_, _, _, _, hd, _⟩ := id h
  show Tr T.d H T
  rw [hd, Nat.add_comm]
  exact ⟨ts, h, fun q hq => (r q hq).mono (maxD_ge hq)⟩
theorem leaf_tr {H : Hp} {b : Addr} (h : LeafAt H b) : ∃ th, Tr 1 H ⟨b, 1, 1, [], "", "", th⟩ := by
  rcases h with ⟨n, h0, h1, e⟩ | ⟨z, g, e⟩
  · exact ⟨_, [], ⟨[], e, .num n h0 h1, rfl, rfl, rfl, fun i hi => by cases hi⟩, fun q hq => by cases hq⟩
  · exact ⟨_, [], ⟨[], e, .nam z g, rfl, rfl, rfl, fun i hi => by cases hi⟩, fun q hq => by cases hq⟩
/-! ### _law_leaf, _law_bound -/
def spLeaf : Sp := fun vs H Q _ => ∃ (st NL : Addr) (ns : Addr × List Int) (zs : List Str), vs = [.ref st, .ref NL] ∧ StAt H st ns ∧ H NL = some (.lst (zs.map V.str)) ∧ NL ≠ st ∧ 1 ≤ zs.length ∧ zs.length ≤ 100 ∧ (∀ z ∈ zs, GoodN z) ∧
  ∀ H' t, StAt H' st ns → SameBut st H H' → LeafAt H' t → Q (.ref t) H'
theorem scLeaf : FnScope ["_law_state", "_law_names_here", "_law_pick"] ["_law_state", "_law_names_here"] (defScope sLeaf) := ⟨rfl, rfl, rfl, by decide +kernel, rfl, by decide +kernel, by decide +kernel⟩
theorem tup_new {H H' : Hp} {st t : Addr} {ns : Addr × List Int} {xs : List V} (S' : StAt H' st ns) (B : SameBut st H H') (ht : H' t = none) : StAt (upd H' t (.tup xs)) st ns ∧ SameBut st H (upd H' t (.tup xs)) := by
  have s : Same H' (upd H' t (.tup xs)) := fun b o q => by rw [upd_ne (ne_of_none q ht)]; exact q
  exact ⟨S'.same s, B.trans (SameBut.of s)⟩
theorem pick_str {zs : List Str} {j : Nat} (h : j < zs.length) : ∃ z ∈ zs, (zs.map V.str)[j]? = some (V.str z) := ⟨zs[j], List.getElem_mem h, by rw [List.getElem?_map, List.getElem?_eq_getElem h]; rfl⟩
theorem ok_leaf {fd fdD fdL : FuncData} (T : Txt K mg) (F : FnG K "_law_leaf" sLeaf fd) (FD : FnG K "_law_draw" sDraw fdD) (FL : FnG K "_law_large" sLarge fdL) : FnOk P w K mg base CX0 3 (ga K "_law_leaf") fd ["_law_state", "_law_names_here"] spLeaf := by
  have GD : DrawOk P w K mg base fdD := ok_draw T FD
  have GL : FnOk P w K mg base CX0 2 (ga K "_law_large") fdL ["_law_state", "_law_many"] spDraw := ok_large T FL FD
  have bD : Binds K fdD ["_law_state", "_law_many"] [] := FD.bindsN fun _ _ _ _ _ _ us hl => match us, hl with | [_, _], _ => rfl
  have bL : Binds K fdL ["_law_state", "_law_many"] [] := FL.bindsN fun _ _ _ _ _ _ us hl => match us, hl with | [_, _], _ => rfl
  refine F.ok scLeaf (fun vs H Q E h => ?_) (fun cdv A outer s H vs Q E hr h => ?_)
  · obtain ⟨st, NL, ns, zs, rfl, _⟩ := h
    rfl
  obtain ⟨st, NL, ns, zs, rfl, S, eN, nN, l1, l2, gz, k⟩ := h
  have nod := scLeaf.nd
  have hr1 : Room 1 _ := hr.mono (by decide)
  refine ⟨_, PSs.nox (pss_cons (ps_set (i := 2) nod rfl (Or.inl rfl) (pe_call GD hr1 rfl (T.g "_law_draw") FD.kp bD .nil pass0 (pa_cons (pv 0) (pa_cons pe_int pa_nil))))
    (pss_cons (ps_if (pt_cmpR op_eq (pv 2) pe_int (nomark _)) (pss_one (ps_ret (pe_tup (pa_cons pe_str (pa_cons (pe_call GD hr1 rfl (T.g "_law_draw") FD.kp bD .nil pass0 (pa_cons (pv 0) (pa_cons pe_int pa_nil))) pa_nil))))) pss_nil)
    (pss_cons (ps_if (pt_cmpR op_eq (pv 2) pe_int (nomark _)) (pss_one (ps_ret (pe_tup (pa_cons pe_str (pa_cons (pe_call GL hr rfl (T.g "_law_large") FL.kp bL .nil pass0 (pa_cons (pv 0) (pa_cons (pe_op op_pow pe_int pe_int) pa_nil))) pa_nil))))) pss_nil)
    (pss_one (ps_ret (pe_tup (pa_cons pe_str (pa_cons (pe_ix ix_list (pv 1) (pe_call GD hr1 rfl (T.g "_law_draw") FD.kp bD .nil pass0 (pa_cons (pv 0) (pa_cons (pe_callB call_len_seq rfl (T.f "len") (by decide +kernel) (pa_cons (pv 1) pa_nil)) pa_nil))) (fun _ _ => rfl)) pa_nil)))))))), ?_⟩
  refine ⟨_, rfl, st, 4, ns, rfl, by decide, by decide, S, fun pick H1 _ _ S1 B1 => ?_⟩
  refine ⟨_, rfl, rfl, _, rfl, ?_⟩
  refine ite2 (fun _ => ?_) (fun _ => ?_)
  · refine ⟨_, rfl, st, 4, ns, rfl, by decide, by decide, S1, fun r H2 r0 r1 S2 B2 => ⟨tsz (by show 2 ≤ 1000; decide), fun t ht => ?_⟩⟩
    obtain ⟨a1, a2⟩ := tup_new (xs := [.str "number", .int r]) S2 (B1.trans B2) ht
    exact k _ t a1 a2 (.inl ⟨r, r0, by omega, upd_same⟩)
  refine ⟨_, rfl, rfl, _, rfl, ?_⟩
  refine ite2 (fun _ => ?_) (fun _ => ?_)
  · refine ⟨_, rfl, _, _, rfl, rfl, ⟨by decide, by decide, by decide⟩, st, 10 ^ 30, ns, rfl, by decide, by decide, S1, fun r H2 r0 r1 S2 B2 => ⟨tsz (by show 2 ≤ 1000; decide), fun t ht => ?_⟩⟩
    obtain ⟨a1, a2⟩ := tup_new (xs := [.str "number", .int r]) S2 (B1.trans B2) ht
    exact k _ t a1 a2 (.inl ⟨r, r0, r1, upd_same⟩)
  have ll : (zs.map V.str).length = zs.length := by simp
  refine ⟨_, rfl, _, rfl, _, rfl, NL, _, rfl, .inl (SqL.of (B1 _ _ nN eN)), st, _, ns, rfl, by omega, by omega, S1, fun r H2 r0 r1 S2 B2 => ?_⟩
  obtain ⟨j, rfl⟩ := Int.eq_ofNat_of_zero_le r0
  obtain ⟨z, hz, ez⟩ := pick_str (zs := zs) (j := j) (by omega)
  refine ⟨NL, _, _, .str z, rfl, rfl, SqL.of (B2 _ _ nN (B1 _ _ nN eN)), atI_nat ez, tsz (by show 2 ≤ 1000; decide), fun t ht => ?_⟩
  obtain ⟨a1, a2⟩ := tup_new (xs := [.str "name", .str z]) S2 (B1.trans B2) ht
  exact k _ t a1 a2 (.inr ⟨z, gz z hz, upd_same⟩)
end
end K1
set_option Elab.async false
set_option linter.all false
set_option maxRecDepth 100000
set_option maxHeartbeats 4000000
namespace K1
open PySem PySem.Spec PyProof.Rows L2 He Sw L2H
section
variable {P : Program} {w : World} {K : PySem.W.Frag} {mg : Str → Option Value} {base : Heap}
/-! ### a formula that was made of a tree -/
/-- k made of T: fs, ts what is within both, xs the pairs that are made of one another -/
inductive Mt (H : Hp) (k T : Kd) : List Kd → List Kd → List (Kd × Kd) → Prop
  | num (i : Int) (h1 : k.C = "Number") (h2 : k.kd = "number") (h3 : k.th = [.int i]) (h4 : T.th = [.str "number", .int i]) : Mt H k T [] [] []
  | nam (z : Str) (h1 : k.C = "Name") (h2 : k.kd = "name") (h3 : k.th = [.str z]) (h4 : T.th = [.str "name", .str z]) : Mt H k T [] [] []
  | neg (f t : Kd) (h1 : k.C = "Formula") (h2 : k.kd = "negative") (h3 : k.th = [.ref f.a]) (h4 : T.th = [.str "negative", .ref t.a]) : Mt H k T [f] [t] [(f, t)]
  | shift (f t : Kd) (n : Int) (h1 : k.C = "Formula") (h2 : k.kd = "shift") (h3 : k.th = [.ref f.a, .int n]) (h4 : T.th = [.str "shift", .ref t.a, .int n]) : Mt H k T [f] [t] [(f, t)]
  | sum (i : Str) (b Tb f t : Kd) (h1 : k.C = "Sum") (h2 : k.kd = "sum") (h3 : k.th = [.str i, .ref b.a, .ref f.a]) (h4 : T.th = [.str "sum", .str i, .ref Tb.a, .ref t.a]) : Mt H k T [f] [t] [(b, Tb), (f, t)]
  | call (z : Str) (u v : Addr) (ps : List (Kd × Kd)) (h1 : k.C = "Call") (h2 : k.kd = "call") (h3 : k.th = [.str z, .ref u]) (e1 : H u = some (.tup (refs (ps.map (·.1))))) (h4 : T.th = [.str "call", .str z, .ref v]) (e2 : H v = some (.tup (refs (ps.map (·.2))))) (l4 : ps.length ≤ 4) : Mt H k T (ps.map (·.1)) (ps.map (·.2)) ps
  | bin (kd : Str) (f1 f2 t1 t2 : Kd) (hk : kd = "plus" ∨ kd = "minus" ∨ kd = "times") (h1 : k.C = "Formula") (h2 : k.kd = kd) (h3 : k.th = [.ref f1.a, .ref f2.a]) (h4 : T.th = [.str kd, .ref t1.a, .ref t2.a]) : Mt H k T [f1, f2] [t1, t2] [(f1, t1), (f2, t2)]
theorem Mt.same {H H' : Hp} {k T : Kd} {fs ts : List Kd} {xs : List (Kd × Kd)} (h : Mt H k T fs ts xs) (s : Same H H') : Mt H' k T fs ts xs := by
  cases h with
  | num i h1 h2 h3 h4 => exact .num i h1 h2 h3 h4
  | nam z h1 h2 h3 h4 => exact .nam z h1 h2 h3 h4
  | neg f t h1 h2 h3 h4 => exact .neg f t h1 h2 h3 h4
  | shift f t n h1 h2 h3 h4 => exact .shift f t n h1 h2 h3 h4
  | sum i b Tb f t h1 h2 h3 h4 => exact .sum i b Tb f t h1 h2 h3 h4
  | call z u v _ h1 h2 h3 e1 h4 e2 l4 => exact .call z u v _ h1 h2 h3 (s _ _ e1) h4 (s _ _ e2) l4
  | bin kd f1 f2 t1 t2 hk h1 h2 h3 h4 => exact .bin kd f1 f2 t1 t2 hk h1 h2 h3 h4
def FR (K : PySem.W.Frag) : Nat → Hp → Kd → Kd → Prop
  | 0, _, _, _ => False
  | n + 1, H, k, T => k.p = T.p ∧ k.d = T.d ∧ k.ix = T.ix ∧ H T.a = some (.tup T.th) ∧ (∃ ks, NodeAt K H k ks) ∧ ∃ fs ts xs, Mt H k T fs ts xs ∧ ∀ q ∈ xs, FR K n H q.1 q.2
theorem NodeAt.same' {H H' : Hp} {k : Kd} {ks : List Kd} (h : NodeAt K H k ks) (s : Same H H') : NodeAt K H' k ks := h.same s
theorem FR.same : ∀ {n : Nat} {H H' : Hp} {k T : Kd}, FR K n H k T → Same H H' → FR K n H' k T
  | n + 1, H, H', k, T, ⟨h1, h2, h3, h4, ⟨ks, h5⟩, fs, ts, xs, h6, r⟩, s => ⟨h1, h2, h3, s _ _ h4, ⟨ks, h5.same s⟩, fs, ts, xs, h6.same s, fun q hq => (r q hq).same s⟩
theorem Mt.sameT {H H' : Hp} {k T : Kd} {fs ts : List Kd} {xs : List (Kd × Kd)} (h : Mt H k T fs ts xs) (s : SameT H H') : Mt H' k T fs ts xs := by
  cases h with
  | num i h1 h2 h3 h4 => exact .num i h1 h2 h3 h4
  | nam z h1 h2 h3 h4 => exact .nam z h1 h2 h3 h4
  | neg f t h1 h2 h3 h4 => exact .neg f t h1 h2 h3 h4
  | shift f t n h1 h2 h3 h4 => exact .shift f t n h1 h2 h3 h4
  | sum i b Tb f t h1 h2 h3 h4 => exact .sum i b Tb f t h1 h2 h3 h4
  | call z u v _ h1 h2 h3 e1 h4 e2 l4 => exact .call z u v _ h1 h2 h3 (s _ _ e1 fun _ z => by cases z) h4 (s _ _ e2 fun _ z => by cases z) l4
  | bin kd f1 f2 t1 t2 hk h1 h2 h3 h4 => exact .bin kd f1 f2 t1 t2 hk h1 h2 h3 h4
theorem NodeAt.sameT {H H' : Hp} {k : Kd} {ks : List Kd} (h : NodeAt K H k ks) (s : SameT H H') : NodeAt K H' k ks := by
  obtain ⟨dx, t, own, h2, h3, h4, h5⟩ := h
  exact ⟨dx, t, own, s _ _ h2 (fun _ z => by cases z), s _ _ h3 (fun _ z => by cases z), h4.sameT s, h5⟩
theorem FR.sameT : ∀ {n : Nat} {H H' : Hp} {k T : Kd}, FR K n H k T → SameT H H' → FR K n H' k T
  | n + 1, H, H', k, T, ⟨h1, h2, h3, h4, ⟨ks, h5⟩, fs, ts, xs, h6, r⟩, s => ⟨h1, h2, h3, s _ _ h4 (fun _ z => by cases z), ⟨ks, h5.sameT s⟩, fs, ts, xs, h6.sameT s, fun q hq => (r q hq).sameT s⟩
theorem FR.mono : ∀ {n m : Nat} {H : Hp} {k T : Kd}, FR K n H k T → n ≤ m → FR K m H k T
  | n + 1, m + 1, H, k, T, ⟨h1, h2, h3, h4, h5, fs, ts, xs, h6, r⟩, l => ⟨h1, h2, h3, h4, h5, fs, ts, xs, h6, fun q hq => (r q hq).mono (Nat.le_of_succ_le_succ l)⟩
/-! ### _law_made -/
def spMade (K : PySem.W.Frag) (n : Nat) : Sp := fun vs H Q _ => ∃ (T : Kd), vs = [.ref T.a] ∧ Tr n H T ∧ T.p ≤ 300 ∧ T.d ≤ 40 ∧ ∀ H' k, Same H H' → FmD K H' k → FR K n H' k T → Q (.ref k.a) H'
theorem scMade : FnScope ["_law_tree_here", "_law_kind", "_law_one", "_law_other", "_law_x"] ["_law_tree_here"] (defScope sMade) := ⟨rfl, rfl, rfl, by decide +kernel, rfl, by decide +kernel, by decide +kernel⟩
theorem FmD.at {n : Nat} {H : Hp} {k : Kd} (h : Fm K n H k) : ∃ x ∈ clsL, ∃ dx fs, H k.a = some (.ins (ga K x) dx fs) := by
  obtain ⟨dx, t, hC, e, _⟩ := h.kid
  exact ⟨k.C, hC, dx, _, e⟩
theorem fits_of {T : Kd} {fs ts : List Kd} (hp : T.p ≤ 300) (hd : T.d ≤ 40) (e1 : T.p = 1 + sumP ts) (e2 : T.d = 1 + maxD ts) (p : sumP fs = sumP ts) (d : maxD fs = maxD ts) : Fits fs := ⟨by omega, by omega⟩
theorem refs_nil {ts : List Kd} (h : refs ts = []) : ts = [] := List.map_eq_nil_iff.mp h
theorem refs_one {ts : List Kd} {a : V} (h : refs ts = [a]) : ∃ t, ts = [t] ∧ a = .ref t.a := by
  match ts, h with
  | [t], h => exact ⟨t, rfl, (List.head_eq_of_cons_eq h).symm⟩
  | [], h => cases h
  | _ :: _ :: _, h => cases h
theorem refs_two {ts : List Kd} {a b : V} (h : refs ts = [a, b]) : ∃ t u, ts = [t, u] ∧ a = .ref t.a ∧ b = .ref u.a := by
  match ts, h with
  | [t, u], h => exact ⟨t, u, rfl, (List.head_eq_of_cons_eq h).symm, (List.head_eq_of_cons_eq (List.tail_eq_of_cons_eq h)).symm⟩
  | [], h => cases h
  | [_], h => cases h
  | _ :: _ :: _ :: _, h => cases h
theorem FR.eqs {n : Nat} {H : Hp} {k T : Kd} (h : FR K n H k T) : k.p = T.p ∧ k.d = T.d ∧ k.ix = T.ix := by
  cases n with
  | zero => exact h.elim
  | succ n => exact ⟨h.1, h.2.1, h.2.2.1⟩
theorem pairs_eq {n : Nat} {H : Hp} : ∀ ps : List (Kd × Kd), (∀ q ∈ ps, FR K n H q.1 q.2) → sumP (ps.map (·.1)) = sumP (ps.map (·.2)) ∧ maxD (ps.map (·.1)) = maxD (ps.map (·.2)) ∧ ixs (ps.map (·.1)) = ixs (ps.map (·.2))
  | [], _ => ⟨rfl, rfl, rfl⟩
  | q :: ps, h => by
    obtain ⟨e1, e2, e3⟩ := (h q List.mem_cons_self).eqs
    obtain ⟨r1, r2, r3⟩ := pairs_eq ps fun p hp => h p (List.mem_cons_of_mem _ hp)
    refine ⟨?_, ?_, ?_⟩
    · show q.1.p + sumP (ps.map (·.1)) = q.2.p + sumP (ps.map (·.2))
      rw [e1, r1]
    · show max q.1.d (maxD (ps.map (·.1))) = max q.2.d (maxD (ps.map (·.2)))
      rw [e2, r2]
    · show q.1.ix ++ ixs (ps.map (·.1)) = q.2.ix ++ ixs (ps.map (·.2))
      rw [e3, r3]
theorem ok_made {fd fdA fdS fdM fdN fdL fdU fdC fdV fdW : FuncData} (T : Txt K mg) (F : FnG K "_law_made" sMade fd)
    (FA : FnF K "__add__" "Formula.__add__" sAdd fdA) (FS : FnF K "__sub__" "Formula.__sub__" sSub fdS) (FM : FnF K "__mul__" "Formula.__mul__" sMul fdM) (FN : FnF K "__neg__" "Formula.__neg__" sNeg fdN) (FL : FnF K "__lshift__" "Formula.__lshift__" sShl fdL)
    (FU : FnM K "Sum" "Sum.__init__" sSum [] fdU) (FC' : FnM K "Call" "Call.__init__" sCall [] fdC) (FV : FnM K "Number" "Number.__init__" sNum [] fdV) (FW : FnM K "Name" "Name.__init__" sName [] fdW)
    (GA : FnOk P w K mg base CX0 3 (ma K (ga K "Formula") "__add__") fdA ["self", "other"] (spBin K "plus"))
    (GS : FnOk P w K mg base CX0 3 (ma K (ga K "Formula") "__sub__") fdS ["self", "other"] (spBin K "minus"))
    (GM : FnOk P w K mg base CX0 3 (ma K (ga K "Formula") "__mul__") fdM ["self", "other"] (spBin K "times"))
    (GN : FnOk P w K mg base CX0 3 (ma K (ga K "Formula") "__neg__") fdN ["self"] (spNeg K))
    (GL : FnOk P w K mg base CX0 4 (ma K (ga K "Formula") "__lshift__") fdL ["self", "other"] (spShl K))
    (GU : FnOk P w K mg base CX0 43 (ma K (ga K "Sum") "__init__") fdU ["self", "index", "below", "body"] (spSumI K))
    (GC : FnOk P w K mg base CX0 3 (ma K (ga K "Call") "__init__") fdC ["self", "name", "things"] (spCallI K))
    (GV : FnOk P w K mg base CX0 2 (ma K (ga K "Number") "__init__") fdV ["self", "n"] (spNumI K))
    (GW : FnOk P w K mg base CX0 3 (ma K (ga K "Name") "__init__") fdW ["self", "name"] (spNameI K)) :
    ∀ n, FnOk P w K mg base CX0 (n + 45) (ga K "_law_made") fd ["_law_tree_here"] (spMade K n)
  | 0 => ⟨fun vs H Q E h => by
      obtain ⟨k, rfl, _⟩ := h
      rfl, fun A outer s H args us vs Q E _ _ _ _ h => by
      obtain ⟨k, _, h, _⟩ := h
      exact h.elim⟩
  | n + 1 => by
    have GX : FnOk P w K mg base CX0 (n + 45) (ga K "_law_made") fd ["_law_tree_here"] (spMade K n) := ok_made T F FA FS FM FN FL FU FC' FV FW GA GS GM GN GL GU GC GV GW n
    have bX : Binds K fd ["_law_tree_here"] [] := F.bindsN fun _ _ _ _ _ _ us hl => match us, hl with | [_], _ => rfl
    have bA : Binds K fdA ["self", "other"] [] := FA.bindsN fun _ _ _ _ _ _ us hl => match us, hl with | [_, _], _ => rfl
    have bS : Binds K fdS ["self", "other"] [] := FS.bindsN fun _ _ _ _ _ _ us hl => match us, hl with | [_, _], _ => rfl
    have bM : Binds K fdM ["self", "other"] [] := FM.bindsN fun _ _ _ _ _ _ us hl => match us, hl with | [_, _], _ => rfl
    have bN : Binds K fdN ["self"] [] := FN.bindsN fun _ _ _ _ _ _ us hl => match us, hl with | [_], _ => rfl
    have bL : Binds K fdL ["self", "other"] [] := FL.bindsN fun _ _ _ _ _ _ us hl => match us, hl with | [_, _], _ => rfl
    have bU : Binds K fdU ["self", "index", "below", "body"] [] := FU.bindsN fun _ _ _ _ _ _ us hl => match us, hl with | [_, _, _, _], _ => rfl
    have bC : Binds K fdC ["self", "name", "things"] [] := FC'.bindsN fun _ _ _ _ _ _ us hl => match us, hl with | [_, _, _], _ => rfl
    have bV : Binds K fdV ["self", "n"] [] := FV.bindsN fun _ _ _ _ _ _ us hl => match us, hl with | [_, _], _ => rfl
    have bW : Binds K fdW ["self", "name"] [] := FW.bindsN fun _ _ _ _ _ _ us hl => match us, hl with | [_, _], _ => rfl
    refine F.ok scMade (fun vs H Q E h => ?_) (fun cdv A outer s H vs Q E hr h => ?_)
    · obtain ⟨T', rfl, _⟩ := h
      rfl
    obtain ⟨T', rfl, ⟨ts, ⟨own, eT, sh, ep, ed, eix, hown⟩, hts⟩, hp, hd, q⟩ := h
    have nod := scMade.nd
    have hr4 : Room 4 _ := hr.mono (by omega)
    have hr3 : Room 3 _ := hr.mono (by omega)
    have hr44 : Room 44 _ := hr.mono (by omega)
    refine ⟨_, PSs.nox (pss_cons (ps_set (i := 1) nod rfl (Or.inl rfl) (pe_ix ix_tup (pv 0) pe_int (fun _ _ => rfl)))
      (pss_cons (ps_if (pt_cmpR op_eq (pv 1) pe_str (nomark _)) (pss_one (ps_ret (pe_make (T.ins "Number" (by decide +kernel)).mkr GV hr3 rfl (T.g "Number") bV .nil pass0 (pa_cons (pe_ix ix_tup (pv 0) pe_int (fun _ _ => rfl)) pa_nil)))) pss_nil)
      (pss_cons (ps_if (pt_cmpR op_eq (pv 1) pe_str (nomark _)) (pss_one (ps_ret (pe_make (T.ins "Name" (by decide +kernel)).mkr GW hr4 rfl (T.g "Name") bW .nil pass0 (pa_cons (pe_ix ix_tup (pv 0) pe_int (fun _ _ => rfl)) pa_nil)))) pss_nil)
      (pss_cons (ps_if (pt_cmpR op_eq (pv 1) pe_str (nomark _)) (pss_one (ps_ret (pe_make (T.ins "Sum" (by decide +kernel)).mkr GU hr44 rfl (T.g "Sum") bU .nil pass0 (pa_cons (pe_ix ix_tup (pv 0) pe_int (fun _ _ => rfl)) (pa_cons (pe_call GX hr rfl (T.g "_law_made") F.kp bX .nil pass0 (pa_cons (pe_ix ix_tup (pv 0) pe_int (fun _ _ => rfl)) pa_nil)) (pa_cons (pe_call GX hr rfl (T.g "_law_made") F.kp bX .nil pass0 (pa_cons (pe_ix ix_tup (pv 0) pe_int (fun _ _ => rfl)) pa_nil)) pa_nil)))))) pss_nil)
      (pss_cons (ps_if (pt_cmpR op_eq (pv 1) pe_str (nomark _)) (pss_one (ps_ret (pe_make (T.ins "Call" (by decide +kernel)).mkr GC hr4 rfl (T.g "Call") bC .nil pass0 (pa_cons (pe_ix ix_tup (pv 0) pe_int (fun _ _ => rfl)) (pa_cons (pe_lc (own := [("_law_one", 2)]) (te := tCall (spMade K n) [] E0 (tCons (tVar 2) tNil)) (g := gName 2) (tt := tYes) rfl nod (pi_tup (pe_ix ix_tup (pv 0) pe_int (fun _ _ => rfl)))
          (blkOk_by (N := ["_law_tree_here", "_law_kind", "_law_one", "_law_other", "_law_x"]) (sc := defScope sMade) (by decide +kernel)) (fun _ _ _ _ _ => pg_name (i := 2) nod rfl (Or.inl rfl)) (fun _ _ _ _ _ => pts_nil) (fun _ _ _ _ _ => pe_call GX hr rfl (T.g "_law_made") F.kp bX .nil pass0 (pa_cons (pv 2) pa_nil))) pa_nil))))) pss_nil)
      (pss_cons (ps_set (i := 2) nod rfl (Or.inl rfl) (pe_call GX hr rfl (T.g "_law_made") F.kp bX .nil pass0 (pa_cons (pe_ix ix_tup (pv 0) pe_int (fun _ _ => rfl)) pa_nil)))
      (pss_cons (ps_if (pt_cmpR op_eq (pv 1) pe_str (nomark _)) (pss_one (ps_ret (pe_un (un_own GN hr3 bN pass0) (pv 2)))) pss_nil)
      (pss_cons (ps_if (pt_cmpR op_eq (pv 1) pe_str (nomark _)) (pss_one (ps_ret (pe_op (op_ownI GL hr4 bL pass0) (pv 2) (pe_ix ix_tup (pv 0) pe_int (fun _ _ => rfl))))) pss_nil)
      (pss_cons (ps_set (i := 3) nod rfl (Or.inl rfl) (pe_call GX hr rfl (T.g "_law_made") F.kp bX .nil pass0 (pa_cons (pe_ix ix_tup (pv 0) pe_int (fun _ _ => rfl)) pa_nil)))
      (pss_cons (ps_if (pt_cmpR op_eq (pv 1) pe_str (nomark _)) (pss_one (ps_ret (pe_op (op_own GA hr3 bA pass0 rfl) (pv 2) (pv 3)))) pss_nil)
      (pss_cons (ps_if (pt_cmpR op_eq (pv 1) pe_str (nomark _)) (pss_one (ps_ret (pe_op (op_own GS hr3 bS pass0 rfl) (pv 2) (pv 3)))) pss_nil)
      (pss_one (ps_ret (pe_op (op_own GM hr3 bM pass0 rfl) (pv 2) (pv 3))))))))))))))), ?_⟩
    generalize hth : T'.th = th at eT sh
    generalize hrf : refs ts = as at sh
    have one : ∀ t ∈ ts, t.p ≤ 300 ∧ t.d ≤ 40 := fun t ht => by
      have a1 := maxD_ge ht
      have a2 : ∀ l : List Kd, t ∈ l → t.p ≤ sumP l := fun l => by
        induction l with
        | nil => intro h; cases h
        | cons c l ih =>
          intro h
          show t.p ≤ c.p + sumP l
          rcases List.mem_cons.mp h with rfl | h
          · omega
          · have := ih h; omega
      have a3 := a2 ts ht
      exact ⟨by omega, by omega⟩
    cases sh with
    | num i h0 h1 =>
      obtain rfl := refs_nil hrf
      refine ⟨_, rfl, T'.a, _, _, .str "number", rfl, rfl, SqT.of eT, rfl, ?_⟩
      refine ⟨_, rfl, rfl, _, rfl, ite2 (fun _ => ?_) (fun h => absurd (by decide +kernel) h)⟩
      refine ⟨_, rfl, T'.a, _, _, .int i, rfl, rfl, SqT.of eT, rfl, fun x dx hx hdx ne => ⟨x, _, dx, i, rfl, h0, h1, upd_same, T.ins _ (by decide +kernel), fun H' t sb e et => ⟨rfl, ?_⟩⟩⟩
      obtain ⟨a1, a2⟩ := made (K := K) (C := "Number") (own := []) (ks := []) (Same.refl H) hx hdx sb e et (.num i) (fun q hq => by cases hq) fits0
      exact q H' _ a1 a2 ⟨ep.symm, ed.symm, eix.symm, by rw [hth]; exact a1 _ _ eT, a2.node, [], [], [], .num i rfl rfl rfl hth, fun q hq => by cases hq⟩
    | nam z g =>
      obtain rfl := refs_nil hrf
      refine ⟨_, rfl, T'.a, _, _, .str "name", rfl, rfl, SqT.of eT, rfl, ?_⟩
      refine ⟨_, rfl, rfl, _, rfl, ite2 (fun h => absurd h (by decide +kernel)) (fun _ => ?_)⟩
      refine ⟨_, rfl, rfl, _, rfl, ite2 (fun _ => ?_) (fun h => absurd (by decide +kernel) h)⟩
      refine ⟨_, rfl, T'.a, _, _, .str z, rfl, rfl, SqT.of eT, rfl, fun x dx hx hdx ne => ⟨x, _, dx, z, rfl, g, upd_same, T.ins _ (by decide +kernel), fun H' t sb e et => ⟨rfl, ?_⟩⟩⟩
      obtain ⟨a1, a2⟩ := made (K := K) (C := "Name") (own := []) (ks := []) (Same.refl H) hx hdx sb e et (.nam z) (fun q hq => by cases hq) fits0
      exact q H' _ a1 a2 ⟨ep.symm, ed.symm, eix.symm, by rw [hth]; exact a1 _ _ eT, a2.node, [], [], [], .nam z rfl rfl rfl hth, fun q hq => by cases hq⟩
    | neg a =>
      obtain ⟨t, rfl, rfl⟩ := refs_one hrf
      have ht := one t List.mem_cons_self
      refine ⟨_, rfl, T'.a, _, _, .str "negative", rfl, rfl, SqT.of eT, rfl, ?_⟩
      refine ⟨_, rfl, rfl, _, rfl, ite2 (fun h => absurd h (by decide +kernel)) (fun _ => ?_)⟩
      refine ⟨_, rfl, rfl, _, rfl, ite2 (fun h => absurd h (by decide +kernel)) (fun _ => ?_)⟩
      refine ⟨_, rfl, rfl, _, rfl, ite2 (fun h => absurd h (by decide +kernel)) (fun _ => ?_)⟩
      refine ⟨_, rfl, rfl, _, rfl, ite2 (fun h => absurd h (by decide +kernel)) (fun _ => ?_)⟩
      refine ⟨_, rfl, T'.a, _, _, .ref t.a, rfl, rfl, SqT.of eT, rfl, t, rfl, hts t List.mem_cons_self, ht.1, ht.2, fun H1 f s1 fm fr => ?_⟩
      obtain ⟨x0, hx0, dx0, fs0, ea0⟩ := FmD.at fm
      obtain ⟨f1, f2, f3⟩ : f.p = t.p ∧ f.d = t.d ∧ f.ix = t.ix := by cases n with | zero => exact fr.elim | succ n => exact ⟨fr.1, fr.2.1, fr.2.2.1⟩
      have p1 : sumP [f] = sumP [t] := by show f.p + 0 = t.p + 0; rw [f1]
      have d1 : maxD [f] = maxD [t] := by show max f.d 0 = max t.d 0; rw [f2]
      have x1 : ixs [f] = ixs [t] := by show (f.ix ++ []) = (t.ix ++ []); rw [f3]
      have fit : Fits [f] := fits_of hp hd ep ed p1 d1
      refine ⟨_, rfl, rfl, _, rfl, ite2 (fun _ => ?_) (fun h => absurd (by decide +kernel) h)⟩
      refine ⟨_, rfl, f.a, _, dx0, fs0, rfl, ea0, T.neg x0 hx0, f, rfl, fm, fit, fun H2 x s2 hx2 => ?_⟩
      exact q H2 _ (s1.trans s2) hx2 ⟨by rw [ep]; show 1 + sumP [f] = _; rw [p1], by rw [ed]; show 1 + maxD [f] = _; rw [d1], by rw [eix]; show [] ++ ixs [f] = _; rw [x1], by rw [hth]; exact (s1.trans s2) _ _ eT, hx2.node, [f], [t], [(f, t)], .neg f t rfl rfl rfl hth, fun q hq => by rw [List.mem_singleton.mp hq]; exact fr.same s2⟩
    | shift a m h0 h1 =>
      obtain ⟨t, rfl, rfl⟩ := refs_one hrf
      have ht := one t List.mem_cons_self
      refine ⟨_, rfl, T'.a, _, _, .str "shift", rfl, rfl, SqT.of eT, rfl, ?_⟩
      refine ⟨_, rfl, rfl, _, rfl, ite2 (fun h => absurd h (by decide +kernel)) (fun _ => ?_)⟩
      refine ⟨_, rfl, rfl, _, rfl, ite2 (fun h => absurd h (by decide +kernel)) (fun _ => ?_)⟩
      refine ⟨_, rfl, rfl, _, rfl, ite2 (fun h => absurd h (by decide +kernel)) (fun _ => ?_)⟩
      refine ⟨_, rfl, rfl, _, rfl, ite2 (fun h => absurd h (by decide +kernel)) (fun _ => ?_)⟩
      refine ⟨_, rfl, T'.a, _, _, .ref t.a, rfl, rfl, SqT.of eT, rfl, t, rfl, hts t List.mem_cons_self, ht.1, ht.2, fun H1 f s1 fm fr => ?_⟩
      obtain ⟨x0, hx0, dx0, fs0, ea0⟩ := FmD.at fm
      obtain ⟨f1, f2, f3⟩ : f.p = t.p ∧ f.d = t.d ∧ f.ix = t.ix := by cases n with | zero => exact fr.elim | succ n => exact ⟨fr.1, fr.2.1, fr.2.2.1⟩
      have p1 : sumP [f] = sumP [t] := by show f.p + 0 = t.p + 0; rw [f1]
      have d1 : maxD [f] = maxD [t] := by show max f.d 0 = max t.d 0; rw [f2]
      have x1 : ixs [f] = ixs [t] := by show (f.ix ++ []) = (t.ix ++ []); rw [f3]
      have fit : Fits [f] := fits_of hp hd ep ed p1 d1
      refine ⟨_, rfl, rfl, _, rfl, ite2 (fun h => absurd h (by decide +kernel)) (fun _ => ?_)⟩
      refine ⟨_, rfl, rfl, _, rfl, ite2 (fun _ => ?_) (fun h => absurd (by decide +kernel) h)⟩
      refine ⟨_, rfl, _, rfl, T'.a, _, _, .int m, rfl, rfl, SqT.of (s1 _ _ eT), rfl, f.a, _, dx0, fs0, m, rfl, rfl, ea0, T.shl x0 hx0, f, m, rfl, h0, h1, fm, fit, fun H2 x s2 hx2 => ⟨⟨x, rfl⟩, ?_⟩⟩
      exact q H2 _ (s1.trans s2) hx2 ⟨by rw [ep]; show 1 + sumP [f] = _; rw [p1], by rw [ed]; show 1 + maxD [f] = _; rw [d1], by rw [eix]; show [] ++ ixs [f] = _; rw [x1], by rw [hth]; exact (s1.trans s2) _ _ eT, hx2.node, [f], [t], [(f, t)], .shift f t m rfl rfl rfl hth, fun q hq => by rw [List.mem_singleton.mp hq]; exact fr.same s2⟩
    | sum i b a g hb =>
      obtain ⟨t, rfl, rfl⟩ := refs_one hrf
      have ht := one t List.mem_cons_self
      refine ⟨_, rfl, T'.a, _, _, .str "sum", rfl, rfl, SqT.of eT, rfl, ?_⟩
      refine ⟨_, rfl, rfl, _, rfl, ite2 (fun h => absurd h (by decide +kernel)) (fun _ => ?_)⟩
      refine ⟨_, rfl, rfl, _, rfl, ite2 (fun h => absurd h (by decide +kernel)) (fun _ => ?_)⟩
      refine ⟨_, rfl, rfl, _, rfl, ite2 (fun _ => ?_) (fun h => absurd (by decide +kernel) h)⟩
      -- the bound's tree
      have htr := hts t List.mem_cons_self
      cases n with
      | zero => exact htr.elim
      | succ n =>
      obtain ⟨thb, hTb, hbk⟩ : ∃ thb, Tr (n + 1) H ⟨b, 1, 1, [], "", "", thb⟩ ∧ ((∃ m : Int, thb = [.str "number", .int m]) ∨ ∃ z : Str, z ≠ i ∧ thb = [.str "name", .str z]) := by
        rcases hb with ⟨m, h0, h1, e⟩ | ⟨z, gz, ne, e⟩
        · exact ⟨_, (show Tr 1 H ⟨b, 1, 1, [], "", "", [.str "number", .int m]⟩ from ⟨[], ⟨[], e, .num m h0 h1, rfl, rfl, rfl, fun i hi => by cases hi⟩, fun q hq => by cases hq⟩).mono (by omega), .inl ⟨m, rfl⟩⟩
        · exact ⟨_, (show Tr 1 H ⟨b, 1, 1, [], "", "", [.str "name", .str z]⟩ from ⟨[], ⟨[], e, .nam z gz, rfl, rfl, rfl, fun i hi => by cases hi⟩, fun q hq => by cases hq⟩).mono (by omega), .inr ⟨z, ne, rfl⟩⟩
      refine ⟨_, rfl, T'.a, _, _, .str i, rfl, rfl, SqT.of eT, rfl, _, rfl, T'.a, _, _, .ref b, rfl, rfl, SqT.of eT, rfl, _, rfl, hTb, (show 1 ≤ 300 by decide), (show 1 ≤ 40 by decide), fun H1 kb s1 bm br => ?_⟩
      refine ⟨_, rfl, T'.a, _, _, .ref t.a, rfl, rfl, SqT.of (s1 _ _ eT), rfl, t, rfl, htr.same s1, ht.1, ht.2, fun H2 f s2 fm fr => ?_⟩
      intro x dx hx hdx ne
      have f1 := fr.1
      have f2 := fr.2.1
      have f3 := fr.2.2.1
      have p1 : sumP [f] = sumP [t] := by show f.p + 0 = t.p + 0; rw [f1]
      have d1 : maxD [f] = maxD [t] := by show max f.d 0 = max t.d 0; rw [f2]
      have x1 : ixs [f] = ixs [t] := by show (f.ix ++ []) = (t.ix ++ []); rw [f3]
      have fit : Fits [f] := fits_of hp hd ep ed p1 d1
      have s02 := s1.trans s2
      have s3 : Same H2 (upd (upd H2 dx (.own x)) x (.ins (ga K "Sum") dx [])) := fun b o q => by rw [upd_ne (ne_of_none q hx), upd_ne (ne_of_none q hdx)]; exact q
      have bnd : (∃ m : Int, kb.C = "Number" ∧ kb.th = [.int m]) ∨ ∃ z : Str, kb.C = "Name" ∧ kb.th = [.str z] ∧ z ≠ i := by
        obtain ⟨_, _, _, _, _, fs, ts, xs, mt, _⟩ := br
        rcases hbk with ⟨m, rfl⟩ | ⟨z, hz, rfl⟩
        · cases mt with
          | num j h1 h2 h3 h4 => exact .inl ⟨j, h1, h3⟩
          | nam j h1 h2 h3 h4 => exact absurd (List.head_eq_of_cons_eq h4) (by decide +kernel)
          | neg f t h1 h2 h3 h4 => exact absurd (List.head_eq_of_cons_eq h4) (by decide +kernel)
          | shift f t n h1 h2 h3 h4 => exact absurd (List.head_eq_of_cons_eq h4) (by decide +kernel)
          | sum i b Tb f t h1 h2 h3 h4 => exact absurd (List.head_eq_of_cons_eq h4) (by decide +kernel)
          | call z u v ps h1 h2 h3 e1 h4 e2 _ => exact absurd (List.head_eq_of_cons_eq h4) (by decide +kernel)
          | bin kd f1 f2 t1 t2 hk h1 h2 h3 h4 => exact absurd (congrArg List.length h4) (by show ¬ ((2 : Nat) = 3); decide)
        · cases mt with
          | num j h1 h2 h3 h4 => exact absurd (List.head_eq_of_cons_eq h4) (by decide +kernel)
          | nam j h1 h2 h3 h4 =>
            have e := List.head_eq_of_cons_eq (List.tail_eq_of_cons_eq h4)
            injection e with e
            exact .inr ⟨j, h1, h3, by rw [← e]; exact hz⟩
          | neg f t h1 h2 h3 h4 => exact absurd (List.head_eq_of_cons_eq h4) (by decide +kernel)
          | shift f t n h1 h2 h3 h4 => exact absurd (List.head_eq_of_cons_eq h4) (by decide +kernel)
          | sum i b Tb f t h1 h2 h3 h4 => exact absurd (List.head_eq_of_cons_eq h4) (by decide +kernel)
          | call z u v ps h1 h2 h3 e1 h4 e2 _ => exact absurd (List.head_eq_of_cons_eq h4) (by decide +kernel)
          | bin kd f1 f2 t1 t2 hk h1 h2 h3 h4 => exact absurd (congrArg List.length h4) (by show ¬ ((2 : Nat) = 3); decide)
      have ni : i ∉ f.ix := by
        rw [f3]
        intro hi
        exact hown i List.mem_cons_self (by show i ∈ t.ix ++ []; rw [List.append_nil]; exact hi)
      refine ⟨x, _, dx, kb, i, f, rfl, g, upd_same, T.ins _ (by decide +kernel), ⟨bm.same (s2.trans s3), bnd⟩, fm.same s3, ni, fit, fun H' tt sb e et => ⟨rfl, ?_⟩⟩
      obtain ⟨a1, a2⟩ := made (K := K) (C := "Sum") (own := [i]) (ks := [f]) (Same.refl H2) hx hdx sb e et (.sum i _ _) (fun q hq => by rw [List.mem_singleton.mp hq]; exact fm) fit
      exact q H' _ (s02.trans a1) a2 ⟨by rw [ep]; show 1 + sumP [f] = _; rw [p1], by rw [ed]; show 1 + maxD [f] = _; rw [d1], by rw [eix]; show [i] ++ ixs [f] = _; rw [x1], by rw [hth]; exact (s02.trans a1) _ _ eT, a2.node, [f], [t], [(kb, ⟨b, 1, 1, [], "", "", thb⟩), (f, t)], .sum i kb _ f t rfl rfl rfl hth, fun q hq => by
        rcases List.mem_cons.mp hq with rfl | hq
        · exact br.same (s2.trans a1)
        · rw [List.mem_singleton.mp hq]; exact fr.same a1⟩
    | @call u z _ g e l1 l4 =>
      subst hrf
      refine ⟨_, rfl, T'.a, _, _, .str "call", rfl, rfl, SqT.of eT, rfl, ?_⟩
      refine ⟨_, rfl, rfl, _, rfl, ite2 (fun h => absurd h (by decide +kernel)) (fun _ => ?_)⟩
      refine ⟨_, rfl, rfl, _, rfl, ite2 (fun h => absurd h (by decide +kernel)) (fun _ => ?_)⟩
      refine ⟨_, rfl, rfl, _, rfl, ite2 (fun h => absurd h (by decide +kernel)) (fun _ => ?_)⟩
      refine ⟨_, rfl, rfl, _, rfl, ite2 (fun _ => ?_) (fun h => absurd (by decide +kernel) h)⟩
      refine ⟨_, rfl, T'.a, _, _, .str z, rfl, rfl, SqT.of eT, rfl, _, rfl, T'.a, _, _, .ref u, rfl, rfl, SqT.of eT, rfl, u, rfl, ⟨_, SqT.of e⟩, fun D hD => ?_⟩
      have lr : (refs ts).length = ts.length := by simp [refs]
      have up : ∀ {H' : Hp} {o : HO}, Same H H' → Same H (upd H' D o) := fun {H' o} s' b o' e => by rw [upd_ne (ne_of_none e hD)]; exact s' _ _ e
      refine lc_tup (K := K) (a := u) (xs := refs ts) (fun i H' => ∃ ps : List (Kd × Kd), ps.map (·.2) = ts.take i ∧ Same H H' ∧ H' D = some (.lst (refs (ps.map (·.1)))) ∧ ∀ q ∈ ps, FmD K H' q.1 ∧ FR K n H' q.1 q.2)
        ⟨[], by simp, up (Same.refl _), by rw [upd_same]; rfl, fun q hq => by cases hq⟩ (fun i H' _ ⟨_, _, s', _⟩ => SqT.of (s' _ _ e)) (fun i x H' hx ⟨ps, e1, s', eD, hq⟩ => ?_) (fun H' ⟨ps, e1, s', eD, hq⟩ => ?_)
      · obtain ⟨t, hti, rfl⟩ : ∃ t, ts[i]? = some t ∧ V.ref t.a = x := by
          unfold refs at hx
          rw [List.getElem?_map] at hx
          cases h : ts[i]? with
          | none => rw [h] at hx; cases hx
          | some k => rw [h] at hx; exact ⟨k, rfl, by injection hx⟩
        have hm : t ∈ ts := List.mem_of_getElem? hti
        have ht := one t hm
        refine ⟨rfl, ?_⟩
        refine ⟨_, rfl, t, rfl, (hts t hm).same s', ht.1, ht.2, fun H2 f s2 fm fr => ⟨_, s2 _ _ eD, ?_, ps ++ [(f, t)], ?_, up (s'.trans s2), ?_, fun q hq' => ?_⟩⟩
        · have a1 : (ps.map (·.2)).length = (ts.take i).length := by rw [e1]
          rw [List.length_map, List.length_take] at a1
          have a2 : (refs (ps.map (·.1))).length = ps.length := by simp [refs]
          rw [a2, sizeLine_eq]
          omega
        · rw [List.map_append, e1, List.take_add_one, hti]
          rfl
        · rw [upd_same]
          simp [refs]
        · have sT : SameT H2 (upd H2 D (.lst (refs (ps.map (·.1)) ++ [V.ref f.a]))) := SameT.but (xs := refs (ps.map (·.1))) sameBut_upd (s2 _ _ eD)
          rcases List.mem_append.mp hq' with hq' | hq'
          · obtain ⟨a1, a2⟩ := hq q hq'
            exact ⟨(a1.same s2).sameT sT, (a2.same s2).sameT sT⟩
          · rw [List.mem_singleton.mp hq']
            exact ⟨fm.sameT sT, fr.sameT sT⟩
      · rw [lr, List.take_length] at e1
        obtain ⟨p1, d1, x1⟩ := pairs_eq ps fun q h => (hq q h).2
        rw [e1] at p1 d1 x1
        have fit : Fits (ps.map (·.1)) := fits_of hp hd ep ed p1 d1
        have lps : (ps.map (·.1)).length = ts.length := by rw [List.length_map, ← e1, List.length_map]
        have fk : ∀ k ∈ ps.map (·.1), FmD K H' k := fun k hk => by
          obtain ⟨q, h1, rfl⟩ := List.mem_map.mp hk
          exact (hq q h1).1
        intro x dx hx hdx ne
        have s3 : Same H' (upd (upd H' dx (.own x)) x (.ins (ga K "Call") dx [])) := fun b o q => by rw [upd_ne (ne_of_none q hx), upd_ne (ne_of_none q hdx)]; exact q
        rw [lr] at l1 l4
        refine ⟨x, _, dx, D, z, ps.map (·.1), rfl, g, upd_same, T.ins _ (by decide +kernel), s3 _ _ eD, by omega, by omega, fun k hk => (fk k hk).same s3, fit, fun H2 t u2 sb e5 et eu => ⟨rfl, ?_⟩⟩
        obtain ⟨a1, a2⟩ := made (K := K) (C := "Call") (own := []) (ks := ps.map (·.1)) (Same.refl H') hx hdx sb e5 et (.call z _ eu) fk fit
        refine q H2 _ (s'.trans a1) a2 ⟨by rw [ep]; show 1 + sumP _ = _; rw [p1], by rw [ed]; show 1 + maxD _ = _; rw [d1], by rw [eix]; show [] ++ ixs _ = _; rw [x1], by rw [hth]; exact (s'.trans a1) _ _ eT, a2.node, _, _, ps, .call z u2 u ps rfl rfl rfl eu hth (by rw [e1]; exact (s'.trans a1) _ _ e) (by have := congrArg List.length e1; simp [refs] at this; omega), fun p hp => ((hq p hp).2).same a1⟩
    | bin kd hkd a b =>
      obtain ⟨t, u, rfl, rfl, rfl⟩ := refs_two hrf
      have ht := one t List.mem_cons_self
      have hu := one u (List.mem_cons_of_mem _ List.mem_cons_self)
      rcases hkd with hkd | hkd | hkd
      · subst hkd
        refine ⟨_, rfl, T'.a, _, _, .str "plus", rfl, rfl, SqT.of eT, rfl, ?_⟩
        refine ⟨_, rfl, rfl, _, rfl, ite2 (fun h => absurd h (by decide +kernel)) (fun _ => ?_)⟩
        refine ⟨_, rfl, rfl, _, rfl, ite2 (fun h => absurd h (by decide +kernel)) (fun _ => ?_)⟩
        refine ⟨_, rfl, rfl, _, rfl, ite2 (fun h => absurd h (by decide +kernel)) (fun _ => ?_)⟩
        refine ⟨_, rfl, rfl, _, rfl, ite2 (fun h => absurd h (by decide +kernel)) (fun _ => ?_)⟩
        refine ⟨_, rfl, T'.a, _, _, .ref t.a, rfl, rfl, SqT.of eT, rfl, t, rfl, hts t List.mem_cons_self, ht.1, ht.2, fun H1 f s1 fm fr => ?_⟩
        refine ⟨_, rfl, rfl, _, rfl, ite2 (fun h => absurd h (by decide +kernel)) (fun _ => ?_)⟩
        refine ⟨_, rfl, rfl, _, rfl, ite2 (fun h => absurd h (by decide +kernel)) (fun _ => ?_)⟩
        refine ⟨_, rfl, T'.a, _, _, .ref u.a, rfl, rfl, SqT.of (s1 _ _ eT), rfl, u, rfl, (hts u (List.mem_cons_of_mem _ List.mem_cons_self)).same s1, hu.1, hu.2, fun H2 g s2 gm gr => ?_⟩
        have fm := fm.same s2
        have fr := fr.same s2
        obtain ⟨x0, hx0, dx0, fs0, ea0⟩ := FmD.at fm
        obtain ⟨x1, hx1, dx1, fs1, ea1⟩ := FmD.at gm
        obtain ⟨f1, f2, f3⟩ : f.p = t.p ∧ f.d = t.d ∧ f.ix = t.ix := by cases n with | zero => exact fr.elim | succ n => exact ⟨fr.1, fr.2.1, fr.2.2.1⟩
        obtain ⟨g1, g2, g3⟩ : g.p = u.p ∧ g.d = u.d ∧ g.ix = u.ix := by cases n with | zero => exact gr.elim | succ n => exact ⟨gr.1, gr.2.1, gr.2.2.1⟩
        have p1 : sumP [f, g] = sumP [t, u] := by show f.p + (g.p + 0) = t.p + (u.p + 0); rw [f1, g1]
        have d1 : maxD [f, g] = maxD [t, u] := by show max f.d (max g.d 0) = max t.d (max u.d 0); rw [f2, g2]
        have x1' : ixs [f, g] = ixs [t, u] := by show (f.ix ++ (g.ix ++ [])) = (t.ix ++ (u.ix ++ [])); rw [f3, g3]
        have fit : Fits [f, g] := fits_of hp hd ep ed p1 d1
        have fin : ∀ H3 x, Same H2 H3 → FmD K H3 (nd x "Formula" "plus" [.ref f.a, .ref g.a] [] [f, g]) → Q (.ref x) H3 := fun H3 x s3 hx3 =>
          q H3 _ ((s1.trans s2).trans s3) hx3 ⟨by rw [ep]; show 1 + sumP [f, g] = _; rw [p1], by rw [ed]; show 1 + maxD [f, g] = _; rw [d1], by rw [eix]; show [] ++ ixs [f, g] = _; rw [x1'], by rw [hth]; exact ((s1.trans s2).trans s3) _ _ eT, hx3.node, [f, g], [t, u], [(f, t), (g, u)], .bin "plus" f g t u (.inl rfl) rfl rfl rfl hth, fun q hq => by
            rcases List.mem_cons.mp hq with rfl | hq
            · exact fr.same s3
            · rw [List.mem_singleton.mp hq]; exact gr.same s3⟩
        refine ⟨_, rfl, rfl, _, rfl, ite2 (fun _ => ?_) (fun h => absurd (by decide +kernel) h)⟩
        exact ⟨_, rfl, _, rfl, f.a, g.a, _, _, dx0, dx1, fs0, fs1, rfl, rfl, ea0, ea1, T.bin x0 hx0 x1 hx1 "add" (by decide), f, g, rfl, fm, gm, fit, fun H3 x s3 hx3 => ⟨⟨x, rfl⟩, fin H3 x s3 hx3⟩⟩
      · subst hkd
        refine ⟨_, rfl, T'.a, _, _, .str "minus", rfl, rfl, SqT.of eT, rfl, ?_⟩
        refine ⟨_, rfl, rfl, _, rfl, ite2 (fun h => absurd h (by decide +kernel)) (fun _ => ?_)⟩
        refine ⟨_, rfl, rfl, _, rfl, ite2 (fun h => absurd h (by decide +kernel)) (fun _ => ?_)⟩
        refine ⟨_, rfl, rfl, _, rfl, ite2 (fun h => absurd h (by decide +kernel)) (fun _ => ?_)⟩
        refine ⟨_, rfl, rfl, _, rfl, ite2 (fun h => absurd h (by decide +kernel)) (fun _ => ?_)⟩
        refine ⟨_, rfl, T'.a, _, _, .ref t.a, rfl, rfl, SqT.of eT, rfl, t, rfl, hts t List.mem_cons_self, ht.1, ht.2, fun H1 f s1 fm fr => ?_⟩
        refine ⟨_, rfl, rfl, _, rfl, ite2 (fun h => absurd h (by decide +kernel)) (fun _ => ?_)⟩
        refine ⟨_, rfl, rfl, _, rfl, ite2 (fun h => absurd h (by decide +kernel)) (fun _ => ?_)⟩
        refine ⟨_, rfl, T'.a, _, _, .ref u.a, rfl, rfl, SqT.of (s1 _ _ eT), rfl, u, rfl, (hts u (List.mem_cons_of_mem _ List.mem_cons_self)).same s1, hu.1, hu.2, fun H2 g s2 gm gr => ?_⟩
        have fm := fm.same s2
        have fr := fr.same s2
        obtain ⟨x0, hx0, dx0, fs0, ea0⟩ := FmD.at fm
        obtain ⟨x1, hx1, dx1, fs1, ea1⟩ := FmD.at gm
        obtain ⟨f1, f2, f3⟩ : f.p = t.p ∧ f.d = t.d ∧ f.ix = t.ix := by cases n with | zero => exact fr.elim | succ n => exact ⟨fr.1, fr.2.1, fr.2.2.1⟩
        obtain ⟨g1, g2, g3⟩ : g.p = u.p ∧ g.d = u.d ∧ g.ix = u.ix := by cases n with | zero => exact gr.elim | succ n => exact ⟨gr.1, gr.2.1, gr.2.2.1⟩
        have p1 : sumP [f, g] = sumP [t, u] := by show f.p + (g.p + 0) = t.p + (u.p + 0); rw [f1, g1]
        have d1 : maxD [f, g] = maxD [t, u] := by show max f.d (max g.d 0) = max t.d (max u.d 0); rw [f2, g2]
        have x1' : ixs [f, g] = ixs [t, u] := by show (f.ix ++ (g.ix ++ [])) = (t.ix ++ (u.ix ++ [])); rw [f3, g3]
        have fit : Fits [f, g] := fits_of hp hd ep ed p1 d1
        have fin : ∀ H3 x, Same H2 H3 → FmD K H3 (nd x "Formula" "minus" [.ref f.a, .ref g.a] [] [f, g]) → Q (.ref x) H3 := fun H3 x s3 hx3 =>
          q H3 _ ((s1.trans s2).trans s3) hx3 ⟨by rw [ep]; show 1 + sumP [f, g] = _; rw [p1], by rw [ed]; show 1 + maxD [f, g] = _; rw [d1], by rw [eix]; show [] ++ ixs [f, g] = _; rw [x1'], by rw [hth]; exact ((s1.trans s2).trans s3) _ _ eT, hx3.node, [f, g], [t, u], [(f, t), (g, u)], .bin "minus" f g t u (.inr (.inl rfl)) rfl rfl rfl hth, fun q hq => by
            rcases List.mem_cons.mp hq with rfl | hq
            · exact fr.same s3
            · rw [List.mem_singleton.mp hq]; exact gr.same s3⟩
        refine ⟨_, rfl, rfl, _, rfl, ite2 (fun h => absurd h (by decide +kernel)) (fun _ => ?_)⟩
        refine ⟨_, rfl, rfl, _, rfl, ite2 (fun _ => ?_) (fun h => absurd (by decide +kernel) h)⟩
        exact ⟨_, rfl, _, rfl, f.a, g.a, _, _, dx0, dx1, fs0, fs1, rfl, rfl, ea0, ea1, T.bin x0 hx0 x1 hx1 "sub" (by decide), f, g, rfl, fm, gm, fit, fun H3 x s3 hx3 => ⟨⟨x, rfl⟩, fin H3 x s3 hx3⟩⟩
      · subst hkd
        refine ⟨_, rfl, T'.a, _, _, .str "times", rfl, rfl, SqT.of eT, rfl, ?_⟩
        refine ⟨_, rfl, rfl, _, rfl, ite2 (fun h => absurd h (by decide +kernel)) (fun _ => ?_)⟩
        refine ⟨_, rfl, rfl, _, rfl, ite2 (fun h => absurd h (by decide +kernel)) (fun _ => ?_)⟩
        refine ⟨_, rfl, rfl, _, rfl, ite2 (fun h => absurd h (by decide +kernel)) (fun _ => ?_)⟩
        refine ⟨_, rfl, rfl, _, rfl, ite2 (fun h => absurd h (by decide +kernel)) (fun _ => ?_)⟩
        refine ⟨_, rfl, T'.a, _, _, .ref t.a, rfl, rfl, SqT.of eT, rfl, t, rfl, hts t List.mem_cons_self, ht.1, ht.2, fun H1 f s1 fm fr => ?_⟩
        refine ⟨_, rfl, rfl, _, rfl, ite2 (fun h => absurd h (by decide +kernel)) (fun _ => ?_)⟩
        refine ⟨_, rfl, rfl, _, rfl, ite2 (fun h => absurd h (by decide +kernel)) (fun _ => ?_)⟩
        refine ⟨_, rfl, T'.a, _, _, .ref u.a, rfl, rfl, SqT.of (s1 _ _ eT), rfl, u, rfl, (hts u (List.mem_cons_of_mem _ List.mem_cons_self)).same s1, hu.1, hu.2, fun H2 g s2 gm gr => ?_⟩
        have fm := fm.same s2
        have fr := fr.same s2
        obtain ⟨x0, hx0, dx0, fs0, ea0⟩ := FmD.at fm
        obtain ⟨x1, hx1, dx1, fs1, ea1⟩ := FmD.at gm
        obtain ⟨f1, f2, f3⟩ : f.p = t.p ∧ f.d = t.d ∧ f.ix = t.ix := by cases n with | zero => exact fr.elim | succ n => exact ⟨fr.1, fr.2.1, fr.2.2.1⟩
        obtain ⟨g1, g2, g3⟩ : g.p = u.p ∧ g.d = u.d ∧ g.ix = u.ix := by cases n with | zero => exact gr.elim | succ n => exact ⟨gr.1, gr.2.1, gr.2.2.1⟩
        have p1 : sumP [f, g] = sumP [t, u] := by show f.p + (g.p + 0) = t.p + (u.p + 0); rw [f1, g1]
        have d1 : maxD [f, g] = maxD [t, u] := by show max f.d (max g.d 0) = max t.d (max u.d 0); rw [f2, g2]
        have x1' : ixs [f, g] = ixs [t, u] := by show (f.ix ++ (g.ix ++ [])) = (t.ix ++ (u.ix ++ [])); rw [f3, g3]
        have fit : Fits [f, g] := fits_of hp hd ep ed p1 d1
        have fin : ∀ H3 x, Same H2 H3 → FmD K H3 (nd x "Formula" "times" [.ref f.a, .ref g.a] [] [f, g]) → Q (.ref x) H3 := fun H3 x s3 hx3 =>
          q H3 _ ((s1.trans s2).trans s3) hx3 ⟨by rw [ep]; show 1 + sumP [f, g] = _; rw [p1], by rw [ed]; show 1 + maxD [f, g] = _; rw [d1], by rw [eix]; show [] ++ ixs [f, g] = _; rw [x1'], by rw [hth]; exact ((s1.trans s2).trans s3) _ _ eT, hx3.node, [f, g], [t, u], [(f, t), (g, u)], .bin "times" f g t u (.inr (.inr rfl)) rfl rfl rfl hth, fun q hq => by
            rcases List.mem_cons.mp hq with rfl | hq
            · exact fr.same s3
            · rw [List.mem_singleton.mp hq]; exact gr.same s3⟩
        refine ⟨_, rfl, rfl, _, rfl, ite2 (fun h => absurd h (by decide +kernel)) (fun _ => ?_)⟩
        refine ⟨_, rfl, rfl, _, rfl, ite2 (fun h => absurd h (by decide +kernel)) (fun _ => ?_)⟩
        exact ⟨_, rfl, _, rfl, f.a, g.a, _, _, dx0, dx1, fs0, fs1, rfl, rfl, ea0, ea1, T.bin x0 hx0 x1 hx1 "mul" (by decide), f, g, rfl, fm, gm, fit, fun H3 x s3 hx3 => ⟨⟨x, rfl⟩, fin H3 x s3 hx3⟩⟩
end
end K1
set_option Elab.async false
set_option linter.all false
set_option maxRecDepth 100000
set_option maxHeartbeats 4000000
namespace K1
open PySem PySem.Spec PyProof.Rows L2 He Sw L2H
section
variable {P : Program} {w : World} {K : PySem.W.Frag} {mg : Str → Option Value} {base : Heap}
/-! ### _law_same -/
def spSame (K : PySem.W.Frag) (n : Nat) : Sp := fun vs H Q _ => ∃ (k T : Kd), vs = [.ref k.a, .ref T.a] ∧ FR K n H k T ∧ Q (.bl true) H
theorem scSame : FnScope ["_law_formula", "_law_tree_here", "_law_things", "_law_k"] ["_law_formula", "_law_tree_here"] (defScope sSame) := ⟨rfl, rfl, rfl, by decide +kernel, rfl, by decide +kernel, by decide +kernel⟩
theorem kitC (T : Txt K mg) {C : Str} (h : C ∈ clsL) : PySem.W.kitOne K (.ref (ga K C)) (.ref (ga K C)) = some true := by
  have e := T.kit C h C h
  rw [e, decide_eq_true rfl, Bool.true_or]
theorem ok_same {fd fdI : FuncData} (T : Txt K mg) (F : FnG K "_law_same" sSame fd) (FI : FnG K "_law_is_integer" sLInt fdI) : ∀ n, FnOk P w K mg base CX0 (n + 3) (ga K "_law_same") fd ["_law_formula", "_law_tree_here"] (spSame K n)
  | 0 => ⟨fun vs H Q E h => by
      obtain ⟨k, T', rfl, _⟩ := h
      rfl, fun A outer s H args us vs Q E _ _ _ _ h => by
      obtain ⟨k, T', _, h, _⟩ := h
      exact h.elim⟩
  | n + 1 => by
    have GX : FnOk P w K mg base CX0 (n + 3) (ga K "_law_same") fd ["_law_formula", "_law_tree_here"] (spSame K n) := ok_same T F FI n
    have GI : FnOk P w K mg base CX0 1 (ga K "_law_is_integer") fdI ["_law_thing"] spIsInt := ok_lInt T FI
    have bX : Binds K fd ["_law_formula", "_law_tree_here"] [] := F.bindsN fun _ _ _ _ _ _ us hl => match us, hl with | [_, _], _ => rfl
    have bI : Binds K fdI ["_law_thing"] [] := FI.bindsN fun _ _ _ _ _ _ us hl => match us, hl with | [_], _ => rfl
    refine F.ok scSame (fun vs H Q E h => ?_) (fun cdv A outer s H vs Q E hr h => ?_)
    · obtain ⟨k, T', rfl, _⟩ := h
      rfl
    obtain ⟨k, T', rfl, ⟨e1, e2, e3, eT, ⟨ks, hn⟩, fs, ts, xs, mt, r⟩, q⟩ := h
    have nod := scSame.nd
    have hr1 : Room 1 _ := hr.mono (by omega)
    obtain ⟨dx, t, own, ea, et, hsh, _⟩ := hn
    have I := T.ins _ hsh.cls
    have nk := I.no "kind" (by decide +kernel)
    have nt := I.no "things" (by decide +kernel)
    refine ⟨_, PSs.nox (pss_cons (ps_if (PW.pt (pw_or (pt_not (pt_val (pe_callB call_isi rfl (T.f "isinstance") (by decide +kernel) (pa_cons (pv 0) (pa_cons (pe_glob (v := .ref (ga K "Formula")) rfl (T.g "Formula") rfl) pa_nil)))))
        (pw_or (pt_not (pt_val (pe_callB call_isi rfl (T.f "isinstance") (by decide +kernel) (pa_cons (pe_fld (pv 0) rfl) (pa_cons (pe_bltn (v := .ty "str") rfl (T.f "str") (by decide +kernel) rfl) pa_nil)))))
          (pw_or1 (pt_cmpR op_ne (pe_fld (pv 0) rfl) (pe_ix ix_tup (pv 1) pe_int (fun _ _ => rfl)) (nomark _)))))) (pss_one (ps_ret pe_bl)) pss_nil)
      (pss_cons (ps_set (i := 2) nod rfl (Or.inl rfl) (pe_fld (pv 0) rfl))
      (pss_cons (ps_if (PW.pt (pw_or (pt_not (pt_val (pe_callB call_isi rfl (T.f "isinstance") (by decide +kernel) (pa_cons (pv 2) (pa_cons (pe_bltn (v := .ty "tuple") rfl (T.f "tuple") (by decide +kernel) rfl) pa_nil)))))
        (pw_or1 (pt_cmpR op_ne (pe_callB call_len_seq rfl (T.f "len") (by decide +kernel) (pa_cons (pv 2) pa_nil)) (pe_op op_sub (pe_callB call_len_seq rfl (T.f "len") (by decide +kernel) (pa_cons (pv 1) pa_nil)) pe_int) (nomark _))))) (pss_one (ps_ret pe_bl)) pss_nil)
      (pss_cons (ps_if (pt_cmpR op_eq (pe_ix ix_tup (pv 1) pe_int (fun _ _ => rfl)) pe_str (nomark _)) (pss_one (ps_ret (pe_and (pe_callB call_isi rfl (T.f "isinstance") (by decide +kernel) (pa_cons (pv 0) (pa_cons (pe_glob (v := .ref (ga K "Number")) rfl (T.g "Number") rfl) pa_nil)))
          (pe_and (pe_call GI hr1 rfl (T.g "_law_is_integer") FI.kp bI .nil pass0 (pa_cons (pe_ix ix_tup (pv 2) pe_int (fun _ _ => rfl)) pa_nil)) (pe_one (pe_cmpR op_eq (pe_ix ix_tup (pv 2) pe_int (fun _ _ => rfl)) (pe_ix ix_tup (pv 1) pe_int (fun _ _ => rfl)) (nomark _))))))) pss_nil)
      (pss_cons (ps_if (pt_cmpR op_eq (pe_ix ix_tup (pv 1) pe_int (fun _ _ => rfl)) pe_str (nomark _)) (pss_one (ps_ret (pe_and (pe_callB call_isi rfl (T.f "isinstance") (by decide +kernel) (pa_cons (pv 0) (pa_cons (pe_glob (v := .ref (ga K "Name")) rfl (T.g "Name") rfl) pa_nil)))
          (pe_and (pe_callB call_isi rfl (T.f "isinstance") (by decide +kernel) (pa_cons (pe_ix ix_tup (pv 2) pe_int (fun _ _ => rfl)) (pa_cons (pe_bltn (v := .ty "str") rfl (T.f "str") (by decide +kernel) rfl) pa_nil))) (pe_one (pe_cmpR op_eq (pe_ix ix_tup (pv 2) pe_int (fun _ _ => rfl)) (pe_ix ix_tup (pv 1) pe_int (fun _ _ => rfl)) (nomark _))))))) pss_nil)
      (pss_cons (ps_if (pt_cmpR op_eq (pe_ix ix_tup (pv 1) pe_int (fun _ _ => rfl)) pe_str (nomark _))
        (pss_cons (ps_if (PW.pt (pw_or (pt_not (pt_val (pe_callB call_isi rfl (T.f "isinstance") (by decide +kernel) (pa_cons (pv 0) (pa_cons (pe_glob (v := .ref (ga K "Sum")) rfl (T.g "Sum") rfl) pa_nil)))))
          (pw_or (pt_not (pt_val (pe_callB call_isi rfl (T.f "isinstance") (by decide +kernel) (pa_cons (pe_ix ix_tup (pv 2) pe_int (fun _ _ => rfl)) (pa_cons (pe_bltn (v := .ty "str") rfl (T.f "str") (by decide +kernel) rfl) pa_nil)))))
            (pw_or1 (pt_cmpR op_ne (pe_ix ix_tup (pv 2) pe_int (fun _ _ => rfl)) (pe_ix ix_tup (pv 1) pe_int (fun _ _ => rfl)) (nomark _)))))) (pss_one (ps_ret pe_bl)) pss_nil)
        (pss_one (ps_ret (pe_and (pe_call GX hr rfl (T.g "_law_same") F.kp bX .nil pass0 (pa_cons (pe_ix ix_tup (pv 2) pe_int (fun _ _ => rfl)) (pa_cons (pe_ix ix_tup (pv 1) pe_int (fun _ _ => rfl)) pa_nil))) (pe_one (pe_call GX hr rfl (T.g "_law_same") F.kp bX .nil pass0 (pa_cons (pe_ix ix_tup (pv 2) pe_int (fun _ _ => rfl)) (pa_cons (pe_ix ix_tup (pv 1) pe_int (fun _ _ => rfl)) pa_nil)))))))) pss_nil)
      (pss_cons (ps_if (pt_cmpR op_eq (pe_ix ix_tup (pv 1) pe_int (fun _ _ => rfl)) pe_str (nomark _))
        (pss_cons (ps_if (PW.pt (pw_or (pt_not (pt_val (pe_callB call_isi rfl (T.f "isinstance") (by decide +kernel) (pa_cons (pv 0) (pa_cons (pe_glob (v := .ref (ga K "Call")) rfl (T.g "Call") rfl) pa_nil)))))
          (pw_or (pt_not (pt_val (pe_callB call_isi rfl (T.f "isinstance") (by decide +kernel) (pa_cons (pe_ix ix_tup (pv 2) pe_int (fun _ _ => rfl)) (pa_cons (pe_bltn (v := .ty "str") rfl (T.f "str") (by decide +kernel) rfl) pa_nil)))))
            (pw_or1 (pt_cmpR op_ne (pe_ix ix_tup (pv 2) pe_int (fun _ _ => rfl)) (pe_ix ix_tup (pv 1) pe_int (fun _ _ => rfl)) (nomark _)))))) (pss_one (ps_ret pe_bl)) pss_nil)
        (pss_cons (ps_if (PW.pt (pw_or (pt_not (pt_val (pe_callB call_isi rfl (T.f "isinstance") (by decide +kernel) (pa_cons (pe_ix ix_tup (pv 2) pe_int (fun _ _ => rfl)) (pa_cons (pe_bltn (v := .ty "tuple") rfl (T.f "tuple") (by decide +kernel) rfl) pa_nil)))))
          (pw_or1 (pt_cmpR op_ne (pe_callB call_len_seq rfl (T.f "len") (by decide +kernel) (pa_cons (pe_ix ix_tup (pv 2) pe_int (fun _ _ => rfl)) pa_nil)) (pe_callB call_len_seq rfl (T.f "len") (by decide +kernel) (pa_cons (pe_ix ix_tup (pv 1) pe_int (fun _ _ => rfl)) pa_nil)) (nomark _))))) (pss_one (ps_ret pe_bl)) pss_nil)
        (pss_cons (ps_for PassesOwn.never rfl (pi_range1 rfl (T.f "range") (pa_cons (pe_callB call_len_seq rfl (T.f "len") (by decide +kernel) (pa_cons (pe_ix ix_tup (pv 1) pe_int (fun _ _ => rfl)) pa_nil)) pa_nil)) (pg_name (i := 3) nod rfl (Or.inl rfl))
          (pss_one (ps_if (pt_not (pt_val (pe_call GX hr rfl (T.g "_law_same") F.kp bX .nil pass0 (pa_cons (pe_ix ix_tup (pe_ix ix_tup (pv 2) pe_int (fun _ _ => rfl)) (pv 3) (fun _ _ => rfl)) (pa_cons (pe_ix ix_tup (pe_ix ix_tup (pv 1) pe_int (fun _ _ => rfl)) (pv 3) (fun _ _ => rfl)) pa_nil))))) (pss_one (ps_ret pe_bl)) pss_nil)))
        (pss_one (ps_ret pe_bl))))) pss_nil)
      (pss_cons (ps_if (pt_not (pt_val (pe_call GX hr rfl (T.g "_law_same") F.kp bX .nil pass0 (pa_cons (pe_ix ix_tup (pv 2) pe_int (fun _ _ => rfl)) (pa_cons (pe_ix ix_tup (pv 1) pe_int (fun _ _ => rfl)) pa_nil))))) (pss_one (ps_ret pe_bl)) pss_nil)
      (pss_cons (ps_if (pt_cmpR op_eq (pe_ix ix_tup (pv 1) pe_int (fun _ _ => rfl)) pe_str (nomark _)) (pss_one (ps_ret (pe_and (pe_call GI hr1 rfl (T.g "_law_is_integer") FI.kp bI .nil pass0 (pa_cons (pe_ix ix_tup (pv 2) pe_int (fun _ _ => rfl)) pa_nil)) (pe_one (pe_cmpR op_eq (pe_ix ix_tup (pv 2) pe_int (fun _ _ => rfl)) (pe_ix ix_tup (pv 1) pe_int (fun _ _ => rfl)) (nomark _)))))) pss_nil)
      (pss_one (ps_ret (pe_or (pe_cmpR op_eq (pe_ix ix_tup (pv 1) pe_int (fun _ _ => rfl)) pe_str (nomark _)) (pe_one (pe_call GX hr rfl (T.g "_law_same") F.kp bX .nil pass0 (pa_cons (pe_ix ix_tup (pv 2) pe_int (fun _ _ => rfl)) (pa_cons (pe_ix ix_tup (pv 1) pe_int (fun _ _ => rfl)) pa_nil)))))))))))))))), ?_⟩
    have kf : PySem.W.kitOne K (.type "tuple") (.type "tuple") = some true := rfl
    have ks' : PySem.W.kitOne K (.type "str") (.type "str") = some true := rfl
    refine ⟨_, rfl, .ref k.a, _, _, _, true, rfl, .own _, .base (.ins ea I.cl I.ha I.hn I.ht I.hm), kitF T hsh.cls, _, rfl, ?_⟩
    refine ite2 (fun h => Bool.noConfusion (show false = true from h)) (fun _ => ?_)
    refine ⟨_, rfl, k.a, _, dx, _, .str k.kd, rfl, ea, I.cl, nk, rfl, .str k.kd, .ty "str", .type "str", .type "str", true, rfl, .ty _, .base (.str _), ks', _, rfl, ?_⟩
    refine ite2 (fun h => Bool.noConfusion (show false = true from h)) (fun _ => ?_)
    refine ⟨_, rfl, k.a, _, dx, _, .str k.kd, rfl, ea, I.cl, nk, rfl, _, rfl, T'.a, _, _, .str k.kd, rfl, rfl, SqT.of eT, ?_, rfl, _, rfl, ?_⟩
    · cases mt with
      | num i h1 h2 h3 h4 => rw [h4, h2]; rfl
      | nam z h1 h2 h3 h4 => rw [h4, h2]; rfl
      | neg f t h1 h2 h3 h4 => rw [h4, h2]; rfl
      | shift f t n h1 h2 h3 h4 => rw [h4, h2]; rfl
      | sum i b Tb f t h1 h2 h3 h4 => rw [h4, h2]; rfl
      | call z u v _ h1 h2 h3 e1 h4 e2 l4 => rw [h4, h2]; rfl
      | bin kd f1 f2 t1 t2 hk h1 h2 h3 h4 => rw [h4, h2]; rfl
    rw [decide_eq_true rfl]
    refine ite2 (fun h => Bool.noConfusion (show false = true from h)) (fun _ => ?_)
    refine ⟨_, rfl, k.a, _, dx, _, .ref t, rfl, ea, I.cl, nt, rfl, ?_⟩
    refine ⟨_, rfl, .ref t, .ty "tuple", .type "tuple", .type "tuple", true, rfl, .ty _, .base (.tup et), kf, _, rfl, ?_⟩
    refine ite2 (fun h => Bool.noConfusion (show false = true from h)) (fun _ => ?_)
    have ln : ((k.th.length : Nat) : Int) = ((T'.th.length : Nat) : Int) - 1 := by
      cases mt with
      | num i h1 h2 h3 h4 => rw [h4, h3]; rfl
      | nam z h1 h2 h3 h4 => rw [h4, h3]; rfl
      | neg f t h1 h2 h3 h4 => rw [h4, h3]; rfl
      | shift f t n h1 h2 h3 h4 => rw [h4, h3]; rfl
      | sum i b Tb f t h1 h2 h3 h4 => rw [h4, h3]; rfl
      | call z u v _ h1 h2 h3 e1 h4 e2 l4 => rw [h4, h3]; rfl
      | bin kd f1 f2 t1 t2 hk h1 h2 h3 h4 => rw [h4, h3]; rfl
    refine ⟨_, rfl, t, _, rfl, .inr (SqT.of et), _, rfl, T'.a, _, rfl, .inr (SqT.of eT), _, _, rfl, rfl, rfl, _, rfl, ?_⟩
    have dl : (!decide (V.int ((k.th.length : Nat) : Int) = V.int (((T'.th.length : Nat) : Int) - 1))) = false := by rw [← ln, decide_eq_true rfl]; rfl
    refine ite2 (fun h => Bool.noConfusion (dl.symm.trans h)) (fun _ => ?_)
    have isC : ∀ {C : Str}, k.C = C → C ∈ clsL → PySem.W.kitOne K (.ref (ga K k.C)) (.ref (ga K C)) = some true := fun e m => by
      subst e
      exact kitC T m
    cases mt with
    | num i h1 h2 h3 h4 =>
      rw [h3] at et
      rw [h4] at eT
      refine ⟨_, rfl, T'.a, _, _, .str "number", rfl, rfl, SqT.of eT, rfl, rfl, _, rfl, ite2 (fun _ => ?_) (fun h => absurd (by decide +kernel) h)⟩
      refine ⟨_, rfl, .ref k.a, _, _, _, true, rfl, .own _, .base (.ins ea I.cl I.ha I.hn I.ht I.hm), isC h1 (by decide +kernel), _, rfl, ?_⟩
      refine ⟨_, rfl, t, _, _, .int i, rfl, rfl, SqT.of et, rfl, .int i, _, rfl, .int _, _, rfl, ?_⟩
      refine ⟨_, rfl, t, _, _, .int i, rfl, rfl, SqT.of et, rfl, _, rfl, T'.a, _, _, .int i, rfl, rfl, SqT.of eT, rfl, rfl, ?_⟩
      rw [decide_eq_true rfl]
      exact q
    | nam z h1 h2 h3 h4 =>
      rw [h3] at et
      rw [h4] at eT
      refine ⟨_, rfl, T'.a, _, _, .str "name", rfl, rfl, SqT.of eT, rfl, rfl, _, rfl, ite2 (fun h => absurd h (by decide +kernel)) (fun _ => ?_)⟩
      refine ⟨_, rfl, T'.a, _, _, .str "name", rfl, rfl, SqT.of eT, rfl, rfl, _, rfl, ite2 (fun _ => ?_) (fun h => absurd (by decide +kernel) h)⟩
      refine ⟨_, rfl, .ref k.a, _, _, _, true, rfl, .own _, .base (.ins ea I.cl I.ha I.hn I.ht I.hm), isC h1 (by decide +kernel), _, rfl, ?_⟩
      refine ⟨_, rfl, t, _, _, .str z, rfl, rfl, SqT.of et, rfl, .str z, .ty "str", .type "str", .type "str", true, rfl, .ty _, .base (.str _), ks', _, rfl, ?_⟩
      refine ⟨_, rfl, t, _, _, .str z, rfl, rfl, SqT.of et, rfl, _, rfl, T'.a, _, _, .str z, rfl, rfl, SqT.of eT, rfl, rfl, ?_⟩
      rw [decide_eq_true rfl]
      exact q
    | neg f t' h1 h2 h3 h4 =>
      rw [h3] at et
      rw [h4] at eT
      refine ⟨_, rfl, T'.a, _, _, .str "negative", rfl, rfl, SqT.of eT, rfl, rfl, _, rfl, ite2 (fun h => absurd h (by decide +kernel)) (fun _ => ?_)⟩
      refine ⟨_, rfl, T'.a, _, _, .str "negative", rfl, rfl, SqT.of eT, rfl, rfl, _, rfl, ite2 (fun h => absurd h (by decide +kernel)) (fun _ => ?_)⟩
      refine ⟨_, rfl, T'.a, _, _, .str "negative", rfl, rfl, SqT.of eT, rfl, rfl, _, rfl, ite2 (fun h => absurd h (by decide +kernel)) (fun _ => ?_)⟩
      refine ⟨_, rfl, T'.a, _, _, .str "negative", rfl, rfl, SqT.of eT, rfl, rfl, _, rfl, ite2 (fun h => absurd h (by decide +kernel)) (fun _ => ?_)⟩
      refine ⟨_, rfl, t, _, _, .ref f.a, rfl, rfl, SqT.of et, rfl, _, rfl, T'.a, _, _, .ref t'.a, rfl, rfl, SqT.of eT, rfl, f, t', rfl, r _ List.mem_cons_self, _, rfl, ?_⟩
      refine ite2 (fun h => Bool.noConfusion (show false = true from h)) (fun _ => ?_)
      refine ⟨_, rfl, T'.a, _, _, .str "negative", rfl, rfl, SqT.of eT, rfl, rfl, _, rfl, ite2 (fun h => absurd h (by decide +kernel)) (fun _ => ?_)⟩
      refine ⟨_, rfl, T'.a, _, _, .str "negative", rfl, rfl, SqT.of eT, rfl, rfl, ?_⟩
      rw [decide_eq_true rfl]
      exact ⟨_, rfl, q⟩
    | shift f t' n h1 h2 h3 h4 =>
      rw [h3] at et
      rw [h4] at eT
      refine ⟨_, rfl, T'.a, _, _, .str "shift", rfl, rfl, SqT.of eT, rfl, rfl, _, rfl, ite2 (fun h => absurd h (by decide +kernel)) (fun _ => ?_)⟩
      refine ⟨_, rfl, T'.a, _, _, .str "shift", rfl, rfl, SqT.of eT, rfl, rfl, _, rfl, ite2 (fun h => absurd h (by decide +kernel)) (fun _ => ?_)⟩
      refine ⟨_, rfl, T'.a, _, _, .str "shift", rfl, rfl, SqT.of eT, rfl, rfl, _, rfl, ite2 (fun h => absurd h (by decide +kernel)) (fun _ => ?_)⟩
      refine ⟨_, rfl, T'.a, _, _, .str "shift", rfl, rfl, SqT.of eT, rfl, rfl, _, rfl, ite2 (fun h => absurd h (by decide +kernel)) (fun _ => ?_)⟩
      refine ⟨_, rfl, t, _, _, .ref f.a, rfl, rfl, SqT.of et, rfl, _, rfl, T'.a, _, _, .ref t'.a, rfl, rfl, SqT.of eT, rfl, f, t', rfl, r _ List.mem_cons_self, _, rfl, ?_⟩
      refine ite2 (fun h => Bool.noConfusion (show false = true from h)) (fun _ => ?_)
      refine ⟨_, rfl, T'.a, _, _, .str "shift", rfl, rfl, SqT.of eT, rfl, rfl, _, rfl, ite2 (fun _ => ?_) (fun h => absurd (by decide +kernel) h)⟩
      refine ⟨_, rfl, t, _, _, .int n, rfl, rfl, SqT.of et, rfl, .int n, _, rfl, .int _, _, rfl, ?_⟩
      refine ⟨_, rfl, t, _, _, .int n, rfl, rfl, SqT.of et, rfl, _, rfl, T'.a, _, _, .int n, rfl, rfl, SqT.of eT, rfl, rfl, ?_⟩
      rw [decide_eq_true rfl]
      exact q
    | sum i b Tb f t' h1 h2 h3 h4 =>
      rw [h3] at et
      rw [h4] at eT
      refine ⟨_, rfl, T'.a, _, _, .str "sum", rfl, rfl, SqT.of eT, rfl, rfl, _, rfl, ite2 (fun h => absurd h (by decide +kernel)) (fun _ => ?_)⟩
      refine ⟨_, rfl, T'.a, _, _, .str "sum", rfl, rfl, SqT.of eT, rfl, rfl, _, rfl, ite2 (fun h => absurd h (by decide +kernel)) (fun _ => ?_)⟩
      refine ⟨_, rfl, T'.a, _, _, .str "sum", rfl, rfl, SqT.of eT, rfl, rfl, _, rfl, ite2 (fun _ => ?_) (fun h => absurd (by decide +kernel) h)⟩
      refine ⟨_, rfl, .ref k.a, _, _, _, true, rfl, .own _, .base (.ins ea I.cl I.ha I.hn I.ht I.hm), isC h1 (by decide +kernel), _, rfl, ?_⟩
      refine ite2 (fun h => Bool.noConfusion (show false = true from h)) (fun _ => ?_)
      refine ⟨_, rfl, t, _, _, .str i, rfl, rfl, SqT.of et, rfl, .str i, .ty "str", .type "str", .type "str", true, rfl, .ty _, .base (.str _), ks', _, rfl, ?_⟩
      refine ite2 (fun h => Bool.noConfusion (show false = true from h)) (fun _ => ?_)
      refine ⟨_, rfl, t, _, _, .str i, rfl, rfl, SqT.of et, rfl, _, rfl, T'.a, _, _, .str i, rfl, rfl, SqT.of eT, rfl, rfl, _, rfl, ?_⟩
      rw [decide_eq_true rfl]
      refine ite2 (fun h => Bool.noConfusion (show false = true from h)) (fun _ => ?_)
      refine ⟨_, rfl, t, _, _, .ref b.a, rfl, rfl, SqT.of et, rfl, _, rfl, T'.a, _, _, .ref Tb.a, rfl, rfl, SqT.of eT, rfl, b, Tb, rfl, r _ List.mem_cons_self, _, rfl, ?_⟩
      exact ⟨_, rfl, t, _, _, .ref f.a, rfl, rfl, SqT.of et, rfl, _, rfl, T'.a, _, _, .ref t'.a, rfl, rfl, SqT.of eT, rfl, f, t', rfl, r _ (List.mem_cons_of_mem _ List.mem_cons_self), q⟩
    | call z u v _ h1 h2 h3 e1 h4 e2 l4 =>
      rw [h3] at et
      rw [h4] at eT
      refine ⟨_, rfl, T'.a, _, _, .str "call", rfl, rfl, SqT.of eT, rfl, rfl, _, rfl, ite2 (fun h => absurd h (by decide +kernel)) (fun _ => ?_)⟩
      refine ⟨_, rfl, T'.a, _, _, .str "call", rfl, rfl, SqT.of eT, rfl, rfl, _, rfl, ite2 (fun h => absurd h (by decide +kernel)) (fun _ => ?_)⟩
      refine ⟨_, rfl, T'.a, _, _, .str "call", rfl, rfl, SqT.of eT, rfl, rfl, _, rfl, ite2 (fun h => absurd h (by decide +kernel)) (fun _ => ?_)⟩
      refine ⟨_, rfl, T'.a, _, _, .str "call", rfl, rfl, SqT.of eT, rfl, rfl, _, rfl, ite2 (fun _ => ?_) (fun h => absurd (by decide +kernel) h)⟩
      refine ⟨_, rfl, .ref k.a, _, _, _, true, rfl, .own _, .base (.ins ea I.cl I.ha I.hn I.ht I.hm), isC h1 (by decide +kernel), _, rfl, ?_⟩
      refine ite2 (fun h => Bool.noConfusion (show false = true from h)) (fun _ => ?_)
      refine ⟨_, rfl, t, _, _, .str z, rfl, rfl, SqT.of et, rfl, .str z, .ty "str", .type "str", .type "str", true, rfl, .ty _, .base (.str _), ks', _, rfl, ?_⟩
      refine ite2 (fun h => Bool.noConfusion (show false = true from h)) (fun _ => ?_)
      refine ⟨_, rfl, t, _, _, .str z, rfl, rfl, SqT.of et, rfl, _, rfl, T'.a, _, _, .str z, rfl, rfl, SqT.of eT, rfl, rfl, _, rfl, ?_⟩
      rw [decide_eq_true rfl]
      refine ite2 (fun h => Bool.noConfusion (show false = true from h)) (fun _ => ?_)
      refine ⟨_, rfl, t, _, _, .ref u, rfl, rfl, SqT.of et, rfl, .ref u, .ty "tuple", .type "tuple", .type "tuple", true, rfl, .ty _, .base (.tup e1), kf, _, rfl, ?_⟩
      refine ite2 (fun h => Bool.noConfusion (show false = true from h)) (fun _ => ?_)
      have le : (refs (xs.map (·.1))).length = (refs (xs.map (·.2))).length := by simp [refs]
      have dl' : (!decide (V.int (((refs (xs.map (·.1))).length : Nat) : Int) = V.int (((refs (xs.map (·.2))).length : Nat) : Int))) = false := by rw [le, decide_eq_true rfl]; rfl
      refine ⟨_, rfl, t, _, _, .ref u, rfl, rfl, SqT.of et, rfl, u, _, rfl, .inr (SqT.of e1), _, rfl, T'.a, _, _, .ref v, rfl, rfl, SqT.of eT, rfl, v, _, rfl, .inr (SqT.of e2), rfl, _, rfl, ?_⟩
      refine ite2 (fun h => Bool.noConfusion (dl'.symm.trans h)) (fun _ => ?_)
      refine ⟨_, rfl, T'.a, _, _, .ref v, rfl, rfl, SqT.of eT, rfl, v, _, rfl, .inr (SqT.of e2), ?_⟩
      have l4' : (refs (xs.map (·.2))).length = xs.length := by simp [refs]
      refine ⟨_, rfl, by omega, by omega, for_range (lo := 0) (fun _ σ H' => (∃ kv, σ = [some (.ref k.a), some (.ref T'.a), some (.ref t), kv]) ∧ H' = H) ⟨⟨none, rfl⟩, rfl⟩ ?_ ?_⟩
      · rintro i σ H' hi ⟨⟨kv, rfl⟩, rfl⟩
        have hi' : i < xs.length := by omega
        have a1 : (refs (xs.map (·.1)))[i]? = some (.ref (xs[i]'hi').1.a) := by simp [refs, hi']
        have a2 : (refs (xs.map (·.2)))[i]? = some (.ref (xs[i]'hi').2.a) := by simp [refs, hi']
        have z0 : (0 : Int) + (i : Int) = (i : Int) := by omega
        refine ⟨_, rfl, t, _, _, .ref u, rfl, rfl, SqT.of et, rfl, _, rfl, u, _, _, _, rfl, rfl, SqT.of e1, (by rw [z0]; exact atI_nat a1), ?_⟩
        refine ⟨_, rfl, T'.a, _, _, .ref v, rfl, rfl, SqT.of eT, rfl, _, rfl, v, _, _, _, rfl, rfl, SqT.of e2, (by rw [z0]; exact atI_nat a2), ?_⟩
        refine ⟨_, _, rfl, r _ (List.getElem_mem hi'), _, rfl, ?_⟩
        exact ite2 (fun h => Bool.noConfusion (show false = true from h)) (fun _ => ⟨⟨_, rfl⟩, rfl⟩)
      · rintro σ H' ⟨⟨kv, rfl⟩, rfl⟩
        exact q
    | bin kd f1 f2 t1 t2 hk h1 h2 h3 h4 =>
      rw [h3] at et
      rw [h4] at eT
      have no : ∀ z : Str, (∀ x ∈ (["plus", "minus", "times"] : List Str), x ≠ z) → ¬ decide (V.str kd = V.str z) = true := fun z hz e => by
        have e := of_decide_eq_true e
        injection e with e
        refine hz kd ?_ e
        rcases hk with rfl | rfl | rfl <;> decide +kernel
      refine ⟨_, rfl, T'.a, _, _, .str kd, rfl, rfl, SqT.of eT, rfl, rfl, _, rfl, ite2 (fun h => absurd h (no _ (by decide +kernel))) (fun _ => ?_)⟩
      refine ⟨_, rfl, T'.a, _, _, .str kd, rfl, rfl, SqT.of eT, rfl, rfl, _, rfl, ite2 (fun h => absurd h (no _ (by decide +kernel))) (fun _ => ?_)⟩
      refine ⟨_, rfl, T'.a, _, _, .str kd, rfl, rfl, SqT.of eT, rfl, rfl, _, rfl, ite2 (fun h => absurd h (no _ (by decide +kernel))) (fun _ => ?_)⟩
      refine ⟨_, rfl, T'.a, _, _, .str kd, rfl, rfl, SqT.of eT, rfl, rfl, _, rfl, ite2 (fun h => absurd h (no _ (by decide +kernel))) (fun _ => ?_)⟩
      refine ⟨_, rfl, t, _, _, .ref f1.a, rfl, rfl, SqT.of et, rfl, _, rfl, T'.a, _, _, .ref t1.a, rfl, rfl, SqT.of eT, rfl, f1, t1, rfl, r _ List.mem_cons_self, _, rfl, ?_⟩
      refine ite2 (fun h => Bool.noConfusion (show false = true from h)) (fun _ => ?_)
      refine ⟨_, rfl, T'.a, _, _, .str kd, rfl, rfl, SqT.of eT, rfl, rfl, _, rfl, ite2 (fun h => absurd h (no _ (by decide +kernel))) (fun _ => ?_)⟩
      refine ⟨_, rfl, T'.a, _, _, .str kd, rfl, rfl, SqT.of eT, rfl, rfl, _, rfl, ?_⟩
      rw [Bool.eq_false_iff.mpr (no "negative" (by decide +kernel))]
      exact ⟨_, rfl, t, _, _, .ref f2.a, rfl, rfl, SqT.of et, rfl, _, rfl, T'.a, _, _, .ref t2.a, rfl, rfl, SqT.of eT, rfl, f2, t2, rfl, r _ (List.mem_cons_of_mem _ List.mem_cons_self), q⟩
end
end K1
set_option Elab.async false
set_option linter.all false
set_option maxRecDepth 100000
set_option maxHeartbeats 4000000
namespace K1
open PySem PySem.Spec PyProof.Rows L2 He Sw L2H
section
variable {P : Program} {w : World} {K : PySem.W.Frag} {mg : Str → Option Value} {base : Heap}
/-! ### _law_bound -/
/-- what the plan's tuple says: how many, and a foot -/
def PlanOk (H : Hp) (pl : Addr) : Prop := ∃ a b : Int, H pl = some (.tup [.int a, .int b, .int 1]) ∧ 0 < a ∧ a ≤ 10 ^ 6 ∧ 0 ≤ b ∧ b ≤ 10 ^ 29
def spBound : Sp := fun vs H Q _ => ∃ (st NL pl : Addr) (ns : Addr × List Int) (zs : List Str) (i : Str), vs = [.ref st, .ref NL, .str i, .ref pl] ∧ StAt H st ns ∧ PlanOk H pl ∧ H NL = some (.lst (zs.map V.str)) ∧ NL ≠ st ∧ 1 ≤ zs.length ∧ zs.length ≤ 100 ∧ (∀ z ∈ zs, GoodN z) ∧
  ∀ H' t, StAt H' st ns → SameBut st H H' → Bnd H' t i → Q (.ref t) H'
theorem lowB {b r2 r3 : Int} (b0 : 0 ≤ b) (p0 : 0 ≤ r2) (q0 : 0 ≤ r3) : 0 ≤ r2 + b * r3 := Int.add_nonneg p0 (Int.mul_nonneg b0 q0)
theorem highB {a b r2 r3 : Int} (a1 : a ≤ 10 ^ 6) (b0 : 0 ≤ b) (b1 : b ≤ 10 ^ 29) (p1 : r2 < a) (q0 : 0 ≤ r3) (q1 : r3 < 2) : r2 + b * r3 < 10 ^ 30 := by
  have : r3 = 0 ∨ r3 = 1 := by omega
  rcases this with rfl | rfl <;> omega
theorem scBound : FnScope ["_law_state", "_law_names_here", "_law_index", "_law_plan", "_law_word"] ["_law_state", "_law_names_here", "_law_index", "_law_plan"] (defScope sBound) := ⟨rfl, rfl, rfl, by decide +kernel, rfl, by decide +kernel, by decide +kernel⟩
theorem ok_bound {fd fdD : FuncData} (T : Txt K mg) (F : FnG K "_law_bound" sBound fd) (FD : FnG K "_law_draw" sDraw fdD) : FnOk P w K mg base CX0 2 (ga K "_law_bound") fd ["_law_state", "_law_names_here", "_law_index", "_law_plan"] spBound := by
  have GD : DrawOk P w K mg base fdD := ok_draw T FD
  have bD : Binds K fdD ["_law_state", "_law_many"] [] := FD.bindsN fun _ _ _ _ _ _ us hl => match us, hl with | [_, _], _ => rfl
  refine F.ok scBound (fun vs H Q E h => ?_) (fun cdv A outer s H vs Q E hr h => ?_)
  · obtain ⟨st, NL, pl, ns, zs, i, rfl, _⟩ := h
    rfl
  obtain ⟨st, NL, pl, ns, zs, i, rfl, S, ⟨a, b, ep, a0, a1, b0, b1⟩, eN, nN, l1, l2, gz, k⟩ := h
  have nod := scBound.nd
  have hr1 : Room 1 _ := hr.mono (by decide)
  have np : pl ≠ st := fun z => by
    obtain ⟨_, _, _, e, _⟩ := S
    rw [z, e] at ep
    cases ep
  refine ⟨_, PSs.nox (pss_cons (ps_set (i := 4) nod rfl (Or.inl rfl) (pe_ix ix_list (pv 1) (pe_call GD hr1 rfl (T.g "_law_draw") FD.kp bD .nil pass0 (pa_cons (pv 0) (pa_cons (pe_callB call_len_seq rfl (T.f "len") (by decide +kernel) (pa_cons (pv 1) pa_nil)) pa_nil))) (fun _ _ => rfl)))
    (pss_cons (ps_if (PW.pt (pw_or (pt_cmpR op_eq (pv 4) (pv 2) (nomark _)) (pw_or1 (pt_cmpR op_eq (pe_call GD hr1 rfl (T.g "_law_draw") FD.kp bD .nil pass0 (pa_cons (pv 0) (pa_cons pe_int pa_nil))) pe_int (nomark _)))))
      (pss_one (ps_ret (pe_tup (pa_cons pe_str (pa_cons (pe_op op_add (pe_call GD hr1 rfl (T.g "_law_draw") FD.kp bD .nil pass0 (pa_cons (pv 0) (pa_cons (pe_ix ix_tup (pv 3) pe_int (fun _ _ => rfl)) pa_nil))) (pe_op op_mul (pe_ix ix_tup (pv 3) pe_int (fun _ _ => rfl)) (pe_call GD hr1 rfl (T.g "_law_draw") FD.kp bD .nil pass0 (pa_cons (pv 0) (pa_cons pe_int pa_nil))))) pa_nil))))) pss_nil)
    (pss_one (ps_ret (pe_tup (pa_cons pe_str (pa_cons (pv 4) pa_nil))))))), ?_⟩
  have ll : (zs.map V.str).length = zs.length := by simp
  refine ⟨_, rfl, _, rfl, _, rfl, NL, _, rfl, .inl (SqL.of eN), st, _, ns, rfl, by omega, by omega, S, fun r H1 r0 r1 S1 B1 => ?_⟩
  obtain ⟨j, rfl⟩ := Int.eq_ofNat_of_zero_le r0
  obtain ⟨z, hz, ez⟩ := pick_str (zs := zs) (j := j) (by omega)
  refine ⟨NL, _, _, .str z, rfl, rfl, SqL.of (B1 _ _ nN eN), atI_nat ez, ?_⟩
  refine ⟨_, rfl, _, rfl, rfl, _, rfl, ?_⟩
  refine ite2 (fun _ => ?_) (fun ne => ?_)
  · refine ⟨_, rfl, _, rfl, pl, _, _, .int a, rfl, rfl, SqT.of (B1 _ _ np ep), rfl, st, a, ns, rfl, a0, Int.le_trans a1 (by decide), S1, fun r2 H3 p0 p1 S3 B3 => ?_⟩
    have B4 := (B1).trans B3
    refine ⟨_, rfl, pl, _, _, .int b, rfl, rfl, SqT.of (B4 _ _ np ep), rfl, _, rfl, st, 2, ns, rfl, by decide, by decide, S3, fun r3 H4 q0 q1 S4 B5 => ?_⟩
    refine ⟨_, _, rfl, rfl, .inr ⟨by omega, by omega⟩, _, _, rfl, rfl, tsz (by show 2 ≤ 1000; decide), fun t ht => ?_⟩
    obtain ⟨c1, c2⟩ := tup_new (xs := [.str "number", .int (r2 + b * r3)]) S4 (B4.trans B5) ht
    exact k _ t c1 c2 (.inl ⟨_, lowB b0 p0 q0, highB a1 b0 b1 p1 q0 q1, upd_same⟩)
  refine ⟨_, rfl, st, 4, ns, rfl, by decide, by decide, S1, fun r' H2 _ _ S2 B2 => ?_⟩
  have B12 := B1.trans B2
  refine ⟨rfl, _, rfl, ?_⟩
  refine ite2 (fun _ => ?_) (fun _ => ?_)
  · refine ⟨_, rfl, _, rfl, pl, _, _, .int a, rfl, rfl, SqT.of (B12 _ _ np ep), rfl, st, a, ns, rfl, a0, Int.le_trans a1 (by decide), S2, fun r2 H3 p0 p1 S3 B3 => ?_⟩
    have B4 := (B12).trans B3
    refine ⟨_, rfl, pl, _, _, .int b, rfl, rfl, SqT.of (B4 _ _ np ep), rfl, _, rfl, st, 2, ns, rfl, by decide, by decide, S3, fun r3 H4 q0 q1 S4 B5 => ?_⟩
    refine ⟨_, _, rfl, rfl, .inr ⟨by omega, by omega⟩, _, _, rfl, rfl, tsz (by show 2 ≤ 1000; decide), fun t ht => ?_⟩
    obtain ⟨c1, c2⟩ := tup_new (xs := [.str "number", .int (r2 + b * r3)]) S4 (B4.trans B5) ht
    exact k _ t c1 c2 (.inl ⟨_, lowB b0 p0 q0, highB a1 b0 b1 p1 q0 q1, upd_same⟩)
  refine ⟨_, rfl, tsz (by show 2 ≤ 1000; decide), fun t ht => ?_⟩
  obtain ⟨c1, c2⟩ := tup_new (xs := [.str "name", .str z]) S2 B12 ht
  exact k _ t c1 c2 (.inr ⟨z, gz z hz, fun e => ne (by subst e; exact decide_eq_true rfl), upd_same⟩)
end
end K1
set_option Elab.async false
set_option linter.all false
set_option maxRecDepth 100000
set_option maxHeartbeats 4000000
namespace K1
open PySem PySem.Spec PyProof.Rows L2 He Sw L2H
section
variable {P : Program} {w : World} {K : PySem.W.Frag} {mg : Str → Option Value} {base : Heap}
/-! ### _law_inside -/
def spInside : Sp := fun vs H Q _ => ∃ (T : Kd) (ts : List Kd), vs = [.ref T.a] ∧ TNode H T ts ∧ ∀ l H', Same H H' → H' l = some (.lst (refs ts)) → Q (.ref l) H'
theorem scInside : FnScope ["_law_tree_here"] ["_law_tree_here"] (defScope sInside) := ⟨rfl, rfl, rfl, by decide +kernel, rfl, by decide +kernel, by decide +kernel⟩
theorem ok_inside {fd : FuncData} (T : Txt K mg) (F : FnG K "_law_inside" sInside fd) : FnOk P w K mg base CX0 1 (ga K "_law_inside") fd ["_law_tree_here"] spInside := by
  refine F.ok scInside (fun vs H Q E h => ?_) (fun cdv A outer s H vs Q E hr h => ?_)
  · obtain ⟨T', ts, rfl, _⟩ := h
    rfl
  obtain ⟨T', ts, rfl, ⟨own, eT, sh, _⟩, q⟩ := h
  have new : ∀ l xs, H l = none → refs ts = xs → Q (.ref l) (upd H l (.lst xs)) := fun l xs hl e => by
    subst e
    exact q l _ (fun b o y => by rw [upd_ne (ne_of_none y hl)]; exact y) upd_same
  refine ⟨_, PSs.nox (pss_cons (ps_if (PW.pt (pw_or (pt_cmpR op_eq (pe_ix ix_tup (pv 0) pe_int (fun _ _ => rfl)) pe_str (nomark _)) (pw_or1 (pt_cmpR op_eq (pe_ix ix_tup (pv 0) pe_int (fun _ _ => rfl)) pe_str (nomark _))))) (pss_one (ps_ret (pe_lst pa_nil))) pss_nil)
    (pss_cons (ps_if (pt_cmpR op_eq (pe_ix ix_tup (pv 0) pe_int (fun _ _ => rfl)) pe_str (nomark _)) (pss_one (ps_ret (pe_lst (pa_cons (pe_ix ix_tup (pv 0) pe_int (fun _ _ => rfl)) pa_nil)))) pss_nil)
    (pss_cons (ps_if (pt_cmpR op_eq (pe_ix ix_tup (pv 0) pe_int (fun _ _ => rfl)) pe_str (nomark _)) (pss_one (ps_ret (pe_callTy call_list_of rfl (T.f "list") (by decide +kernel) (pa_cons (pe_ix ix_tup (pv 0) pe_int (fun _ _ => rfl)) pa_nil)))) pss_nil)
    (pss_cons (ps_if (PW.pt (pw_or (pt_cmpR op_eq (pe_ix ix_tup (pv 0) pe_int (fun _ _ => rfl)) pe_str (nomark _)) (pw_or1 (pt_cmpR op_eq (pe_ix ix_tup (pv 0) pe_int (fun _ _ => rfl)) pe_str (nomark _))))) (pss_one (ps_ret (pe_lst (pa_cons (pe_ix ix_tup (pv 0) pe_int (fun _ _ => rfl)) pa_nil)))) pss_nil)
    (pss_one (ps_ret (pe_lst (pa_cons (pe_ix ix_tup (pv 0) pe_int (fun _ _ => rfl)) (pa_cons (pe_ix ix_tup (pv 0) pe_int (fun _ _ => rfl)) pa_nil))))))))), ?_⟩
  generalize hth : T'.th = th at eT sh
  generalize hrf : refs ts = rr at sh new
  cases sh with
  | num i h0 h1 =>
    refine ⟨_, rfl, T'.a, _, _, .str "number", rfl, rfl, SqT.of eT, rfl, rfl, _, rfl, ite2 (fun _ => ?_) (fun h => absurd (by decide +kernel) h)⟩
    exact ⟨by decide +kernel, fun l hl => new l _ hl rfl⟩
  | nam z g =>
    refine ⟨_, rfl, T'.a, _, _, .str "name", rfl, rfl, SqT.of eT, rfl, rfl, _, rfl, ite2 (fun h => absurd h (by decide +kernel)) (fun _ => ?_)⟩
    refine ⟨_, rfl, T'.a, _, _, .str "name", rfl, rfl, SqT.of eT, rfl, rfl, _, rfl, ite2 (fun _ => ?_) (fun h => absurd (by decide +kernel) h)⟩
    exact ⟨by decide +kernel, fun l hl => new l _ hl rfl⟩
  | sum i b a g hb =>
    refine ⟨_, rfl, T'.a, _, _, .str "sum", rfl, rfl, SqT.of eT, rfl, rfl, _, rfl, ite2 (fun h => absurd h (by decide +kernel)) (fun _ => ?_)⟩
    refine ⟨_, rfl, T'.a, _, _, .str "sum", rfl, rfl, SqT.of eT, rfl, rfl, _, rfl, ite2 (fun h => absurd h (by decide +kernel)) (fun _ => ?_)⟩
    refine ⟨_, rfl, T'.a, _, _, .str "sum", rfl, rfl, SqT.of eT, rfl, rfl, _, rfl, ite2 (fun _ => ?_) (fun h => absurd (by decide +kernel) h)⟩
    exact ⟨_, rfl, T'.a, _, _, a, rfl, rfl, SqT.of eT, rfl, tsz (by show 1 ≤ 1000; decide), fun l hl => new l _ hl rfl⟩
  | call z as g e l1 l4 =>
    refine ⟨_, rfl, T'.a, _, _, .str "call", rfl, rfl, SqT.of eT, rfl, rfl, _, rfl, ite2 (fun h => absurd h (by decide +kernel)) (fun _ => ?_)⟩
    refine ⟨_, rfl, T'.a, _, _, .str "call", rfl, rfl, SqT.of eT, rfl, rfl, _, rfl, ite2 (fun h => absurd h (by decide +kernel)) (fun _ => ?_)⟩
    refine ⟨_, rfl, T'.a, _, _, .str "call", rfl, rfl, SqT.of eT, rfl, rfl, _, rfl, ite2 (fun h => absurd h (by decide +kernel)) (fun _ => ?_)⟩
    refine ⟨_, rfl, T'.a, _, _, .str "call", rfl, rfl, SqT.of eT, rfl, rfl, _, rfl, ite2 (fun _ => ?_) (fun h => absurd (by decide +kernel) h)⟩
    exact ⟨_, rfl, T'.a, _, _, _, rfl, rfl, SqT.of eT, rfl, _, _, rfl, .inr (SqT.of e), fun l hl => new l _ hl rfl⟩
  | neg a =>
    refine ⟨_, rfl, T'.a, _, _, .str "negative", rfl, rfl, SqT.of eT, rfl, rfl, _, rfl, ite2 (fun h => absurd h (by decide +kernel)) (fun _ => ?_)⟩
    refine ⟨_, rfl, T'.a, _, _, .str "negative", rfl, rfl, SqT.of eT, rfl, rfl, _, rfl, ite2 (fun h => absurd h (by decide +kernel)) (fun _ => ?_)⟩
    refine ⟨_, rfl, T'.a, _, _, .str "negative", rfl, rfl, SqT.of eT, rfl, rfl, _, rfl, ite2 (fun h => absurd h (by decide +kernel)) (fun _ => ?_)⟩
    refine ⟨_, rfl, T'.a, _, _, .str "negative", rfl, rfl, SqT.of eT, rfl, rfl, _, rfl, ite2 (fun h => absurd h (by decide +kernel)) (fun _ => ?_)⟩
    refine ⟨_, rfl, T'.a, _, _, .str "negative", rfl, rfl, SqT.of eT, rfl, rfl, _, rfl, ite2 (fun _ => ?_) (fun h => absurd (by decide +kernel) h)⟩
    exact ⟨_, rfl, T'.a, _, _, a, rfl, rfl, SqT.of eT, rfl, tsz (by show 1 ≤ 1000; decide), fun l hl => new l _ hl rfl⟩
  | shift a n h0 h1 =>
    refine ⟨_, rfl, T'.a, _, _, .str "shift", rfl, rfl, SqT.of eT, rfl, rfl, _, rfl, ite2 (fun h => absurd h (by decide +kernel)) (fun _ => ?_)⟩
    refine ⟨_, rfl, T'.a, _, _, .str "shift", rfl, rfl, SqT.of eT, rfl, rfl, _, rfl, ite2 (fun h => absurd h (by decide +kernel)) (fun _ => ?_)⟩
    refine ⟨_, rfl, T'.a, _, _, .str "shift", rfl, rfl, SqT.of eT, rfl, rfl, _, rfl, ite2 (fun h => absurd h (by decide +kernel)) (fun _ => ?_)⟩
    refine ⟨_, rfl, T'.a, _, _, .str "shift", rfl, rfl, SqT.of eT, rfl, rfl, _, rfl, ite2 (fun h => absurd h (by decide +kernel)) (fun _ => ?_)⟩
    refine ⟨_, rfl, T'.a, _, _, .str "shift", rfl, rfl, SqT.of eT, rfl, rfl, _, rfl, ite2 (fun h => absurd h (by decide +kernel)) (fun _ => ?_)⟩
    refine ⟨_, rfl, T'.a, _, _, .str "shift", rfl, rfl, SqT.of eT, rfl, rfl, _, rfl, ite2 (fun _ => ?_) (fun h => absurd (by decide +kernel) h)⟩
    exact ⟨_, rfl, T'.a, _, _, a, rfl, rfl, SqT.of eT, rfl, tsz (by show 1 ≤ 1000; decide), fun l hl => new l _ hl rfl⟩
  | bin kd hk a b =>
    have no : ∀ z : Str, (∀ x ∈ (["plus", "minus", "times"] : List Str), x ≠ z) → ¬ decide (V.str kd = V.str z) = true := fun z hz e => by
      have e := of_decide_eq_true e
      injection e with e
      refine hz kd ?_ e
      rcases hk with rfl | rfl | rfl <;> decide +kernel
    refine ⟨_, rfl, T'.a, _, _, .str kd, rfl, rfl, SqT.of eT, rfl, rfl, _, rfl, ite2 (fun h => absurd h (no _ (by decide +kernel))) (fun _ => ?_)⟩
    refine ⟨_, rfl, T'.a, _, _, .str kd, rfl, rfl, SqT.of eT, rfl, rfl, _, rfl, ite2 (fun h => absurd h (no _ (by decide +kernel))) (fun _ => ?_)⟩
    refine ⟨_, rfl, T'.a, _, _, .str kd, rfl, rfl, SqT.of eT, rfl, rfl, _, rfl, ite2 (fun h => absurd h (no _ (by decide +kernel))) (fun _ => ?_)⟩
    refine ⟨_, rfl, T'.a, _, _, .str kd, rfl, rfl, SqT.of eT, rfl, rfl, _, rfl, ite2 (fun h => absurd h (no _ (by decide +kernel))) (fun _ => ?_)⟩
    refine ⟨_, rfl, T'.a, _, _, .str kd, rfl, rfl, SqT.of eT, rfl, rfl, _, rfl, ite2 (fun h => absurd h (no _ (by decide +kernel))) (fun _ => ?_)⟩
    refine ⟨_, rfl, T'.a, _, _, .str kd, rfl, rfl, SqT.of eT, rfl, rfl, _, rfl, ite2 (fun h => absurd h (no _ (by decide +kernel))) (fun _ => ?_)⟩
    exact ⟨_, rfl, T'.a, _, _, a, rfl, rfl, SqT.of eT, rfl, _, rfl, T'.a, _, _, b, rfl, rfl, SqT.of eT, rfl, tsz (by show 2 ≤ 1000; decide), fun l hl => new l _ hl rfl⟩
end
end K1
set_option Elab.async false
set_option linter.all false
set_option maxRecDepth 100000
set_option maxHeartbeats 4000000
namespace K1
open PySem PySem.Spec PyProof.Rows L2 He Sw L2H
section
variable {P : Program} {w : World} {K : PySem.W.Frag} {mg : Str → Option Value} {base : Heap}
/-! ### _law_size -/
theorem maxD_append : ∀ a b : List Kd, maxD (a ++ b) = max (maxD a) (maxD b)
  | [], b => by show maxD b = max 0 (maxD b); omega
  | k :: a, b => by
    show max k.d (maxD (a ++ b)) = max (max k.d (maxD a)) (maxD b)
    rw [maxD_append a b]
    omega
theorem take_at {l : List Kd} {i : Nat} {k : Kd} (h : l[i]? = some k) : l.take (i + 1) = l.take i ++ [k] := by rw [List.take_add_one, h]; rfl
theorem sumP_at {l : List Kd} {i : Nat} {k : Kd} (h : l[i]? = some k) : sumP (l.take (i + 1)) = sumP (l.take i) + k.p := by
  rw [take_at h]
  unfold sumP
  simp
theorem maxD_at {l : List Kd} {i : Nat} {k : Kd} (h : l[i]? = some k) : maxD (l.take (i + 1)) = max (maxD (l.take i)) k.d := by
  rw [take_at h, maxD_append]
  show max _ (max k.d 0) = _
  omega
def spSize (n : Nat) : Sp := fun vs H Q _ => ∃ T : Kd, vs = [.ref T.a] ∧ Tr n H T ∧ ∀ t H', Same H H' → H' t = some (.tup [.int T.p, .int T.d]) → Q (.ref t) H'
theorem scSize : FnScope ["_law_tree_here", "_law_parts", "_law_depth", "_law_one", "_law_size_here"] ["_law_tree_here"] (defScope sSize) := ⟨rfl, rfl, rfl, by decide +kernel, rfl, by decide +kernel, by decide +kernel⟩
theorem ok_size {fd fdI : FuncData} (T : Txt K mg) (F : FnG K "_law_size" sSize fd) (FI : FnG K "_law_inside" sInside fdI) : ∀ n, FnOk P w K mg base CX0 (n + 1) (ga K "_law_size") fd ["_law_tree_here"] (spSize n)
  | 0 => ⟨fun vs H Q E h => by
      obtain ⟨T', rfl, _⟩ := h
      rfl, fun A outer s H args us vs Q E _ _ _ _ h => by
      obtain ⟨T', _, h, _⟩ := h
      exact h.elim⟩
  | n + 1 => by
    have GX : FnOk P w K mg base CX0 (n + 1) (ga K "_law_size") fd ["_law_tree_here"] (spSize n) := ok_size T F FI n
    have GI : FnOk P w K mg base CX0 1 (ga K "_law_inside") fdI ["_law_tree_here"] spInside := ok_inside T FI
    have bX : Binds K fd ["_law_tree_here"] [] := F.bindsN fun _ _ _ _ _ _ us hl => match us, hl with | [_], _ => rfl
    have bI : Binds K fdI ["_law_tree_here"] [] := FI.bindsN fun _ _ _ _ _ _ us hl => match us, hl with | [_], _ => rfl
    refine F.ok scSize (fun vs H Q E h => ?_) (fun cdv A outer s H vs Q E hr h => ?_)
    · obtain ⟨T', rfl, _⟩ := h
      rfl
    obtain ⟨T', rfl, ⟨ts, nd', hts⟩, q⟩ := h
    have nod := scSize.nd
    have hr1 : Room 1 _ := hr.mono (by omega)
    refine ⟨_, PSs.nox (pss_cons (ps_set (i := 1) nod rfl (Or.inl rfl) pe_int)
      (pss_cons (ps_set (i := 2) nod rfl (Or.inl rfl) pe_int)
      (pss_cons (ps_for PassesOwn.never rfl (pi_list (pe_call GI hr1 rfl (T.g "_law_inside") FI.kp bI .nil pass0 (pa_cons (pv 0) pa_nil))) (pg_name (i := 3) nod rfl (Or.inl rfl))
        (pss_cons (ps_set (i := 4) nod rfl (Or.inl rfl) (pe_call GX hr rfl (T.g "_law_size") F.kp bX .nil pass0 (pa_cons (pv 3) pa_nil)))
        (pss_cons (ps_set (i := 1) nod rfl (Or.inl rfl) (pe_op op_add (pv 1) (pe_ix ix_tup (pv 4) pe_int (fun _ _ => rfl))))
        (pss_one (ps_set (i := 2) nod rfl (Or.inl rfl) (pe_callB (call_max2 rfl) rfl (T.f "max") (by decide +kernel) (pa_cons (pv 2) (pa_cons (pe_ix ix_tup (pv 4) pe_int (fun _ _ => rfl)) pa_nil))))))))
      (pss_one (ps_ret (pe_tup (pa_cons (pv 1) (pa_cons (pe_op op_add (pv 2) pe_int) pa_nil)))))))), ?_⟩
    obtain ⟨own, eT, sh, ep, ed, _⟩ := id nd'
    have lr : (refs ts).length = ts.length := by simp [refs]
    refine ⟨_, rfl, T', ts, rfl, nd', fun l H1 s1 el => ⟨l, rfl, ⟨_, SqL.of el⟩, for_list (xs := refs ts) (fun i σ H' => (∃ v v', σ = [some (.ref T'.a), some (.int ((1 + sumP (ts.take i) : Nat) : Int)), some (.int ((maxD (ts.take i) : Nat) : Int)), v, v']) ∧ Same H1 H') ⟨⟨none, none, rfl⟩, Same.refl H1⟩ (fun i σ H' _ ⟨_, s⟩ => SqL.of (s _ _ el)) ?_ ?_⟩⟩
    · rintro i x σ H' hx ⟨⟨v, v', rfl⟩, s2⟩
      obtain ⟨k, hkj, rfl⟩ : ∃ k, ts[i]? = some k ∧ V.ref k.a = x := by
        unfold refs at hx
        rw [List.getElem?_map] at hx
        cases h : ts[i]? with
        | none => rw [h] at hx; cases hx
        | some k => rw [h] at hx; exact ⟨k, rfl, by injection hx⟩
      refine ⟨_, rfl, k, rfl, ((hts k (List.mem_of_getElem? hkj)).same s1).same s2, fun t H2 s3 et => ?_⟩
      refine ⟨_, rfl, _, rfl, t, _, _, .int k.p, rfl, rfl, SqT.of et, rfl, _, _, rfl, rfl, ?_⟩
      refine ⟨_, rfl, _, rfl, t, _, _, .int k.d, rfl, rfl, SqT.of et, rfl, _, _, rfl, ?_⟩
      have e1 : ((1 + sumP (ts.take i) : Nat) : Int) + (k.p : Int) = ((1 + sumP (ts.take (i + 1)) : Nat) : Int) := by rw [sumP_at hkj]; omega
      have e2 : (if (k.d : Int) > ((maxD (ts.take i) : Nat) : Int) then (k.d : Int) else ((maxD (ts.take i) : Nat) : Int)) = ((maxD (ts.take (i + 1)) : Nat) : Int) := by rw [maxD_at hkj]; split <;> omega
      refine ⟨⟨some (.ref k.a), some (.ref t), ?_⟩, s2.trans s3⟩
      rw [← e1, ← e2]
      rfl
    · rintro σ H' ⟨⟨v, v', rfl⟩, s2⟩
      rw [lr, List.take_length]
      refine ⟨_, rfl, _, rfl, _, _, rfl, rfl, tsz (by show 2 ≤ 1000; decide), fun t ht => ?_⟩
      refine q t _ ((s1.trans s2).trans fun b o y => by rw [upd_ne (ne_of_none y ht)]; exact y) ?_
      have e3 : ((1 + maxD ts : Nat) : Int) = ((maxD ts : Nat) : Int) + 1 := by omega
      rw [ep, ed, upd_same, e3]
end
end K1
set_option Elab.async false
set_option linter.all false
set_option maxRecDepth 100000
set_option maxHeartbeats 4000000
namespace K1
open PySem PySem.Spec PyProof.Rows L2 He Sw L2H
section
variable {P : Program} {w : World} {K : PySem.W.Frag} {mg : Str → Option Value} {base : Heap}
/-! ### _law_sizes -/
def spSizes (K : PySem.W.Frag) (n : Nat) : Sp := fun vs H Q _ => ∃ (k T : Kd) (m : Nat), vs = [.ref k.a, .ref T.a] ∧ FR K m H k T ∧ Tr n H T ∧ ∀ H', Same H H' → Q (.bl true) H'
theorem scSizes : FnScope ["_law_formula", "_law_tree_here", "_law_size_here"] ["_law_formula", "_law_tree_here"] (defScope sSizes) := ⟨rfl, rfl, rfl, by decide +kernel, rfl, by decide +kernel, by decide +kernel⟩
theorem ok_sizes {fd fdZ fdN fdI : FuncData} (T : Txt K mg) (F : FnG K "_law_sizes" sSizes fd) (FZ : FnG K "_law_size" sSize fdZ) (FN : FnG K "_law_inside" sInside fdN) (FI : FnG K "_law_is_integer" sLInt fdI) (n : Nat) : FnOk P w K mg base CX0 (n + 2) (ga K "_law_sizes") fd ["_law_formula", "_law_tree_here"] (spSizes K n) := by
  have GZ : FnOk P w K mg base CX0 (n + 1) (ga K "_law_size") fdZ ["_law_tree_here"] (spSize n) := ok_size T FZ FN n
  have GI : FnOk P w K mg base CX0 1 (ga K "_law_is_integer") fdI ["_law_thing"] spIsInt := ok_lInt T FI
  have bZ : Binds K fdZ ["_law_tree_here"] [] := FZ.bindsN fun _ _ _ _ _ _ us hl => match us, hl with | [_], _ => rfl
  have bI : Binds K fdI ["_law_thing"] [] := FI.bindsN fun _ _ _ _ _ _ us hl => match us, hl with | [_], _ => rfl
  refine F.ok scSizes (fun vs H Q E h => ?_) (fun cdv A outer s H vs Q E hr h => ?_)
  · obtain ⟨k, T', m, rfl, _⟩ := h
    rfl
  obtain ⟨k, T', m, rfl, hf, ht, q⟩ := h
  have nod := scSizes.nd
  have hr1 : Room 1 _ := hr.mono (by omega)
  refine ⟨_, PSs.nox (pss_cons (ps_set (i := 2) nod rfl (Or.inl rfl) (pe_call GZ hr rfl (T.g "_law_size") FZ.kp bZ .nil pass0 (pa_cons (pv 1) pa_nil)))
    (pss_cons (ps_if (PW.pt (pw_or (pt_not (pt_val (pe_call GI hr1 rfl (T.g "_law_is_integer") FI.kp bI .nil pass0 (pa_cons (pe_fld (pv 0) rfl) pa_nil)))) (pw_or1 (pt_not (pt_val (pe_call GI hr1 rfl (T.g "_law_is_integer") FI.kp bI .nil pass0 (pa_cons (pe_fld (pv 0) rfl) pa_nil))))))) (pss_one (ps_ret pe_bl)) pss_nil)
    (pss_one (ps_ret (pe_and (pe_cmpR op_eq (pe_fld (pv 0) rfl) (pe_ix ix_tup (pv 2) pe_int (fun _ _ => rfl)) (nomark _)) (pe_one (pe_cmpR op_eq (pe_fld (pv 0) rfl) (pe_ix ix_tup (pv 2) pe_int (fun _ _ => rfl)) (nomark _)))))))), ?_⟩
  refine ⟨_, rfl, T', rfl, ht, fun t H1 s1 et => ?_⟩
  cases m with
  | zero => exact hf.elim
  | succ m =>
  obtain ⟨ep, ed, _, _, ⟨ks, dx, t0, own, ea0, _, hsh, _⟩, _⟩ := hf
  have ea := s1 _ _ ea0
  have I := T.ins _ hsh.cls
  have np := I.no "parts" (by decide +kernel)
  have nd := I.no "depth" (by decide +kernel)
  refine ⟨_, rfl, k.a, _, dx, _, .int k.p, rfl, ea, I.cl, np, rfl, .int k.p, _, rfl, .int _, ⟨_, rfl, ?_⟩⟩
  refine ite2 (fun h => Bool.noConfusion (show false = true from h)) (fun _ => ?_)
  refine ⟨_, rfl, k.a, _, dx, _, .int k.d, rfl, ea, I.cl, nd, rfl, .int k.d, _, rfl, .int _, ⟨_, rfl, ?_⟩⟩
  refine ite2 (fun h => Bool.noConfusion (show false = true from h)) (fun _ => ?_)
  refine ⟨_, rfl, k.a, _, dx, _, .int k.p, rfl, ea, I.cl, np, rfl, _, rfl, t, _, _, .int T'.p, rfl, rfl, SqT.of et, rfl, rfl, _, rfl, ?_⟩
  rw [ep, decide_eq_true rfl]
  refine ⟨_, rfl, k.a, _, dx, _, .int k.d, rfl, ea, I.cl, nd, rfl, _, rfl, t, _, _, .int T'.d, rfl, rfl, SqT.of et, rfl, rfl, ?_⟩
  rw [ed, decide_eq_true rfl]
  exact q H1 s1
end
end K1
set_option Elab.async false
set_option linter.all false
set_option maxRecDepth 100000
set_option maxHeartbeats 8000000
namespace K1
open PySem PySem.Spec PyProof.Rows L2 He Sw L2H
theorem upd_new {H : Hp} {p : Addr} {o : HO} (hp : H p = none) : Same H (upd H p o) := fun b o q => by rw [upd_ne (ne_of_none q hp)]; exact q
theorem filt_pos {α : Type} {p : α → Bool} {l : List α} {z : α} (h : p z = true) : (l ++ [z]).filter p = l.filter p ++ [z] := by rw [List.filter_append, List.filter_cons_of_pos h]; rfl
theorem filt_neg {α : Type} {p : α → Bool} {l : List α} {z : α} (h : ¬ p z = true) : (l ++ [z]).filter p = l.filter p := by rw [List.filter_append, List.filter_cons_of_neg h]; simp
section
variable {P : Program} {w : World} {K : PySem.W.Frag} {mg : Str → Option Value} {base : Heap}
/-! ### _law_tree -/
theorem strs_st {H : Hp} {st a : Addr} {ns : Addr × List Int} {zs : List Str} (S : StAt H st ns) (h : H a = some (.lst (zs.map V.str))) : a ≠ st := fun z => by
  obtain ⟨_, _, _, g1, _⟩ := S
  rw [z, g1] at h
  cases zs with
  | nil => cases h
  | cons y ys => cases h
/-- what _law_tree is handed -/
structure TIn (st NL IL pl HL : Addr) (ns : Addr × List Int) (zs is hs : List Str) (H : Hp) : Prop where
  S : StAt H st ns
  P : PlanOk H pl
  n : H NL = some (.lst (zs.map V.str))
  i : H IL = some (.lst (is.map V.str))
  h : H HL = some (.lst (hs.map V.str))
  lz : 1 ≤ zs.length ∧ zs.length ≤ 10
  li : is.length ≤ 10
  lh : hs.length ≤ 3
  gz : ∀ z ∈ zs, GoodN z
  gi : ∀ z ∈ is, GoodN z
  gh : ∀ z ∈ hs, GoodN z
theorem TIn.go {st NL IL pl HL : Addr} {ns : Addr × List Int} {zs is hs : List Str} {H H' : Hp} (h : TIn st NL IL pl HL ns zs is hs H) (S' : StAt H' st ns) (B : SameBut st H H') : TIn st NL IL pl HL ns zs is hs H' := by
  refine ⟨S', ?_, B _ _ (strs_st h.S h.n) h.n, B _ _ (strs_st h.S h.i) h.i, B _ _ (strs_st h.S h.h) h.h, h.lz, h.li, h.lh, h.gz, h.gi, h.gh⟩
  obtain ⟨a, b, e, r⟩ := h.P
  refine ⟨a, b, B _ _ (fun z => ?_) e, r⟩
  obtain ⟨_, _, _, g1, _⟩ := h.S
  rw [z, g1] at e
  cases e
theorem maxD_sumP : ∀ {ts : List Kd}, (∀ q ∈ ts, q.d ≤ q.p) → maxD ts ≤ sumP ts
  | [], _ => Nat.le_refl _
  | k :: ts, h => by
    have h1 := h k List.mem_cons_self
    have h2 := maxD_sumP (ts := ts) fun q hq => h q (List.mem_cons_of_mem _ hq)
    show max k.d (maxD ts) ≤ k.p + sumP ts
    omega
theorem tr_node {n : Nat} {H H1 : Hp} {st t : Addr} {ns : Addr × List Int} {ts : List Kd} {th : List V} {own hs : List Str} {room : Int} {Q : VK} (S1 : StAt H1 st ns) (B : SameBut st H H1) (ht : H1 t = none) (r : ∀ q ∈ ts, Tr n H1 q) (dp : ∀ q ∈ ts, q.d ≤ q.p)
    (sh : TShp (upd H1 t (.tup th)) th (refs ts) own) (fit : ((1 + sumP ts : Nat) : Int) ≤ room) (no : ∀ i ∈ own, i ∉ ixs ts ∧ i ∉ hs) (nk : ∀ i ∈ ixs ts, i ∉ hs)
    (k : ∀ H' T, StAt H' st ns → SameBut st H H' → Tr (n + 1) H' T → (T.p : Int) ≤ room → T.d ≤ T.p → (∀ i ∈ T.ix, i ∉ hs) → Q (.ref T.a) H') : Q (.ref t) (upd H1 t (.tup th)) := by
  have s := upd_new (o := .tup th) ht
  obtain ⟨a1, a2⟩ := tup_new (xs := th) S1 B ht
  refine k _ ⟨t, 1 + maxD ts, 1 + sumP ts, own ++ ixs ts, "", "", th⟩ a1 a2 ⟨ts, ⟨own, upd_same, sh, rfl, rfl, rfl, fun i hi => (no i hi).1⟩, fun q hq => (r q hq).same s⟩ fit ?_ ?_
  · have := maxD_sumP dp
    show 1 + maxD ts ≤ 1 + sumP ts
    omega
  · intro i hi
    rcases List.mem_append.mp hi with hi | hi
    · exact (no i hi).2
    · exact nk i hi
theorem mem_ixs {ks : List Kd} {x : Str} : x ∈ ixs ks ↔ ∃ k ∈ ks, x ∈ k.ix := by
  unfold ixs
  constructor
  · intro h
    obtain ⟨l, hl, hx⟩ := List.mem_flatten.mp h
    obtain ⟨k, hk, rfl⟩ := List.mem_map.mp hl
    exact ⟨k, hk, hx⟩
  · rintro ⟨k, hk, hx⟩
    exact List.mem_flatten.mpr ⟨_, List.mem_map.mpr ⟨k, hk, rfl⟩, hx⟩
theorem sumP_le {c : Int} : ∀ {ts : List Kd}, (∀ q ∈ ts, (q.p : Int) ≤ c) → ((sumP ts : Nat) : Int) ≤ (ts.length : Int) * c
  | [], _ => by simp [sumP]
  | k :: ts, h => by
    have h1 := h k List.mem_cons_self
    have h2 := sumP_le (ts := ts) fun q hq => h q (List.mem_cons_of_mem _ hq)
    have e : (((k :: ts).length : Nat) : Int) * c = (ts.length : Int) * c + c := by
      rw [List.length_cons, Int.natCast_add, Int.add_mul]
      simp
    show ((k.p + sumP ts : Nat) : Int) ≤ _
    rw [e]
    omega
theorem dp_strs {H : Hp} : ∀ fs : List Str, DpAll K H (fs.map V.str) (fs.map PyData.str)
  | [] => .nil
  | z :: fs => .cons (.str z) (dp_strs fs)
theorem strOk_good {z : Str} (h : GoodN z) : PyData.strOk z = true := by
  have h1 : low z = true := by
    have h := h.1
    unfold isNmS at h
    simp only [Bool.and_eq_true] at h
    exact h.2.2.2
  unfold PyData.strOk
  rw [← Array.all_toList, List.all_eq_true]
  intro c hc
  unfold low at h1
  rw [List.all_eq_true] at h1
  have h2 := of_decide_eq_true (h1 c hc)
  have h3 : ∀ c ∈ LET.cps.toList, c < 0x110000 := by decide +kernel
  exact decide_eq_true (h3 c h2)
theorem sh_strs : ∀ (fs : List Str), (∀ z ∈ fs, GoodN z) → SeqAt.shaped (.list (fs.map PyData.str)) = true := fun fs h => by
  have h1 : ∀ fs : List Str, (∀ z ∈ fs, GoodN z) → PyData.canLayAll0 (fs.map PyData.str) = true ∧ PyData.depthAll (fs.map PyData.str) = 0 := by
    intro fs
    induction fs with
    | nil => intro _; exact ⟨by simp [PyData.canLayAll0], by simp [PyData.depthAll]⟩
    | cons z fs ih =>
      intro h
      obtain ⟨a1, a2⟩ := ih fun y hy => h y (List.mem_cons_of_mem _ hy)
      have a3 := strOk_good (h z List.mem_cons_self)
      exact ⟨by simp [PyData.canLayAll0, PyData.canLay0, a1, a3], by simp [PyData.depthAll, PyData.depth, a2]⟩
  obtain ⟨a1, a2⟩ := h1 fs h
  unfold SeqAt.shaped
  simp [PyData.canLay0, PyData.depth, a1, a2]
abbrev tg (st NL IL pl HL D : Addr) (room pick : Int) : L2.St := [some (.ref st), some (.ref NL), some (.ref IL), some (.ref pl), some (.int room), some (.ref HL), some (.int pick), none, none, some (.ref D), none, none, none, none, none, none, none]
def spTree (n : Nat) : Sp := fun vs H Q _ => ∃ (st NL IL pl HL : Addr) (room : Int) (ns : Addr × List Int) (zs is hs : List Str), vs = [.ref st, .ref NL, .ref IL, .ref pl, .int room, .ref HL] ∧ 1 ≤ room ∧ room ≤ n ∧ room ≤ 100 ∧ TIn st NL IL pl HL ns zs is hs H ∧
  ∀ H' T, StAt H' st ns → SameBut st H H' → Tr n H' T → (T.p : Int) ≤ room → T.d ≤ T.p → (∀ i ∈ T.ix, i ∉ hs) → Q (.ref T.a) H'
abbrev NTREE : List Str := ["_law_state", "_law_names_here", "_law_indexes", "_law_plan", "_law_room", "_law_hidden", "_law_pick", "_law_k", "_law_word", "_law_free", "_law_index", "_law_below", "_law_many", "_law_row", "_law_kind", "_law_first", "_law_one"]
theorem scTree : FnScope ["_law_state", "_law_names_here", "_law_indexes", "_law_plan", "_law_room", "_law_hidden", "_law_pick", "_law_k", "_law_word", "_law_free", "_law_index", "_law_below", "_law_many", "_law_row", "_law_kind", "_law_first", "_law_one"] ["_law_state", "_law_names_here", "_law_indexes", "_law_plan", "_law_room", "_law_hidden"] (defScope sTree) := ⟨rfl, rfl, rfl, by decide +kernel, rfl, by decide +kernel, by decide +kernel⟩
theorem ok_tree {fd : FuncData} (T : Txt K mg) (F : FnG K "_law_tree" sTree fd) (CD : Cal P w K mg base CX0 1 (ga K "_law_draw") ["_law_state", "_law_many"] spDraw) (CL : Cal P w K mg base CX0 3 (ga K "_law_leaf") ["_law_state", "_law_names_here"] spLeaf)
    (CB : Cal P w K mg base CX0 2 (ga K "_law_bound") ["_law_state", "_law_names_here", "_law_index", "_law_plan"] spBound) : ∀ n, FnOk P w K mg base CX0 (n + 4) (ga K "_law_tree") fd ["_law_state", "_law_names_here", "_law_indexes", "_law_plan", "_law_room", "_law_hidden"] (spTree n)
  | 0 => ⟨fun vs H Q E h => by
      obtain ⟨st, NL, IL, pl, HL, room, ns, zs, is, hs, rfl, _⟩ := h
      rfl, fun A outer s H args us vs Q E _ _ _ _ h => by
      obtain ⟨st, NL, IL, pl, HL, room, ns, zs, is, hs, _, h1, h2, _⟩ := h
      exact (by omega : False).elim⟩
  | n + 1 => by
    have bX : L2.Binds K fd ["_law_state", "_law_names_here", "_law_indexes", "_law_plan", "_law_room", "_law_hidden"] [] := F.bindsN fun _ _ _ _ _ _ us hl => match us, hl with | [_, _, _, _, _, _], _ => rfl
    have GX : Cal P w K mg base CX0 (n + 4) (ga K "_law_tree") ["_law_state", "_law_names_here", "_law_indexes", "_law_plan", "_law_room", "_law_hidden"] (spTree n) := ⟨fd, ok_tree T F CD CL CB n, F.kp, bX⟩
    refine F.ok scTree (fun vs H Q E h => ?_) (fun cdv A outer s H vs Q E hr h => ?_)
    · obtain ⟨st, NL, IL, pl, HL, room, ns, zs, is, hs, rfl, _⟩ := h
      rfl
    obtain ⟨st, NL, IL, pl, HL, room, ns, zs, is, hs, rfl, r1, rn, r100, I, k⟩ := h
    have nod := scTree.nd
    refine ⟨_, PSs.nox (pss_cons (ps_set (i := 6) nod rfl (Or.inl rfl) (pe_callC CD (hr.mono (by omega)) rfl (T.g "_law_draw") pass0 (pa_cons (pv 0) (pa_cons pe_int pa_nil))))
    (pss_cons (ps_if (PW.pt (pw_or (pt_cmpR op_lt (pv 4) pe_int (nomark _)) (pw_or1 (pt_cmpR op_eq (pv 6) pe_int (nomark _)))))
      (pss_one (ps_ret (pe_callC CL (hr.mono (by omega)) rfl (T.g "_law_leaf") pass0 (pa_cons (pv 0) (pa_cons (pe_op op_cat (pv 1) (pv 5)) pa_nil)))))
      pss_nil)
    (pss_cons (ps_if (pt_cmpR op_eq (pv 6) pe_int (nomark _))
      (pss_one (ps_ret (pe_tup (pa_cons pe_str (pa_cons (pe_callC GX (hr.mono (by omega)) rfl (T.g "_law_tree") pass0 (pa_cons (pv 0) (pa_cons (pv 1) (pa_cons (pv 2) (pa_cons (pv 3) (pa_cons (pe_op op_sub (pv 4) pe_int) (pa_cons (pv 5) pa_nil))))))) pa_nil)))))
      pss_nil)
    (pss_cons (ps_if (pt_cmpR op_eq (pv 6) pe_int (nomark _))
      (pss_cons (ps_set (i := 7) nod rfl (Or.inl rfl) (pe_callC CD (hr.mono (by omega)) rfl (T.g "_law_draw") pass0 (pa_cons (pv 0) (pa_cons (pe_ix ix_list (pe_lst (pa_cons pe_int (pa_cons pe_int pa_nil))) (pe_callC CD (hr.mono (by omega)) rfl (T.g "_law_draw") pass0 (pa_cons (pv 0) (pa_cons pe_int pa_nil))) (fun _ _ => rfl)) pa_nil))))
      (pss_one (ps_ret (pe_tup (pa_cons pe_str (pa_cons (pe_callC GX (hr.mono (by omega)) rfl (T.g "_law_tree") pass0 (pa_cons (pv 0) (pa_cons (pv 1) (pa_cons (pv 2) (pa_cons (pv 3) (pa_cons (pe_op op_sub (pv 4) pe_int) (pa_cons (pv 5) pa_nil))))))) (pa_cons (pv 7) pa_nil)))))))
      pss_nil)
    (pss_cons (ps_setLc (i := 9) (own := [("_law_word", 8)]) (te := (tVar 8)) (g := (gName 8)) (tt := (tTest (tOp (rIn K true) (tVar 8) (tVar 5)))) rfl nod rfl rfl (sw_true rfl rfl rfl (by decide +kernel)) (pi_list (pv 2)) (blkOk_by (N := NTREE) (sc := defScope sTree) (by decide +kernel)) (fun _ _ _ _ _ => (pg_name (i := 8) nod rfl (Or.inl rfl))) (fun _ _ _ _ _ => (pts_one (pt_cmpR op_notIn_seq (pv 8) (pv 5) rfl))) (fun _ _ _ _ _ => (pv 8)))
    (C8.pss_cut (ps_if (PW.pt (pw_and (pt_cmpR op_lt (pv 6) pe_int (nomark _)) (pw_and (pt_cmpR op_lt (pe_callB call_len_seq rfl (T.f "len") (by decide +kernel) (pa_cons (pv 5) pa_nil)) pe_int (nomark _)) (pw_and1 (pt_cmpR (op_neD hr.units) (pv 9) (pe_lst pa_nil) (nomark _))))))
      (pss_cons (ps_set (i := 10) nod rfl (Or.inl rfl) (pe_ix ix_list (pv 9) (pe_callC CD (hr.mono (by omega)) rfl (T.g "_law_draw") pass0 (pa_cons (pv 0) (pa_cons (pe_callB call_len_seq rfl (T.f "len") (by decide +kernel) (pa_cons (pv 9) pa_nil)) pa_nil))) (fun _ _ => rfl)))
      (pss_cons (ps_set (i := 11) nod rfl (Or.inl rfl) (pe_callC CB (hr.mono (by omega)) rfl (T.g "_law_bound") pass0 (pa_cons (pv 0) (pa_cons (pe_op op_cat (pv 1) (pv 5)) (pa_cons (pv 10) (pa_cons (pv 3) pa_nil))))))
      (pss_one (ps_ret (pe_tup (pa_cons pe_str (pa_cons (pv 10) (pa_cons (pv 11) (pa_cons (pe_callC GX (hr.mono (by omega)) rfl (T.g "_law_tree") pass0 (pa_cons (pv 0) (pa_cons (pv 1) (pa_cons (pv 2) (pa_cons (pv 3) (pa_cons (pe_op op_sub (pv 4) pe_int) (pa_cons (pe_op op_cat (pv 5) (pe_lst (pa_cons (pv 10) pa_nil))) pa_nil))))))) pa_nil)))))))))
      pss_nil)
    (C8.pss_cut (ps_if (PW.pt (pw_and (pt_cmpR op_eq (pv 6) pe_int (nomark _)) (pw_and (pt_cmpR op_gt (pe_ix ix_tup (pv 3) pe_int (fun _ _ => rfl)) pe_int (nomark _)) (pw_and1 (pt_cmpR op_gt (pv 4) pe_int (nomark _))))))
      (pss_cons (ps_set (i := 12) nod rfl (Or.inr rfl) (pe_op op_add pe_int (pe_callC CD (hr.mono (by omega)) rfl (T.g "_law_draw") pass0 (pa_cons (pv 0) (pa_cons pe_int pa_nil)))))
      (pss_cons (ps_set (i := 8) nod rfl (Or.inl rfl) (pe_ix ix_list (pv 1) (pe_callC CD (hr.mono (by omega)) rfl (T.g "_law_draw") pass0 (pa_cons (pv 0) (pa_cons (pe_callB call_len_seq rfl (T.f "len") (by decide +kernel) (pa_cons (pv 1) pa_nil)) pa_nil))) (fun _ _ => rfl)))
      (pss_cons (ps_setLc (i := 13) (own := [("_law_k", 7)]) (te := (tCall (spTree n) [] E0 (tCons (tVar 0) (tCons (tVar 1) (tCons (tVar 2) (tCons (tVar 3) (tCons (tOp (rI CDiv fun i j => .int (i / j)) (tOp (rI0 fun i j => .int (i - j)) (tVar 4) (tC (.int 1))) (tVar 12)) (tCons (tVar 5) tNil)))))))) (g := (gName 7)) (tt := tYes) rfl nod rfl rfl (sw_true rfl rfl rfl (by decide +kernel)) (pi_range1 rfl (T.f "range") (pa_cons (pv 12) pa_nil)) (blkOk_by (N := NTREE) (sc := defScope sTree) (by decide +kernel)) (fun _ _ _ _ _ => (pg_name (i := 7) nod rfl (Or.inl rfl))) (fun _ _ _ _ _ => pts_nil) (fun _ _ _ _ _ => (pe_callC GX (hr.mono (by omega)) rfl (T.g "_law_tree") pass0 (pa_cons (pv 0) (pa_cons (pv 1) (pa_cons (pv 2) (pa_cons (pv 3) (pa_cons (pe_op op_fdiv (pe_op op_sub (pv 4) pe_int) (pv 12)) (pa_cons (pv 5) pa_nil)))))))))
      (pss_one (ps_ret (pe_tup (pa_cons pe_str (pa_cons (pv 8) (pa_cons (pe_callTy call_tuple_of rfl (T.f "tuple") (by decide +kernel) (pa_cons (pv 13) pa_nil)) pa_nil)))))))))
      pss_nil)
    (pss_cons (ps_if (pt_cmpR op_lt (pv 4) pe_int (nomark _))
      (pss_one (ps_ret (pe_callC CL (hr.mono (by omega)) rfl (T.g "_law_leaf") pass0 (pa_cons (pv 0) (pa_cons (pe_op op_cat (pv 1) (pv 5)) pa_nil)))))
      pss_nil)
    (pss_cons (ps_set (i := 14) nod rfl (Or.inl rfl) (pe_ix ix_list (pe_lst (pa_cons pe_str (pa_cons pe_str (pa_cons pe_str pa_nil)))) (pe_callC CD (hr.mono (by omega)) rfl (T.g "_law_draw") pass0 (pa_cons (pv 0) (pa_cons pe_int pa_nil))) (fun _ _ => rfl)))
    (pss_cons (ps_set (i := 15) nod rfl (Or.inl rfl) (pe_op op_add pe_int (pe_callC CD (hr.mono (by omega)) rfl (T.g "_law_draw") pass0 (pa_cons (pv 0) (pa_cons (pe_op op_sub (pv 4) pe_int) pa_nil)))))
    (pss_cons (ps_set (i := 16) nod rfl (Or.inl rfl) (pe_callC GX (hr.mono (by omega)) rfl (T.g "_law_tree") pass0 (pa_cons (pv 0) (pa_cons (pv 1) (pa_cons (pv 2) (pa_cons (pv 3) (pa_cons (pv 15) (pa_cons (pv 5) pa_nil))))))))
    (pss_one (ps_ret (pe_tup (pa_cons (pv 14) (pa_cons (pv 16) (pa_cons (pe_callC GX (hr.mono (by omega)) rfl (T.g "_law_tree") pass0 (pa_cons (pv 0) (pa_cons (pv 1) (pa_cons (pv 2) (pa_cons (pv 3) (pa_cons (pe_op op_sub (pe_op op_sub (pv 4) pe_int) (pv 15)) (pa_cons (pv 5) pa_nil))))))) pa_nil))))))))))))))))), ?_⟩
    have leafQ : ∀ (H1 : Hp), StAt H1 st ns → SameBut st H H1 → ∀ p, H1 p = none → spLeaf [.ref st, .ref p] (upd H1 p (.lst (zs.map V.str ++ hs.map V.str))) Q E := fun H1 S1 B1 p hp => by
      have I1 := I.go S1 B1
      have s := upd_new (o := .lst (zs.map V.str ++ hs.map V.str)) hp
      have np : p ≠ st := fun z => by
        obtain ⟨_, _, _, g1, _⟩ := S1
        rw [z, g1] at hp
        cases hp
      refine ⟨st, p, ns, zs ++ hs, rfl, S1.same s, by rw [upd_same]; simp, np, ?_, ?_, fun z hz => ?_, fun H' t S' B' L' => ?_⟩
      · rw [List.length_append]; have := I.lz; omega
      · rw [List.length_append]; have := I.lz; have := I.lh; omega
      · rcases List.mem_append.mp hz with hz | hz
        · exact I.gz z hz
        · exact I.gh z hz
      obtain ⟨th, tr⟩ := leaf_tr L'
      exact k H' _ S' ((B1.trans (SameBut.of s)).trans B') (tr.mono (by omega)) r1 (Nat.le_refl _) (fun i hi => by cases hi)
    have szL : (zs.map V.str).length + (hs.map V.str).length ≤ sizeLine := by
      rw [List.length_map, List.length_map, sizeLine_eq]; have := I.lz; have := I.lh; omega
    refine ⟨_, rfl, st, 10, ns, rfl, by decide, by decide, I.S, fun pick H1 _ _ S1 B1 => ?_⟩
    have I1 := I.go S1 B1
    refine ⟨_, rfl, _, _, rfl, rfl, _, rfl, ?_⟩
    refine ite2 (fun _ => ?_) (fun h2 => ?_)
    · refine ite2 (fun _ => ?_) (fun h => absurd rfl h)
      exact ⟨_, rfl, _, rfl, _, rfl, NL, HL, _, _, rfl, rfl, I1.n, I1.h, szL, leafQ H1 S1 B1⟩
    have h2 : 2 ≤ room := by
      have h2 : ¬ (decide (room < 2) = true) := h2
      by_cases z : room < 2
      · exact absurd (decide_eq_true z) h2
      · omega
    refine ⟨_, rfl, rfl, _, rfl, ?_⟩
    refine ite2 (fun _ => ?_) (fun _ => ?_)
    · exact ⟨_, rfl, _, rfl, _, rfl, NL, HL, _, _, rfl, rfl, I1.n, I1.h, szL, leafQ H1 S1 B1⟩
    -- a negative
    refine ⟨_, rfl, rfl, _, rfl, ?_⟩
    refine ite2 (fun _ => ?_) (fun _ => ?_)
    · refine ⟨_, rfl, _, rfl, _, rfl, _, rfl, _, rfl, _, _, rfl, rfl, _, rfl, st, NL, IL, pl, HL, room - 1, ns, zs, is, hs, rfl, by omega, by omega, by omega, I1, fun H2 T2 S2 B2 t2 p2 d2 i2 => ⟨tsz (by show 2 ≤ 1000; decide), fun t ht => ?_⟩⟩
      refine tr_node (ts := [T2]) (own := []) S2 (B1.trans B2) ht (fun q hq => by rw [List.mem_singleton.mp hq]; exact t2) (fun q hq => by rw [List.mem_singleton.mp hq]; exact d2) (.neg _) ?_ (fun i hi => by cases hi) (fun i hi => i2 i (by simpa [ixs] using hi)) k
      show ((1 + (T2.p + 0) : Nat) : Int) ≤ room
      omega
    -- a shift
    refine ⟨_, rfl, rfl, _, rfl, ?_⟩
    refine ite2 (fun _ => ?_) (fun _ => ?_)
    · refine ⟨_, rfl, tsz (by show 2 ≤ 1000; decide), fun l hl => ?_⟩
      have s := upd_new (o := .lst [V.int 4, V.int 65]) hl
      have el : (upd H1 l (.lst [V.int 4, V.int 65])) l = some (.lst [V.int 4, V.int 65]) := upd_same
      have nl : l ≠ st := fun z => by
        obtain ⟨_, _, _, g1, _⟩ := S1
        rw [z, g1] at hl
        cases hl
      refine ⟨_, rfl, st, 2, ns, rfl, by decide, by decide, S1.same s, fun r H2 q0 q1 S2 B2 => ?_⟩
      obtain ⟨j, rfl⟩ := Int.eq_ofNat_of_zero_le q0
      have ej : ∃ m : Int, ([V.int 4, V.int 65])[j]? = some (V.int m) ∧ 0 < m ∧ m ≤ 65 := by
        match j, q1 with
        | 0, _ => exact ⟨4, rfl, by decide, by decide⟩
        | 1, _ => exact ⟨65, rfl, by decide, by decide⟩
        | j + 2, q1 => exact absurd q1 (by omega)
      obtain ⟨m, em, m0, m65⟩ := ej
      refine ⟨l, _, _, .int m, rfl, rfl, SqL.of (B2 _ _ nl el), atI_nat em, st, m, ns, rfl, m0, by omega, S2, fun kk H3 k0 k1 S3 B3 => ?_⟩
      have B13 := ((B1.trans (SameBut.of s)).trans B2).trans B3
      have I3 := I.go S3 B13
      refine ⟨_, rfl, _, rfl, _, rfl, _, rfl, _, rfl, _, _, rfl, rfl, _, rfl, st, NL, IL, pl, HL, room - 1, ns, zs, is, hs, rfl, by omega, by omega, by omega, I3, fun H4 T4 S4 B4 t4 p4 d4 i4 => ⟨_, rfl, tsz (by show 3 ≤ 1000; decide), fun t ht => ?_⟩⟩
      refine tr_node (ts := [T4]) (own := []) S4 (B13.trans B4) ht (fun q hq => by rw [List.mem_singleton.mp hq]; exact t4) (fun q hq => by rw [List.mem_singleton.mp hq]; exact d4) (.shift _ kk k0 (by omega)) ?_ (fun i hi => by cases hi) (fun i hi => i4 i (by simpa [ixs] using hi)) k
      show ((1 + (T4.p + 0) : Nat) : Int) ≤ room
      omega
    -- what is free
    refine ⟨_, rfl, IL, rfl, ⟨_, SqL.of I1.i⟩, fun D hD => ?_⟩
    have updd : ∀ (G : Hp) (o o' : HO), upd (upd G D o) D o' = upd G D o' := fun G o o' => by
      funext b
      by_cases hb : b = D
      · rw [hb, upd_same, upd_same]
      · rw [upd_ne hb, upd_ne hb, upd_ne hb]
    have upD : ∀ (o : HO), Same H1 (upd H1 D o) := fun o => upd_new hD
    refine lc_list (K := K) (a := IL) (xs := is.map V.str) (fun j H' => H' = upd H1 D (.lst (((is.take j).filter (fun z => !decide (z ∈ hs))).map V.str))) (by simp) (fun j H' _ eH => by rw [eH]; exact SqL.of (upD _ _ _ I1.i)) (fun j x H' hx eH => ?_) (fun H' eH => ?_)
    · subst eH
      obtain ⟨z, hj, rfl⟩ : ∃ z, is[j]? = some z ∧ V.str z = x := by
        rw [List.getElem?_map] at hx
        cases h : is[j]? with
        | none => rw [h] at hx; cases hx
        | some k => rw [h] at hx; exact ⟨k, rfl, by injection hx⟩
      refine ⟨rfl, _, rfl, _, rfl, HL, _, rfl, .inl (SqL.of (upD _ _ _ I1.h)), rfl, flat_strs _, _, rfl, ?_⟩
      have e2 : is.take (j + 1) = is.take j ++ [z] := by rw [List.take_add_one, hj]; rfl
      rw [if_pos rfl, inV_strs, e2]
      refine ite2 (fun h => ?_) (fun h => ?_)
      · refine ⟨_, rfl, _, upd_same, ?_, ?_⟩
        · rw [List.length_map, sizeLine_eq]
          have := List.length_filter_le (fun z => !decide (z ∈ hs)) (is.take j)
          have := List.length_take (i := j) (l := is)
          have := I.li
          omega
        · rw [updd, filt_pos (p := fun z => !decide (z ∈ hs)) h, List.map_append]
          rfl
      · rw [filt_neg (p := fun z => !decide (z ∈ hs)) h]
    rw [List.length_map, List.take_length] at eH
    generalize hfs : is.filter (fun z => !decide (z ∈ hs)) = fs at eH
    have gfs : ∀ z ∈ fs, GoodN z ∧ z ∉ hs := fun z hz => by
      rw [← hfs] at hz
      obtain ⟨a1, a2⟩ := List.mem_filter.mp hz
      exact ⟨I.gi z a1, fun y => by rw [decide_eq_true y] at a2; cases a2⟩
    have lfs : fs.length ≤ 10 := by
      rw [← hfs]
      have := List.length_filter_le (fun z => !decide (z ∈ hs)) is
      have := I.li
      omega
    subst eH
    have sD := upD (.lst (fs.map V.str))
    have eD : (upd H1 D (.lst (fs.map V.str))) D = some (.lst (fs.map V.str)) := upd_same
    have BD : SameBut st H (upd H1 D (.lst (fs.map V.str))) := B1.trans (SameBut.of sD)
    have SD : StAt (upd H1 D (.lst (fs.map V.str))) st ns := S1.same sD
    generalize upd H1 D (.lst (fs.map V.str)) = H2 at eD BD SD
    have I2 := I.go SD BD
    -- a sum
    refine ⟨fun σ H' => σ = tg st NL IL pl HL D room pick ∧ StAt H' st ns ∧ SameBut st H H', ?_, ?_⟩
    · refine ⟨_, rfl, _, _, rfl, rfl, _, rfl, ?_⟩
      refine ite2 (fun _ => ?_) (fun _ => ite2 (fun h => absurd h (by decide)) (fun _ => ⟨rfl, SD, BD⟩))
      refine ⟨_, rfl, HL, _, rfl, .inl (SqL.of I2.h), _, _, rfl, rfl, _, rfl, ?_⟩
      refine ite2 (fun h3 => ?_) (fun _ => ite2 (fun h => absurd h (by decide)) (fun _ => ⟨rfl, SD, BD⟩))
      have h3 : hs.length < 3 := by
        have h3 : decide (((hs.map V.str).length : Int) < 3) = true := h3
        have h3 := of_decide_eq_true h3
        rw [List.length_map] at h3
        omega
      refine ⟨_, rfl, tsz (by show 0 ≤ 1000; decide), fun p hp => ?_⟩
      have sp := upd_new (o := .lst []) hp
      have Bp := BD.trans (SameBut.of sp)
      have Sp' := SD.same sp
      have eDp := sp _ _ eD
      refine ⟨_, _, .lst (SqL.of eDp) (dp_strs fs), .lst (SqL.of upd_same) .nil, sh_strs fs (fun z hz => (gfs z hz).1), rfl, _, rfl, ?_⟩
      refine ite2 (fun h => ?_) (fun _ => ⟨rfl, Sp', Bp⟩)
      have fs1 : 1 ≤ fs.length := by
        cases fs with
        | nil => cases h
        | cons a b => simp
      clear h
      generalize upd (upd H1 D (.lst (fs.map V.str))) p (.lst []) = H3 at Bp Sp' eDp
      have lfm : (fs.map V.str).length = fs.length := by simp
      refine ⟨_, rfl, _, rfl, _, rfl, D, _, rfl, .inl (SqL.of eDp), st, _, ns, rfl, by omega, by omega, Sp', fun r H4 r0 q1 S4 B4 => ?_⟩
      obtain ⟨j, rfl⟩ := Int.eq_ofNat_of_zero_le r0
      obtain ⟨z, hz, ez⟩ := pick_str (zs := fs) (j := j) (by omega)
      obtain ⟨gz, nz⟩ := gfs z hz
      have I4 := I.go S4 (Bp.trans B4)
      refine ⟨D, _, _, .str z, rfl, rfl, SqL.of (B4 _ _ (strs_st Sp' eDp) eDp), atI_nat ez, ?_⟩
      refine ⟨_, rfl, _, rfl, _, rfl, NL, HL, _, _, rfl, rfl, I4.n, I4.h, szL, fun q hq => ?_⟩
      have sq := upd_new (o := .lst (zs.map V.str ++ hs.map V.str)) hq
      have nq : q ≠ st := fun z => by
        obtain ⟨_, _, _, g1, _⟩ := S4
        rw [z, g1] at hq
        cases hq
      have I4q := I4.go (S4.same sq) (SameBut.of sq)
      refine ⟨_, rfl, _, rfl, st, q, pl, ns, zs ++ hs, z, rfl, I4q.S, I4q.P, by rw [upd_same]; simp, nq, ?_, ?_, fun y hy => ?_, fun H5 b S5 B5 bn => ?_⟩
      · rw [List.length_append]; have := I.lz; omega
      · rw [List.length_append]; have := I.lz; have := I.lh; omega
      · rcases List.mem_append.mp hy with hy | hy
        · exact I.gz y hy
        · exact I.gh y hy
      have B05 := ((Bp.trans B4).trans (SameBut.of sq)).trans B5
      have I5 := I.go S5 B05
      refine ⟨_, rfl, _, rfl, _, rfl, _, rfl, _, rfl, _, rfl, _, rfl, _, _, rfl, rfl, _, rfl, _, rfl, tsz (by show 1 ≤ 1000; decide), fun l hl => ?_⟩
      have sl := upd_new (o := .lst [V.str z]) hl
      refine ⟨HL, l, _, _, rfl, rfl, sl _ _ I5.h, upd_same, ?_, fun u hu => ?_⟩
      · rw [List.length_map, sizeLine_eq]; show hs.length + 1 ≤ _; omega
      have su := upd_new (o := .lst (hs.map V.str ++ [V.str z])) hu
      have s5 := sl.trans su
      have I6 := I5.go (S5.same s5) (SameBut.of s5)
      refine ⟨st, NL, IL, pl, u, room - 1, ns, zs, is, hs ++ [z], rfl, by omega, by omega, by omega, ⟨I6.S, I6.P, I6.n, I6.i, by rw [upd_same]; simp, I.lz, I.li, by rw [List.length_append]; show hs.length + 1 ≤ 3; omega, I.gz, I.gi, fun y hy => ?_⟩, fun H7 T7 S7 B7 t7 p7 d7 i7 => ⟨tsz (by show 4 ≤ 1000; decide), fun t ht => ?_⟩⟩
      · rcases List.mem_append.mp hy with hy | hy
        · exact I.gh y hy
        · rw [List.mem_singleton.mp hy]; exact gz
      have B57 := (SameBut.of s5).trans B7
      obtain ⟨_, _, _, g5, _⟩ := id S5
      have bn7 : Bnd (upd H7 t (.tup [.str "sum", .str z, .ref b, .ref T7.a])) b z := (bn.sameT (SameT.but B57 g5)).sameT (SameT.of (upd_new ht))
      refine tr_node (ts := [T7]) (own := [z]) S7 (B05.trans B57) ht (fun q hq => by rw [List.mem_singleton.mp hq]; exact t7) (fun q hq => by rw [List.mem_singleton.mp hq]; exact d7) (.sum z b _ gz bn7) ?_ (fun i hi => ?_) (fun i hi hh => i7 i (by simpa [ixs] using hi) (List.mem_append_left _ hh)) k
      · show ((1 + (T7.p + 0) : Nat) : Int) ≤ room
        omega
      · obtain rfl := List.mem_singleton.mp hi
        exact ⟨fun hh => i7 i (by simpa [ixs] using hh) (List.mem_append_right _ List.mem_cons_self), nz⟩
    rintro σ H3 ⟨rfl, S3, B3⟩
    have I3 := I.go S3 B3
    -- a call
    refine ⟨fun σ H' => σ = tg st NL IL pl HL D room pick ∧ StAt H' st ns ∧ SameBut st H H', ?_, ?_⟩
    · refine ⟨_, rfl, rfl, _, rfl, ?_⟩
      refine ite2 (fun _ => ?_) (fun _ => ite2 (fun h => absurd h (by decide)) (fun _ => ⟨rfl, S3, B3⟩))
      obtain ⟨pa, pb, ep, _⟩ := I3.P
      refine ⟨_, rfl, pl, _, _, .int 1, rfl, rfl, SqT.of ep, rfl, _, _, rfl, rfl, _, rfl, ?_⟩
      refine ite2 (fun _ => ?_) (fun _ => ite2 (fun h => absurd h (by decide)) (fun _ => ⟨rfl, S3, B3⟩))
      refine ⟨_, rfl, _, _, rfl, rfl, _, rfl, ?_⟩
      refine ite2 (fun h4 => ?_) (fun _ => ⟨rfl, S3, B3⟩)
      have h4 : 4 < room := of_decide_eq_true (show decide (4 < room) = true from h4)
      refine ⟨_, rfl, st, 4, ns, rfl, by decide, by decide, S3, fun m H4 m0 m4 S4 B4 => ⟨_, _, rfl, rfl, ?_⟩⟩
      have I4 := I.go S4 (B3.trans B4)
      have lzm : (zs.map V.str).length = zs.length := by simp
      have lz := I.lz
      refine ⟨_, rfl, _, rfl, _, rfl, NL, _, rfl, .inl (SqL.of I4.n), st, _, ns, rfl, by omega, by omega, S4, fun r H5 r0 q1 S5 B5 => ?_⟩
      obtain ⟨j, rfl⟩ := Int.eq_ofNat_of_zero_le r0
      obtain ⟨z, hz, ez⟩ := pick_str (zs := zs) (j := j) (by omega)
      have B05 := (B3.trans B4).trans B5
      have I5 := I.go S5 B05
      refine ⟨NL, _, _, .str z, rfl, rfl, SqL.of I5.n, atI_nat ez, ?_⟩
      obtain ⟨mm, hm⟩ : ∃ mm : Nat, 1 + m = (mm : Int) := ⟨(1 + m).toNat, by omega⟩
      have hdiv : 1 ≤ (room - 1) / (mm : Int) ∧ (room - 1) / (mm : Int) ≤ room - 1 ∧ (mm : Int) * ((room - 1) / (mm : Int)) ≤ room - 1 := by
        have : mm = 1 ∨ mm = 2 ∨ mm = 3 ∨ mm = 4 := by omega
        rcases this with rfl | rfl | rfl | rfl <;> omega
      generalize hc : (room - 1) / (mm : Int) = c at hdiv
      refine ⟨_, rfl, _, rfl, by omega, by omega, fun D2 hD2 => ?_⟩
      have nD2 : D2 ≠ st := fun z => by
        obtain ⟨_, _, _, g1, _⟩ := S5
        rw [z, g1] at hD2
        cases hD2
      have h0D2 : H D2 = none := B05.none I.S S5 hD2
      refine lc_range (lo := 0) (n := (1 + m).toNat) (fun j H' => ∃ Ts : List Kd, Ts.length = j ∧ H' D2 = some (.lst (refs Ts)) ∧ StAt H' st ns ∧ SameBut st H H' ∧ ∀ q ∈ Ts, Tr n H' q ∧ (q.p : Int) ≤ c ∧ q.d ≤ q.p ∧ ∀ i ∈ q.ix, i ∉ hs)
        ⟨[], rfl, upd_same, StAt.new S5 S5 hD2, B05.new h0D2, fun q hq => by cases hq⟩ (fun i H6 hi hP => ?_) (fun H6 hP => ?_)
      · obtain ⟨Ts, lT, eT, S6, B6, hT⟩ := hP
        refine ⟨rfl, ?_⟩
        have I6 := I.go S6 B6
        refine ⟨_, rfl, _, rfl, _, rfl, _, rfl, _, rfl, _, _, rfl, rfl, _, rfl, _, _, rfl, rfl, ⟨by omega, by omega⟩, _, rfl, st, NL, IL, pl, HL, (room - 1) / (1 + m), ns, zs, is, hs, rfl, ?_, ?_, ?_, I6, fun H7 T7 S7 B7 t7 p7 d7 i7 => ?_⟩
        · rw [hm, hc]; omega
        · rw [hm, hc]; omega
        · rw [hm, hc]; omega
        rw [hm, hc] at p7
        obtain ⟨_, _, _, g6, _⟩ := id S6
        have e7 := B7 _ _ nD2 eT
        have lr : (refs Ts).length = Ts.length := by simp [refs]
        refine ⟨_, e7, by rw [lr, sizeLine_eq]; omega, Ts ++ [T7], by rw [List.length_append, lT]; rfl, by rw [upd_same]; simp [refs], StAt.new S7 S5 hD2, (B6.trans B7).new h0D2, fun q hq => ?_⟩
        have sT : SameT H7 (upd H7 D2 (.lst (refs Ts ++ [.ref T7.a]))) := SameT.but sameBut_upd e7
        rcases List.mem_append.mp hq with hq | hq
        · obtain ⟨a1, a2⟩ := hT q hq
          exact ⟨(a1.sameT (SameT.but B7 g6)).sameT sT, a2⟩
        · rw [List.mem_singleton.mp hq]
          exact ⟨t7.sameT sT, p7, d7, i7⟩
      · obtain ⟨Ts, lT, eT, S6, B6, hT⟩ := hP
        refine ⟨_, rfl, _, rfl, D2, _, rfl, .inl ⟨SqL.of eT, fun u hu => ⟨tsz (by show 3 ≤ 1000; decide), fun t ht => ?_⟩⟩⟩
        have su := upd_new (o := .tup (refs Ts)) hu
        have st' := upd_new (o := .tup [.str "call", .str z, .ref u]) ht
        have eu : (upd H6 u (.tup (refs Ts))) u = some (.tup (refs Ts)) := upd_same
        have lr : (refs Ts).length = Ts.length := by simp [refs]
        refine tr_node (ts := Ts) (own := []) (S6.same su) (B6.trans (SameBut.of su)) ht (fun q hq => (hT q hq).1.same su) (fun q hq => (hT q hq).2.2.1) (.call z _ (I.gz z hz) (st' _ _ eu) (by omega) (by omega)) ?_ (fun i hi => by cases hi) (fun i hi => ?_) k
        · have key := sumP_le (c := c) (ts := Ts) (fun q hq => (hT q hq).2.1)
          have e : (Ts.length : Int) = mm := by omega
          rw [e] at key
          omega
        · obtain ⟨q, hq, hi⟩ := mem_ixs.mp hi
          exact (hT q hq).2.2.2 i hi
    rintro σ H4 ⟨rfl, S4, B4⟩
    have I4 := I.go S4 B4
    refine ⟨_, rfl, _, _, rfl, rfl, _, rfl, ?_⟩
    refine ite2 (fun _ => ?_) (fun h3 => ?_)
    · exact ⟨_, rfl, _, rfl, _, rfl, NL, HL, _, _, rfl, rfl, I4.n, I4.h, szL, leafQ H4 S4 B4⟩
    have h3 : 3 ≤ room := by
      have h3 : ¬ (decide (room < 3) = true) := h3
      by_cases z : room < 3
      · exact absurd (decide_eq_true z) h3
      · omega
    -- two trees
    refine ⟨tsz (by show 3 ≤ 1000; decide), fun l hl => ?_⟩
    have sl := upd_new (o := .lst [V.str "plus", V.str "minus", V.str "times"]) hl
    have el : (upd H4 l (.lst [V.str "plus", V.str "minus", V.str "times"])) l = some (.lst [V.str "plus", V.str "minus", V.str "times"]) := upd_same
    have nl : l ≠ st := fun z => by
      obtain ⟨_, _, _, g1, _⟩ := S4
      rw [z, g1] at hl
      cases hl
    refine ⟨_, rfl, st, 3, ns, rfl, by decide, by decide, S4.same sl, fun r H5 q0 q1 S5 B5 => ?_⟩
    obtain ⟨j, rfl⟩ := Int.eq_ofNat_of_zero_le q0
    obtain ⟨kd, ek, hk⟩ : ∃ kd : Str, ([V.str "plus", V.str "minus", V.str "times"])[j]? = some (V.str kd) ∧ (kd = "plus" ∨ kd = "minus" ∨ kd = "times") := by
      match j, q1 with
      | 0, _ => exact ⟨_, rfl, .inl rfl⟩
      | 1, _ => exact ⟨_, rfl, .inr (.inl rfl)⟩
      | 2, _ => exact ⟨_, rfl, .inr (.inr rfl)⟩
      | j + 3, q1 => exact absurd q1 (by omega)
    refine ⟨l, _, _, .str kd, rfl, rfl, SqL.of (B5 _ _ nl el), atI_nat ek, ?_⟩
    have B05 := (B4.trans (SameBut.of sl)).trans B5
    refine ⟨_, rfl, _, rfl, _, _, rfl, rfl, st, room - 2, ns, rfl, by omega, by omega, S5, fun f H6 f0 f1 S6 B6 => ⟨_, _, rfl, rfl, ?_⟩⟩
    have B06 := B05.trans B6
    refine ⟨_, rfl, _, rfl, _, rfl, _, rfl, _, rfl, _, rfl, st, NL, IL, pl, HL, 1 + f, ns, zs, is, hs, rfl, by omega, by omega, by omega, I.go S6 B06, fun H7 T7 S7 B7 t7 p7 d7 i7 => ?_⟩
    have B07 := B06.trans B7
    refine ⟨_, rfl, _, rfl, _, rfl, _, rfl, _, rfl, _, rfl, _, rfl, _, _, rfl, rfl, _, rfl, _, _, rfl, rfl, _, rfl, st, NL, IL, pl, HL, room - 1 - (1 + f), ns, zs, is, hs, rfl, by omega, by omega, by omega, I.go S7 B07, fun H8 T8 S8 B8 t8 p8 d8 i8 => ⟨tsz (by show 3 ≤ 1000; decide), fun t ht => ?_⟩⟩
    obtain ⟨_, _, _, g7, _⟩ := id S7
    have t7' := t7.sameT (SameT.but B8 g7)
    refine tr_node (ts := [T7, T8]) (own := []) S8 (B07.trans B8) ht (fun q hq => ?_) (fun q hq => ?_) (.bin kd hk _ _) ?_ (fun i hi => by cases hi) (fun i hi => ?_) k
    · rcases List.mem_cons.mp hq with rfl | hq
      · exact t7'
      · rw [List.mem_singleton.mp hq]; exact t8
    · rcases List.mem_cons.mp hq with rfl | hq
      · exact d7
      · rw [List.mem_singleton.mp hq]; exact d8
    · show ((1 + (T7.p + (T8.p + 0)) : Nat) : Int) ≤ room
      omega
    · obtain ⟨q, hq, hi'⟩ := mem_ixs.mp hi
      rcases List.mem_cons.mp hq with rfl | hq
      · exact i7 i hi'
      · rw [List.mem_singleton.mp hq] at hi'; exact i8 i hi'

end
end K1
set_option Elab.async false
set_option linter.all false
set_option maxRecDepth 100000
set_option maxHeartbeats 8000000
namespace K1
open PySem PySem.Spec PyProof.Rows L2 He Sw L2H
section
variable {P : Program} {w : World} {K : PySem.W.Frag} {mg : Str → Option Value} {base : Heap}
/-! ### the law -/
theorem trN {H : Hp} {t : Addr} {th : List V} {ts : List Kd} (e : H t = some (.tup th)) (sh : TShp H th (refs ts) []) (r : ∀ q ∈ ts, Tr 30 H q) : Tr 31 H ⟨t, 1 + maxD ts, 1 + sumP ts, [] ++ ixs ts, "", "", th⟩ :=
  ⟨ts, ⟨[], e, sh, rfl, rfl, rfl, fun i hi => by cases hi⟩, r⟩
theorem frN {H : Hp} {k T : Kd} {fs ts : List Kd} {ps : List (Kd × Kd)} (hm : FmD K H k) (kp : k.p = 1 + sumP (ps.map (·.1))) (kd : k.d = 1 + maxD (ps.map (·.1))) (ki : k.ix = [] ++ ixs (ps.map (·.1)))
    (tp : T.p = 1 + sumP (ps.map (·.2))) (td : T.d = 1 + maxD (ps.map (·.2))) (ti : T.ix = [] ++ ixs (ps.map (·.2))) (e : H T.a = some (.tup T.th)) (mt : Mt H k T fs ts ps) (r : ∀ q ∈ ps, FR K 30 H q.1 q.2) : FR K 31 H k T := by
  obtain ⟨e1, e2, e3⟩ := pairs_eq ps r
  exact ⟨by rw [kp, tp, e1], by rw [kd, td, e2], by rw [ki, ti, e3], e, hm.node, fs, ts, ps, mt, r⟩
/-- what stands while the law runs -/
structure LI (K : PySem.W.Frag) (H : Hp) (T1 T2 k1 k2 : Kd) : Prop where
  t1 : Tr 30 H T1
  t2 : Tr 30 H T2
  f1 : FR K 30 H k1 T1
  f2 : FR K 30 H k2 T2
  m1 : FmD K H k1
  m2 : FmD K H k2
theorem LI.sameT {H H' : Hp} {T1 T2 k1 k2 : Kd} (h : LI K H T1 T2 k1 k2) (s : SameT H H') : LI K H' T1 T2 k1 k2 := ⟨h.t1.sameT s, h.t2.sameT s, h.f1.sameT s, h.f2.sameT s, h.m1.sameT s, h.m2.sameT s⟩
theorem LI.same {H H' : Hp} {T1 T2 k1 k2 : Kd} (h : LI K H T1 T2 k1 k2) (s : Same H H') : LI K H' T1 T2 k1 k2 := h.sameT (SameT.of s)
abbrev nt (T1 T2 : Kd) : L2.St → Prop := fun _ => True
def spLaw (K : PySem.W.Frag) : Sp := fun vs H Q _ => ∃ (a : Addr) (ns : List Int), vs = [.ref a] ∧ SqL K H a (ns.map V.int) ∧ ∀ H', Q (.bl true) H'
abbrev lgs (a st NL T1 T2 k1 k2 R kc Tc : Addr) (room : Int) (v11 v12 v13 v14 : Option V) : L2.St := [some (.ref a), some (.ref st), some (.int room), some (.ref NL), some (.ref T1), some (.ref T2), some (.ref k1), some (.ref k2), some (.ref R), some (.ref kc), some (.ref Tc), v11, v12, v13, v14]
theorem scLaw : FnScope ["_law_script", "_law_state", "_law_room", "_law_names_here", "_law_tree_here", "_law_other", "_law_formula", "_law_second", "_law_row", "_law_call", "_law_both", "_law_one", "_law_joined", "_law_due", "_law_k"] ["_law_script"] (defScope sLaw) := ⟨rfl, rfl, rfl, by decide +kernel, rfl, by decide +kernel, by decide +kernel⟩
theorem ok_law {fd : FuncData} (T : Txt K mg) (F : FnG K "law" sLaw fd) (CD : Cal P w K mg base CX0 1 (ga K "_law_draw") ["_law_state", "_law_many"] spDraw) (CN : Cal P w K mg base CX0 2 (ga K "_law_names") ["_law_state", "_law_many"] spNames)
    (CT : Cal P w K mg base CX0 34 (ga K "_law_tree") ["_law_state", "_law_names_here", "_law_indexes", "_law_plan", "_law_room", "_law_hidden"] (spTree 30))
    (CM : Cal P w K mg base CX0 75 (ga K "_law_made") ["_law_tree_here"] (spMade K 30)) (CS : Cal P w K mg base CX0 34 (ga K "_law_same") ["_law_formula", "_law_tree_here"] (spSame K 31)) (CZ : Cal P w K mg base CX0 33 (ga K "_law_sizes") ["_law_formula", "_law_tree_here"] (spSizes K 31))
    (CNa : Cal P w K mg base CX0 3 (ma K (ga K "Name") "__init__") ["self", "name"] (spNameI K)) (CCa : Cal P w K mg base CX0 3 (ma K (ga K "Call") "__init__") ["self", "name", "things"] (spCallI K))
    (CSb : Cal P w K mg base CX0 3 (ma K (ga K "Formula") "__sub__") ["self", "other"] (spBin K "minus")) (CNg : Cal P w K mg base CX0 3 (ma K (ga K "Formula") "__neg__") ["self"] (spNeg K)) (CSh : Cal P w K mg base CX0 4 (ma K (ga K "Formula") "__lshift__") ["self", "other"] (spShl K)) :
    FnOk P w K mg base CX0 76 (ga K "law") fd ["_law_script"] (spLaw K) := by
  refine F.ok scLaw (fun vs H Q E h => ?_) (fun cdv A outer s H vs Q E hr h => ?_)
  · obtain ⟨a, ns, rfl, _⟩ := h
    rfl
  obtain ⟨a, ns, rfl, hS, k⟩ := h
  have nod := scLaw.nd
  refine ⟨_, PSs.nox (pss_cons (ps_set (i := 1) nod rfl (Or.inl rfl) (pe_lst (pa_cons (pe_callTy call_list_of rfl (T.f "list") (by decide +kernel) (pa_cons (pv 0) pa_nil)) (pa_cons pe_int (pa_cons pe_int (pa_cons pe_int pa_nil))))))
  (pss_cons (ps_set (i := 2) nod rfl (Or.inl rfl) (pe_op op_add pe_int (pe_callC CD (hr.mono (by omega)) rfl (T.g "_law_draw") pass0 (pa_cons (pv 1) (pa_cons pe_int pa_nil)))))
  (pss_cons (ps_set (i := 3) nod rfl (Or.inl rfl) (pe_callC CN (hr.mono (by omega)) rfl (T.g "_law_names") pass0 (pa_cons (pv 1) (pa_cons pe_int pa_nil))))
  (pss_cons (ps_set (i := 4) nod rfl (Or.inl rfl) (pe_callC CT (hr.mono (by omega)) rfl (T.g "_law_tree") pass0 (pa_cons (pv 1) (pa_cons (pv 3) (pa_cons (pv 3) (pa_cons (pe_tup (pa_cons pe_int (pa_cons (pe_op op_pow pe_int pe_int) (pa_cons pe_int pa_nil)))) (pa_cons (pv 2) (pa_cons (pe_lst pa_nil) pa_nil))))))))
  (pss_cons (ps_set (i := 5) nod rfl (Or.inl rfl) (pe_callC CT (hr.mono (by omega)) rfl (T.g "_law_tree") pass0 (pa_cons (pv 1) (pa_cons (pv 3) (pa_cons (pv 3) (pa_cons (pe_tup (pa_cons (pe_op op_pow pe_int pe_int) (pa_cons pe_int (pa_cons pe_int pa_nil)))) (pa_cons (pe_op op_add pe_int (pe_callC CD (hr.mono (by omega)) rfl (T.g "_law_draw") pass0 (pa_cons (pv 1) (pa_cons pe_int pa_nil)))) (pa_cons (pe_lst pa_nil) pa_nil))))))))
  (pss_cons (ps_set (i := 6) nod rfl (Or.inl rfl) (pe_callC CM (hr.mono (by omega)) rfl (T.g "_law_made") pass0 (pa_cons (pv 4) pa_nil)))
  (pss_cons (ps_set (i := 7) nod rfl (Or.inl rfl) (pe_callC CM (hr.mono (by omega)) rfl (T.g "_law_made") pass0 (pa_cons (pv 5) pa_nil)))
  (pss_cons (ps_if (PW.pt (pw_or (pt_not (pt_val (pe_callC CS (hr.mono (by omega)) rfl (T.g "_law_same") pass0 (pa_cons (pv 6) (pa_cons (pv 4) pa_nil))))) (pw_or1 (pt_not (pt_val (pe_callC CZ (hr.mono (by omega)) rfl (T.g "_law_sizes") pass0 (pa_cons (pv 6) (pa_cons (pv 4) pa_nil))))))))
    (pss_one (ps_ret pe_bl))
    pss_nil)
  (pss_cons (ps_set (i := 8) nod rfl (Or.inl rfl) (pe_lst (pa_cons (pv 6) (pa_cons (pv 7) pa_nil))))
  (pss_cons (ps_set (i := 9) nod rfl (Or.inl rfl) (pe_makeC (T.ins "Call" (by decide +kernel)).mkr CCa (hr.mono (by omega)) rfl (T.g "Call") pass0 (pa_cons (pe_ix ix_list (pv 3) pe_int (fun _ _ => rfl)) (pa_cons (pv 8) pa_nil))))
  (pss_cons (ps_asg (pe_makeC (T.ins "Name" (by decide +kernel)).mkr CNa (hr.mono (by omega)) rfl (T.g "Name") pass0 (pa_cons (pe_ix ix_list (pv 3) pe_int (fun _ _ => rfl)) pa_nil)) (pg_sub (pv 8) pe_int set_list))
  (pss_cons (ps_expr (pe_bm PySem.F.plainAttrs_list PySem.F.slot_list_append PySem.F.type_list_append mt_append (pv 8) (pa_cons (pv 6) pa_nil)))
  (pss_cons (ps_set (i := 10) nod rfl (Or.inl rfl) (pe_tup (pa_cons pe_str (pa_cons (pe_ix ix_list (pv 3) pe_int (fun _ _ => rfl)) (pa_cons (pe_tup (pa_cons (pv 4) (pa_cons (pv 5) pa_nil))) pa_nil)))))
  (pss_cons (ps_if (PW.pt (pw_or (pt_not (pt_val (pe_callC CS (hr.mono (by omega)) rfl (T.g "_law_same") pass0 (pa_cons (pv 9) (pa_cons (pv 10) pa_nil))))) (pw_or1 (pt_not (pt_val (pe_callC CZ (hr.mono (by omega)) rfl (T.g "_law_sizes") pass0 (pa_cons (pv 9) (pa_cons (pv 10) pa_nil))))))))
    (pss_one (ps_ret pe_bl))
    pss_nil)
  (pss_cons (ps_for PassesOwn.never rfl (pi_list (pe_lst (pa_cons (pv 4) (pa_cons (pv 5) pa_nil)))) (pg_name (i := 11) nod rfl (Or.inl rfl))
    (pss_cons (ps_set (i := 12) nod rfl (Or.inl rfl) (pe_op (op_ownC CSb (hr.mono (by omega)) pass0 rfl) (pe_callC CM (hr.mono (by omega)) rfl (T.g "_law_made") pass0 (pa_cons (pv 11) pa_nil)) (pv 7)))
    (pss_cons (ps_set (i := 13) nod rfl (Or.inl rfl) (pe_tup (pa_cons pe_str (pa_cons (pv 11) (pa_cons (pv 5) pa_nil)))))
    (pss_one (ps_if (PW.pt (pw_or (pt_not (pt_val (pe_callC CS (hr.mono (by omega)) rfl (T.g "_law_same") pass0 (pa_cons (pv 12) (pa_cons (pv 13) pa_nil))))) (pw_or1 (pt_not (pt_val (pe_callC CZ (hr.mono (by omega)) rfl (T.g "_law_sizes") pass0 (pa_cons (pv 12) (pa_cons (pv 13) pa_nil))))))))
      (pss_one (ps_ret pe_bl))
      pss_nil)))))
  (pss_cons (ps_if (PW.pt (pw_or (pt_not (pt_val (pe_callC CS (hr.mono (by omega)) rfl (T.g "_law_same") pass0 (pa_cons (pe_un (un_ownC CNg (hr.mono (by omega)) pass0) (pv 6)) (pa_cons (pe_tup (pa_cons pe_str (pa_cons (pv 4) pa_nil))) pa_nil))))) (pw_or1 (pt_not (pt_val (pe_callC CS (hr.mono (by omega)) rfl (T.g "_law_same") pass0 (pa_cons (pe_op (op_ownIC CSh (hr.mono (by omega)) pass0) (pv 7) pe_int) (pa_cons (pe_tup (pa_cons pe_str (pa_cons (pv 5) (pa_cons pe_int pa_nil)))) pa_nil))))))))
    (pss_one (ps_ret pe_bl))
    pss_nil)
  (pss_cons (ps_for PassesOwn.never rfl (pi_range1 rfl (T.f "range") (pa_cons pe_int pa_nil)) (pg_name (i := 14) nod rfl (Or.inl rfl))
    (pss_one (ps_if (PW.pt (pw_or (pt_not (pt_val (pe_callC CS (hr.mono (by omega)) rfl (T.g "_law_same") pass0 (pa_cons (pv 6) (pa_cons (pv 4) pa_nil))))) (pw_or (pt_not (pt_val (pe_callC CS (hr.mono (by omega)) rfl (T.g "_law_same") pass0 (pa_cons (pv 7) (pa_cons (pv 5) pa_nil))))) (pw_or1 (pt_not (pt_val (pe_callC CZ (hr.mono (by omega)) rfl (T.g "_law_sizes") pass0 (pa_cons (pv 7) (pa_cons (pv 5) pa_nil)))))))))
      (pss_one (ps_ret pe_bl))
      pss_nil)))
  (pss_one (ps_ret (pe_and (pe_callC CS (hr.mono (by omega)) rfl (T.g "_law_same") pass0 (pa_cons (pe_callC CM (hr.mono (by omega)) rfl (T.g "_law_made") pass0 (pa_cons (pv 4) pa_nil)) (pa_cons (pv 4) pa_nil))) (pe_one (pe_callC CS (hr.mono (by omega)) rfl (T.g "_law_same") pass0 (pa_cons (pv 9) (pa_cons (pv 10) pa_nil)))))))))))))))))))))))), ?_⟩
  refine ⟨_, rfl, a, _, rfl, .inl hS, fun l hl => ⟨tsz (by show 4 ≤ 1000; decide), fun st hst => ?_⟩⟩
  have nls : l ≠ st := fun e => by
    rw [← e, upd_same] at hst
    cases hst
  generalize hX : upd (upd H l _) st _ = H1
  have S1 : StAt H1 st (l, ns) := ⟨0, 0, 0, by rw [← hX, upd_same], by rw [← hX, upd_ne nls, upd_same], by decide, by decide, by decide, by decide⟩
  clear hX hst
  refine ⟨_, rfl, st, 30, (l, ns), rfl, by decide, by decide, S1, fun r H2 r0 r1 S2 B2 => ⟨_, _, rfl, rfl, ?_⟩⟩
  refine ⟨_, rfl, st, (l, ns), rfl, S2, fun NL H3 zs lz gz S3 B3 hN eN => ?_⟩
  -- the trees
  refine ⟨_, rfl, _, rfl, _, rfl, _, _, rfl, rfl, ⟨by decide, by decide, by decide⟩, tsz (by show 3 ≤ 1000; decide), fun pl hpl => ⟨_, rfl, tsz (by show 0 ≤ 1000; decide), fun HL hHL => ?_⟩⟩
  have npl : pl ≠ HL := fun z => by rw [← z, upd_same] at hHL; cases hHL
  have I4 : TIn st NL NL pl HL (l, ns) zs zs [] (upd (upd H3 pl (.tup [.int 5, .int (10 ^ (29 : Int).toNat), .int 1])) HL (.lst [])) := by
    have s := (upd_new (o := .tup [.int 5, .int (10 ^ (29 : Int).toNat), .int 1]) hpl).trans (upd_new (o := .lst []) hHL)
    exact ⟨S3.same s, ⟨5, _, by rw [upd_ne npl, upd_same], by decide, by decide, by decide, by decide⟩, s _ _ eN, s _ _ eN, upd_same, by omega, by omega, by decide, gz, gz, fun z hz => by cases hz⟩
  have eN4 := I4.n
  generalize upd (upd H3 pl (.tup [.int 5, .int (10 ^ (29 : Int).toNat), .int 1])) HL (.lst []) = H4 at I4 eN4
  refine ⟨st, NL, NL, pl, HL, 1 + r, (l, ns), zs, zs, [], rfl, by omega, by omega, by omega, I4, fun H5 T1 S5 B5 t1 p1 d1 i1 => ?_⟩
  have eN5 := B5 _ _ (strs_st I4.S eN4) eN4
  refine ⟨_, rfl, _, rfl, _, rfl, _, _, rfl, rfl, ⟨by decide, by decide, by decide⟩, tsz (by show 3 ≤ 1000; decide), fun pl2 hpl2 => ?_⟩
  have s5 := upd_new (o := .tup [.int (10 ^ (6 : Int).toNat), .int 0, .int 1]) hpl2
  have e5 : (upd H5 pl2 (.tup [.int (10 ^ (6 : Int).toNat), .int 0, .int 1])) pl2 = some (.tup [.int (10 ^ (6 : Int).toNat), .int 0, .int 1]) := upd_same
  have np2 : pl2 ≠ st := fun z => by
    obtain ⟨_, _, _, g1, _⟩ := S5
    rw [z, g1] at hpl2
    cases hpl2
  refine ⟨_, rfl, st, 12, (l, ns), rfl, by decide, by decide, S5.same s5, fun r' H6 q0 q1 S6 B6 => ⟨_, _, rfl, rfl, tsz (by show 0 ≤ 1000; decide), fun HL2 hHL2 => ?_⟩⟩
  have s6 := upd_new (o := .lst []) hHL2
  have B56 := (SameBut.of (a := st) s5).trans B6
  have eN6 := B56 _ _ (strs_st S5 eN5) eN5
  have I6 : TIn st NL NL pl2 HL2 (l, ns) zs zs [] (upd H6 HL2 (.lst [])) :=
    ⟨S6.same s6, ⟨_, 0, s6 _ _ (B6 _ _ np2 e5), by decide, by decide, by decide, by decide⟩, s6 _ _ eN6, s6 _ _ eN6, upd_same, by omega, by omega, by decide, gz, gz, fun z hz => by cases hz⟩
  obtain ⟨_, _, _, g5, _⟩ := id S5
  have t1 := (t1.sameT (SameT.but B56 g5)).same s6
  have eN7 := I6.n
  generalize upd H6 HL2 (.lst []) = H7 at I6 t1 eN7
  refine ⟨st, NL, NL, pl2, HL2, 1 + r', (l, ns), zs, zs, [], rfl, by omega, by omega, by omega, I6, fun H8 T2 S8 B8 t2 p2 d2 i2 => ?_⟩
  obtain ⟨_, _, _, g7, _⟩ := id I6.S
  have t1 := t1.sameT (SameT.but B8 g7)
  have eN8 := B8 _ _ (strs_st I6.S eN7) eN7
  -- the formulas
  refine ⟨_, rfl, T1, rfl, t1, by omega, by omega, fun H9 k1 s9 m1 f1 => ?_⟩
  refine ⟨_, rfl, T2, rfl, t2.same s9, by omega, by omega, fun HA k2 sA m2 f2 => ?_⟩
  have I : LI K HA T1 T2 k1 k2 := ⟨t1.same (s9.trans sA), t2.same (s9.trans sA), f1.same sA, f2, m1.same sA, m2⟩
  have eN := (s9.trans sA) _ _ eN8
  clear t1 t2 f1 f2 m1 m2
  obtain ⟨kp1, kd1, kx1⟩ := I.f1.eqs
  obtain ⟨kp2, kd2, kx2⟩ := I.f2.eqs
  refine ⟨_, rfl, _, rfl, k1, T1, rfl, I.f1.mono (by decide), _, rfl, ?_⟩
  refine ite2 (fun h => Bool.noConfusion (show false = true from h)) (fun _ => ?_)
  refine ⟨_, rfl, _, rfl, k1, T1, 30, rfl, I.f1, I.t1.mono (by decide), fun HB sB => ⟨_, rfl, ?_⟩⟩
  refine ite2 (fun h => Bool.noConfusion (show false = true from h)) (fun _ => ?_)
  have I := I.same sB
  have eN := sB _ _ eN
  clear sB
  obtain ⟨z0, hz0, ez0⟩ := pick_str (zs := zs) (j := 0) (by omega)
  obtain ⟨z1, hz1, ez1⟩ := pick_str (zs := zs) (j := 1) (by omega)
  -- the row and the call
  refine ⟨_, rfl, _, rfl, tsz (by show 2 ≤ 1000; decide), fun R hR => ?_⟩
  have sR := upd_new (o := .lst (refs [k1, k2])) hR
  have eR : (upd HB R (.lst (refs [k1, k2]))) R = some (.lst (refs [k1, k2])) := upd_same
  have nNR : NL ≠ R := ne_of_none eN hR
  have I := I.same sR
  have eN := sR _ _ eN
  change tSeq _ _ _ _ (upd HB R (.lst (refs [k1, k2])))
  generalize upd HB R (.lst (refs [k1, k2])) = HC at I eN eR
  have fit2 : Fits [k1, k2] := ⟨by show 1 + (k1.p + (k2.p + 0)) ≤ 300; omega, by show 1 + max k1.d (max k2.d 0) ≤ 40; omega⟩
  refine ⟨_, rfl, NL, _, _, .str z0, rfl, rfl, SqL.of eN, atI_nat (j := 0) ez0, _, rfl, fun x dx hx hdx ne => ?_⟩
  have s3 : Same HC (upd (upd HC dx (.own x)) x (.ins (ga K "Call") dx [])) := fun b o q => by rw [upd_ne (ne_of_none q hx), upd_ne (ne_of_none q hdx)]; exact q
  have fk : ∀ q ∈ [k1, k2], FmD K HC q := fun q hq => by
    rcases List.mem_cons.mp hq with rfl | hq
    · exact I.m1
    · rw [List.mem_singleton.mp hq]; exact I.m2
  refine ⟨x, _, dx, R, z0, [k1, k2], rfl, gz z0 hz0, upd_same, T.ins _ (by decide +kernel), s3 _ _ eR, (by show 1 ≤ 2; decide), (by show 2 ≤ 4; decide), fun q hq => (fk q hq).same s3, fit2, fun HD t u sb e5 et eu => ⟨rfl, ?_⟩⟩
  obtain ⟨a1, mc⟩ := made (K := K) (C := "Call") (own := []) (ks := [k1, k2]) (Same.refl HC) hx hdx sb e5 et (.call z0 _ eu) fk fit2
  have I := I.same a1
  have eN := a1 _ _ eN
  have eR := a1 _ _ eR
  clear s3 sb a1 fk
  -- the row is spoilt
  refine ⟨_, rfl, NL, _, _, .str z1, rfl, rfl, SqL.of eN, atI_nat (j := 1) ez1, fun x2 dx2 hx2 hdx2 ne2 => ⟨x2, _, dx2, z1, rfl, gz z1 hz1, upd_same, T.ins _ (by decide +kernel), fun HE t2 sb2 e6 et2 => ⟨rfl, ?_⟩⟩⟩
  obtain ⟨a2, m3⟩ := made (K := K) (C := "Name") (own := []) (ks := []) (Same.refl HD) hx2 hdx2 sb2 e6 et2 (.nam z1) (fun q hq => by cases hq) fits0
  have I := I.same a2
  have eN := a2 _ _ eN
  have eR := a2 _ _ eR
  have mc := mc.same a2
  have eu := a2 _ _ eu
  clear a2 m3 sb2 e6 et2 e5 et
  refine ⟨_, rfl, R, _, _, 0, rfl, rfl, eR, rfl, ?_⟩
  have b1 : SameBut R HE (upd HE R (.lst ([V.ref k1.a, V.ref k2.a].set 0 (.ref x2)))) := sameBut_upd
  have eR2 : (upd HE R (.lst ([V.ref k1.a, V.ref k2.a].set 0 (.ref x2)))) R = some (.lst [V.ref x2, V.ref k2.a]) := upd_same
  have I := I.sameT (SameT.but b1 eR)
  have mc := mc.sameT (SameT.but b1 eR)
  have eN := b1 _ _ nNR eN
  have nuR : u ≠ R := fun z => by rw [z, eR] at eu; cases eu
  have eu := b1 _ _ nuR eu
  change tSeq _ _ _ _ (upd HE R (.lst ([V.ref k1.a, V.ref k2.a].set 0 (.ref x2))))
  generalize upd HE R (.lst ([V.ref k1.a, V.ref k2.a].set 0 (.ref x2))) = HF at I mc eN eu eR2
  refine ⟨_, rfl, .inl ⟨rfl, _, SqL.of eR2⟩, _, rfl, R, _, _, rfl, rfl, eR2, by rw [sizeLine_eq]; show 2 < _; decide, ?_⟩
  have b2 : SameBut R HF (upd HF R (.lst ([V.ref x2, V.ref k2.a] ++ [V.ref k1.a]))) := sameBut_upd
  have I := I.sameT (SameT.but b2 eR2)
  have mc := mc.sameT (SameT.but b2 eR2)
  have eN := b2 _ _ nNR eN
  have eu := b2 _ _ nuR eu
  change tSeq _ _ _ _ (upd HF R (.lst ([V.ref x2, V.ref k2.a] ++ [V.ref k1.a])))
  generalize upd HF R (.lst ([V.ref x2, V.ref k2.a] ++ [V.ref k1.a])) = HG at I mc eN eu
  clear eR eR2 b1 b2
  -- the call's tree
  refine ⟨_, rfl, NL, _, _, .str z0, rfl, rfl, SqL.of eN, atI_nat (j := 0) ez0, _, rfl, _, rfl, tsz (by show 2 ≤ 1000; decide), fun u2 hu2 => ⟨tsz (by show 3 ≤ 1000; decide), fun tb htb => ?_⟩⟩
  have s1 := upd_new (o := .tup [V.ref T1.a, V.ref T2.a]) hu2
  have eu2 : (upd HG u2 (.tup [V.ref T1.a, V.ref T2.a])) u2 = some (.tup [V.ref T1.a, V.ref T2.a]) := upd_same
  have s2 := upd_new (o := .tup [V.str "call", .str z0, .ref u2]) htb
  have eTb : (upd (upd HG u2 (.tup [V.ref T1.a, V.ref T2.a])) tb (.tup [V.str "call", .str z0, .ref u2])) tb = some (.tup [V.str "call", .str z0, .ref u2]) := upd_same
  have eu2 := s2 _ _ eu2
  have I := I.same (s1.trans s2)
  have mc := mc.same (s1.trans s2)
  have eu := (s1.trans s2) _ _ eu
  have eN := (s1.trans s2) _ _ eN
  change tSeq _ _ _ _ (upd (upd HG u2 (.tup [V.ref T1.a, V.ref T2.a])) tb (.tup [V.str "call", .str z0, .ref u2]))
  generalize upd (upd HG u2 (.tup [V.ref T1.a, V.ref T2.a])) tb (.tup [V.str "call", .str z0, .ref u2]) = HH at I mc eu eN eu2 eTb
  clear s1 s2
  have tc := trN eTb (.call (as := refs [T1, T2]) z0 (gz z0 hz0) eu2 (by show 1 ≤ 2; decide) (by show 2 ≤ 4; decide)) (fun q hq => by
    rcases List.mem_cons.mp hq with rfl | hq
    · exact I.t1
    · rw [List.mem_singleton.mp hq]; exact I.t2)
  have fc := frN (K := K) (T := ⟨tb, 1 + maxD [T1, T2], 1 + sumP [T1, T2], [] ++ ixs [T1, T2], "", "", [V.str "call", .str z0, .ref u2]⟩) (ps := [(k1, T1), (k2, T2)]) mc rfl rfl rfl rfl rfl rfl eTb (.call z0 u u2 [(k1, T1), (k2, T2)] rfl rfl rfl eu rfl eu2 (by show 2 ≤ 4; decide)) (fun q hq => by
    rcases List.mem_cons.mp hq with rfl | hq
    · exact I.f1
    · rw [List.mem_singleton.mp hq]; exact I.f2)
  refine ⟨_, rfl, _, rfl, _, _, rfl, fc, _, rfl, ?_⟩
  refine ite2 (fun h => Bool.noConfusion (show false = true from h)) (fun _ => ?_)
  refine ⟨_, rfl, _, rfl, _, _, 31, rfl, fc, tc, fun HI sI => ⟨_, rfl, ?_⟩⟩
  refine ite2 (fun h => Bool.noConfusion (show false = true from h)) (fun _ => ?_)
  have I := I.same sI
  have fc := fc.same sI
  have tc := tc.same sI
  clear sI eTb eu2 eu eN
  have bothOk : ∀ {q : Kd × Kd} {A B : Kd × Kd} {Pr : Kd × Kd → Prop}, Pr A → Pr B → q ∈ [A, B] → Pr q := fun ha hb hq => by
    rcases List.mem_cons.mp hq with rfl | hq
    · exact ha
    · rw [List.mem_singleton.mp hq]; exact hb
  -- the differences
  refine ⟨_, rfl, _, rfl, tsz (by show 2 ≤ 1000; decide), fun ll hll => ?_⟩
  have sl := upd_new (o := .lst [V.ref T1.a, V.ref T2.a]) hll
  have ell : (upd HI ll (.lst [V.ref T1.a, V.ref T2.a])) ll = some (.lst [V.ref T1.a, V.ref T2.a]) := upd_same
  have I := I.same sl
  have fc := fc.same sl
  have tc := tc.same sl
  refine ⟨ll, rfl, ⟨_, SqL.of ell⟩, ?_⟩
  generalize upd HI ll (.lst [V.ref T1.a, V.ref T2.a]) = HJ at I fc tc ell
  clear sl
  refine for_list (xs := refs [T1, T2]) (fun i σ H' => (∃ v11 v12 v13, σ = lgs a st NL T1.a T2.a k1.a k2.a R x tb (1 + r) v11 v12 v13 none) ∧ Same HJ H') ⟨⟨none, none, none, rfl⟩, Same.refl _⟩ (fun i σ H' _ ⟨_, s'⟩ => SqL.of (s' _ _ ell)) ?_ ?_
  · rintro i x' σ HK hx' ⟨⟨v11, v12, v13, rfl⟩, sK⟩
    have IK := I.same sK
    obtain ⟨T0, rfl, t0, p0, d0⟩ : ∃ T0 : Kd, V.ref T0.a = x' ∧ Tr 30 HK T0 ∧ T0.p ≤ 30 ∧ T0.d ≤ 30 := by
      match i, hx' with
      | 0, hx' => exact ⟨T1, by injection hx', IK.t1, by omega, by omega⟩
      | 1, hx' => exact ⟨T2, by injection hx', IK.t2, by omega, by omega⟩
    refine ⟨_, rfl, T0, rfl, t0, by omega, by omega, fun HL' kj s2 mj fj => ?_⟩
    have IL := IK.same s2
    have t0 := t0.same s2
    obtain ⟨x0, hx0, dx0, fs0, ea0⟩ := FmD.at mj
    obtain ⟨x1, hx1, dx1, fs1, ea1⟩ := FmD.at IL.m2
    obtain ⟨j1, j2, j3⟩ := fj.eqs
    have fit : Fits [kj, k2] := ⟨by show 1 + (kj.p + (k2.p + 0)) ≤ 300; omega, by show 1 + max kj.d (max k2.d 0) ≤ 40; omega⟩
    refine ⟨_, rfl, kj.a, k2.a, _, _, dx0, dx1, fs0, fs1, rfl, rfl, ea0, ea1, T.bin x0 hx0 x1 hx1 "sub" (by decide), kj, k2, rfl, mj, IL.m2, fit, fun HM xj s3 mm => ⟨⟨xj, rfl⟩, ?_⟩⟩
    refine ⟨_, rfl, _, rfl, tsz (by show 3 ≤ 1000; decide), fun td htd => ?_⟩
    have s4 := upd_new (o := .tup [V.str "minus", .ref T0.a, .ref T2.a]) htd
    have e4 : (upd HM td (.tup [V.str "minus", .ref T0.a, .ref T2.a])) td = some (.tup [V.str "minus", .ref T0.a, .ref T2.a]) := upd_same
    have IM := IL.same (s3.trans s4)
    have mm := mm.same s4
    have fj := fj.same (s3.trans s4)
    have t0 := t0.same (s3.trans s4)
    have sKM := ((sK.trans s2).trans s3).trans s4
    change tSeq _ _ _ _ (upd HM td (.tup [V.str "minus", .ref T0.a, .ref T2.a]))
    generalize upd HM td (.tup [V.str "minus", .ref T0.a, .ref T2.a]) = HN at e4 IM mm fj t0 sKM
    have td' := trN e4 (ts := [T0, T2]) (.bin "minus" (.inr (.inl rfl)) _ _) (fun q hq => by
      rcases List.mem_cons.mp hq with rfl | hq
      · exact t0
      · rw [List.mem_singleton.mp hq]; exact IM.t2)
    have fd' := frN (K := K) (T := ⟨td, 1 + maxD [T0, T2], 1 + sumP [T0, T2], [] ++ ixs [T0, T2], "", "", [V.str "minus", .ref T0.a, .ref T2.a]⟩) (ps := [(kj, T0), (k2, T2)]) mm rfl rfl rfl rfl rfl rfl e4 (.bin "minus" kj k2 T0 T2 (.inr (.inl rfl)) rfl rfl rfl rfl) (fun q hq => bothOk (Pr := fun q => FR K 30 HN q.1 q.2) fj IM.f2 hq)
    refine ⟨_, rfl, _, rfl, _, _, rfl, fd', _, rfl, ?_⟩
    refine ite2 (fun h => Bool.noConfusion (show false = true from h)) (fun _ => ?_)
    refine ⟨_, rfl, _, rfl, _, _, 31, rfl, fd', td', fun HO sO => ⟨_, rfl, ?_⟩⟩
    exact ite2 (fun h => Bool.noConfusion (show false = true from h)) (fun _ => ⟨⟨_, _, _, rfl⟩, sKM.trans sO⟩)
  · rintro σ HK ⟨⟨v11, v12, v13, rfl⟩, sK⟩
    have I := I.same sK
    have fc := fc.same sK
    have tc := tc.same sK
    clear sK ell
    obtain ⟨x0, hx0, dx0, fs0, ea0⟩ := FmD.at I.m1
    have fit1 : Fits [k1] := ⟨by show 1 + (k1.p + 0) ≤ 300; omega, by show 1 + max k1.d 0 ≤ 40; omega⟩
    have fit2 : Fits [k2] := ⟨by show 1 + (k2.p + 0) ≤ 300; omega, by show 1 + max k2.d 0 ≤ 40; omega⟩
    refine ⟨_, rfl, k1.a, _, dx0, fs0, rfl, ea0, T.neg x0 hx0, k1, rfl, I.m1, fit1, fun HL' xn s2 mn => ?_⟩
    refine ⟨_, rfl, tsz (by show 2 ≤ 1000; decide), fun tn htn => ?_⟩
    have s3 := upd_new (o := .tup [V.str "negative", .ref T1.a]) htn
    have e3 : (upd HL' tn (.tup [V.str "negative", .ref T1.a])) tn = some (.tup [V.str "negative", .ref T1.a]) := upd_same
    have IM := I.same (s2.trans s3)
    have mn := mn.same s3
    have fc := fc.same (s2.trans s3)
    generalize upd HL' tn (.tup [V.str "negative", .ref T1.a]) = HM at e3 IM mn fc
    have fn' := frN (K := K) (T := ⟨tn, 1 + maxD [T1], 1 + sumP [T1], [] ++ ixs [T1], "", "", [V.str "negative", .ref T1.a]⟩) (ps := [(k1, T1)]) mn rfl rfl rfl rfl rfl rfl e3 (.neg k1 T1 rfl rfl rfl rfl) (fun q hq => by rw [List.mem_singleton.mp hq]; exact IM.f1)
    refine ⟨_, _, rfl, fn', _, rfl, ?_⟩
    refine ite2 (fun h => Bool.noConfusion (show false = true from h)) (fun _ => ?_)
    obtain ⟨x1, hx1, dx1, fs1, ea1⟩ := FmD.at IM.m2
    refine ⟨_, rfl, k2.a, _, dx1, fs1, 64, rfl, rfl, ea1, T.shl x1 hx1, k2, 64, rfl, by decide, by decide, IM.m2, fit2, fun HN xs s4 ms => ⟨⟨xs, rfl⟩, ?_⟩⟩
    refine ⟨_, rfl, tsz (by show 3 ≤ 1000; decide), fun ts hts => ?_⟩
    have s5 := upd_new (o := .tup [V.str "shift", .ref T2.a, .int 64]) hts
    have e5 : (upd HN ts (.tup [V.str "shift", .ref T2.a, .int 64])) ts = some (.tup [V.str "shift", .ref T2.a, .int 64]) := upd_same
    have IO := IM.same (s4.trans s5)
    have ms := ms.same s5
    have fc := fc.same (s4.trans s5)
    generalize upd HN ts (.tup [V.str "shift", .ref T2.a, .int 64]) = HO at e5 IO ms fc
    have fs' := frN (K := K) (T := ⟨ts, 1 + maxD [T2], 1 + sumP [T2], [] ++ ixs [T2], "", "", [V.str "shift", .ref T2.a, .int 64]⟩) (ps := [(k2, T2)]) ms rfl rfl rfl rfl rfl rfl e5 (.shift k2 T2 64 rfl rfl rfl rfl) (fun q hq => by rw [List.mem_singleton.mp hq]; exact IO.f2)
    refine ⟨_, _, rfl, fs', _, rfl, ?_⟩
    refine ite2 (fun h => Bool.noConfusion (show false = true from h)) (fun _ => ?_)
    -- once more
    refine ⟨2, rfl, by decide, by decide, for_range (lo := 0) (n := 2) (fun i σ H' => (∃ v14, σ = lgs a st NL T1.a T2.a k1.a k2.a R x tb (1 + r) v11 v12 v13 v14) ∧ Same HO H') ⟨⟨none, rfl⟩, Same.refl _⟩ ?_ ?_⟩
    · rintro i σ HP hi ⟨⟨v14, rfl⟩, sP⟩
      have IP := IO.same sP
      refine ⟨_, rfl, _, rfl, k1, T1, rfl, IP.f1.mono (by decide), _, rfl, ?_⟩
      refine ite2 (fun h => Bool.noConfusion (show false = true from h)) (fun _ => ?_)
      refine ⟨_, rfl, _, rfl, k2, T2, rfl, IP.f2.mono (by decide), _, rfl, ?_⟩
      refine ite2 (fun h => Bool.noConfusion (show false = true from h)) (fun _ => ?_)
      refine ⟨_, rfl, _, rfl, k2, T2, 30, rfl, IP.f2, IP.t2.mono (by decide), fun HQ sQ => ⟨_, rfl, ?_⟩⟩
      exact ite2 (fun h => Bool.noConfusion (show false = true from h)) (fun _ => ⟨⟨_, rfl⟩, sP.trans sQ⟩)
    · rintro σ HP ⟨⟨v14, rfl⟩, sP⟩
      have IP := IO.same sP
      have fc := fc.same sP
      refine ⟨_, rfl, T1, rfl, IP.t1, by omega, by omega, fun HQ kz sQ mz fz => ⟨_, rfl, kz, T1, rfl, fz.mono (by decide), _, rfl, ?_⟩⟩
      refine ite2 (fun _ => ?_) (fun h => absurd rfl h)
      exact ⟨_, rfl, _, rfl, _, _, rfl, fc.same sQ, k _⟩

end
end K1
set_option Elab.async false
set_option linter.all false
set_option maxRecDepth 100000
set_option maxHeartbeats 4000000
namespace K1
open PySem PySem.Spec PyProof.Rows L2 He Sw L2H
theorem allOf {α : Type} {l : List α} {p : α → Bool} (h : l.all p = true) : ∀ x ∈ l, p x = true := List.all_eq_true.mp h
theorem short_cls : ∀ z ∈ clsS, ShortOk z := by
  intro z hz
  simp only [clsS, List.mem_cons, List.not_mem_nil, or_false] at hz
  rcases hz with rfl | rfl | rfl | rfl | rfl <;> constructor <;> decide +kernel
theorem cls_str {x : Str} (hx : x ∈ clsL) : ∃ z ∈ clsS, x = Str.ofString z := by
  have e : clsL = clsS.map Str.ofString := rfl
  rw [e] at hx
  obtain ⟨z, hz, rfl⟩ := List.mem_map.mp hx
  exact ⟨z, hz, rfl⟩
theorem noCls_ok {K : PySem.W.Frag} {C : Addr} {name : Str} {z : String} (h : noClsB K C name z = true) (k : ShortOk z) : NoCls K C name := by
  obtain ⟨h1, h⟩ := ba h
  obtain ⟨h2, h⟩ := ba h
  obtain ⟨h3, h4⟩ := ba h
  exact ⟨h1, eqO_ok h2, eqO_ok h3, z, h4, k⟩
theorem op_ok {K : PySem.W.Frag} (c : SaysF fa fn K) {x : Str} (hx : x ∈ clsL) {nm : String} (hn : nm ∈ binL) :
    PySem.W.selfFirst K (ga K x) = true ∧ PySem.W.findIn K (.ref (ga K x)) (PySem.dunder nm) = some (some (.ref (mF K (PySem.dunder nm)))) ∧ PySem.W.isFn K (.ref (mF K (PySem.dunder nm))) = true ∧ NoCls K (ga K x) (dunderR nm) := by
  obtain ⟨z, hz, rfl⟩ := cls_str hx
  have h : opB K (ga K (Str.ofString z)) nm z = true := allOf (allOf (p := fun z => binL.all fun nm => opB K (ga K (Str.ofString z)) nm z) (c.fact 14) z hz) nm hn
  obtain ⟨h1, h⟩ := ba h
  obtain ⟨h2, h⟩ := ba h
  obtain ⟨h3, h4⟩ := ba h
  exact ⟨h1, eqO_ok h2, h3, noCls_ok h4 (short_cls z hz)⟩
theorem txt {K : PySem.W.Frag} {h : Heap} {mg : Str → Option Value} (X : K.In h) (G : h.Ns mainGlobals mg) (c : SaysF fa fn K) : Txt K mg where
  glo := fun x hx => glo_ok X G (allOf (c.fact 0) x hx)
  fre := fun x hx => free_ok X G (allOf (c.fact 1) x hx)
  foI := clfnB_ok (c.fact 2)
  let_ := str_ok X G (c.fact 3)
  mLet := int_ok X G (c.fact 4)
  mPar := int_ok X G (c.fact 5)
  mDep := int_ok X G (c.fact 6)
  nEnd := int_ok X G (c.fact 7)
  mShf := int_ok X G (c.fact 8)
  mThg := int_ok X G (c.fact 9)
  noN := fun H => tupB_ok (c.fact 10) H
  ins := fun x hx => by
    have q : ((Fa.cls x).ok K && ((Fa.mkr x).ok K && insB K (ga K x))) = true := allOf (p := fun x => (Fa.cls x).ok K && ((Fa.mkr x).ok K && insB K (ga K x))) (c.fact 11) x hx
    obtain ⟨h1, h⟩ := ba q
    obtain ⟨h2, h⟩ := ba h
    obtain ⟨h3, h⟩ := ba h
    obtain ⟨h4, h⟩ := ba h
    obtain ⟨h5, h6⟩ := ba h
    exact ⟨cls_ok h1, mkr_ok h2, eqO_ok h3, eqO_ok h4, of_decide_eq_true h5, of_decide_eq_true h6, fun f hf => noat_ok (allOf (p := fun f => (Fa.noat x f).ok K) (allOf (p := fun x => fldL.all fun f => (Fa.noat x f).ok K) (c.fact 12) x hx) f hf)⟩
  kit := fun x hx y hy => of_decide_eq_true (allOf (p := fun y => kitB2 K x y (decide (x = y) || decide (y = "Formula"))) (allOf (p := fun x => clsL.all fun y => kitB2 K x y (decide (x = y) || decide (y = "Formula"))) (c.fact 13) x hx) y hy)
  bin := fun x hx y hy nm hn => by
    obtain ⟨a1, a2, a3, a4⟩ := op_ok c hx hn
    obtain ⟨b1, b2, b3, b4⟩ := op_ok c hy hn
    exact ⟨a1, b1, a2, a3, ⟨_, b2⟩, a4.m2, b4, Option.isSome_iff_exists.mp (allOf (p := fun y => (PySem.W.subIn K (.ref (ga K y)) (.ref (ga K x))).isSome) (allOf (p := fun x => clsL.all fun y => (PySem.W.subIn K (.ref (ga K y)) (.ref (ga K x))).isSome) (c.fact 15) x hx) y hy)⟩
  shl := fun x hx => by
    have h : shlB K (ga K x) = true := allOf (p := fun x => shlB K (ga K x)) (c.fact 16) x hx
    obtain ⟨h1, h⟩ := ba h
    obtain ⟨h2, h⟩ := ba h
    obtain ⟨h3, h⟩ := ba h
    obtain ⟨h4, h⟩ := ba h
    obtain ⟨h5, h6⟩ := ba h
    obtain ⟨h7, h8⟩ := ba h5
    obtain ⟨r1, e1⟩ := Option.isSome_iff_exists.mp h7
    obtain ⟨r2, e2⟩ := Option.isSome_iff_exists.mp h8
    exact ⟨h1, eqO_ok h2, h3, eqO_ok h4, ⟨r1, r2, e1, e2⟩, of_decide_eq_true h6⟩
  neg := fun x hx => by
    have h : negB K (ga K x) = true := allOf (p := fun x => negB K (ga K x)) (c.fact 17) x hx
    obtain ⟨h1, h2⟩ := ba h
    exact ⟨eqO_ok h1, h2⟩
theorem facts {P : Program} {w : World} {K : PySem.W.Frag} {h : Heap} {mg : Str → Option Value} {f : Addr} (X : K.In h) (G : h.Ns mainGlobals mg) (hfa : mg ("law" : Str) = some (.ref f)) (c : SaysF fa fn K) :
    ∃ fd : FuncData, (∀ (s : Shared) (v : Value), BindsTo s fd ⟨[v], []⟩ [("_law_script", v)]) ∧ ∀ base : Heap, FnOk P w K mg base CX0 76 f fd ["_law_script"] (spLaw K) := by
  have T := txt X G c
  obtain ⟨fdII, FII'⟩ := c.def_ 0 (d := dF "is_integer" sIsInt) rfl
  obtain ⟨fdIR, FIR'⟩ := c.def_ 1 (d := dF "is_row" sIsRow) rfl
  obtain ⟨fdIN, FIN'⟩ := c.def_ 2 (d := dF "is_name" sIsName) rfl
  obtain ⟨fdIS, FIS'⟩ := c.def_ 3 (d := dF "is_shift" sIsShift) rfl
  obtain ⟨fdCN, FCN'⟩ := c.def_ 4 (d := dF "check_name" sCkName) rfl
  obtain ⟨fdCS, FCS'⟩ := c.def_ 5 (d := dF "check_shift" sCkShift) rfl
  obtain ⟨fdFo, FFo'⟩ := c.def_ 6 (d := dM "Formula" "__init__" "Formula.__init__" sForm []) rfl
  obtain ⟨fdA, FA'⟩ := c.def_ 7 (d := dM "Formula" "__add__" "Formula.__add__" sAdd []) rfl
  obtain ⟨fdS, FS'⟩ := c.def_ 8 (d := dM "Formula" "__sub__" "Formula.__sub__" sSub []) rfl
  obtain ⟨fdM, FM'⟩ := c.def_ 9 (d := dM "Formula" "__mul__" "Formula.__mul__" sMul []) rfl
  obtain ⟨fdN, FN'⟩ := c.def_ 10 (d := dM "Formula" "__neg__" "Formula.__neg__" sNeg []) rfl
  obtain ⟨fdL, FL'⟩ := c.def_ 11 (d := dM "Formula" "__lshift__" "Formula.__lshift__" sShl []) rfl
  obtain ⟨fdNu, FNu'⟩ := c.def_ 12 (d := dM "Number" "__init__" "Number.__init__" sNum []) rfl
  obtain ⟨fdNa, FNa'⟩ := c.def_ 13 (d := dM "Name" "__init__" "Name.__init__" sName []) rfl
  obtain ⟨fdSu, FSu'⟩ := c.def_ 14 (d := dM "Sum" "__init__" "Sum.__init__" sSum []) rfl
  obtain ⟨fdCa, FCa'⟩ := c.def_ 15 (d := dM "Call" "__init__" "Call.__init__" sCall []) rfl
  obtain ⟨fdCF, FCF'⟩ := c.def_ 16 (d := dF "check_formula" sCkForm) rfl
  obtain ⟨fdIF, FIF'⟩ := c.def_ 17 (d := dF "inner_formulas" sInner) rfl
  obtain ⟨fdIX, FIX'⟩ := c.def_ 18 (d := dF "index_names" sIx) rfl
  obtain ⟨fdLI, FLI'⟩ := c.def_ 19 (d := dF "_law_is_integer" sLInt) rfl
  obtain ⟨fdD, FD'⟩ := c.def_ 20 (d := dF "_law_draw" sDraw) rfl
  obtain ⟨fdLG, FLG'⟩ := c.def_ 21 (d := dF "_law_large" sLarge) rfl
  obtain ⟨fdLN, FLN'⟩ := c.def_ 22 (d := dF "_law_names" sNames) rfl
  obtain ⟨fdLF, FLF'⟩ := c.def_ 23 (d := dF "_law_leaf" sLeaf) rfl
  obtain ⟨fdLB, FLB'⟩ := c.def_ 24 (d := dF "_law_bound" sBound) rfl
  obtain ⟨fdLT, FLT'⟩ := c.def_ 25 (d := dF "_law_tree" sTree) rfl
  obtain ⟨fdLM, FLM'⟩ := c.def_ 26 (d := dF "_law_made" sMade) rfl
  obtain ⟨fdLS, FLS'⟩ := c.def_ 27 (d := dF "_law_same" sSame) rfl
  obtain ⟨fdLO, FLO'⟩ := c.def_ 28 (d := dF "_law_inside" sInside) rfl
  obtain ⟨fdLZ, FLZ'⟩ := c.def_ 29 (d := dF "_law_size" sSize) rfl
  obtain ⟨fdLY, FLY'⟩ := c.def_ 30 (d := dF "_law_sizes" sSizes) rfl
  obtain ⟨fd, F'⟩ := c.def_ 31 (d := dF "law" sLaw) rfl
  have e := hfa.symm.trans (T.g "law")
  cases e
  have b := FunD.bindsA (ps := ["_law_script"]) F' fun _ _ _ _ _ _ us hl => match us, hl with | [_], _ => rfl
  refine ⟨fd, fun s v => b s [v] rfl, fun base => ?_⟩
  have GA := ok_add (P := P) (w := w) (base := base) T FA' FCF' FFo'
  have GS := ok_sub (P := P) (w := w) (base := base) T FS' FCF' FFo'
  have GM := ok_mul (P := P) (w := w) (base := base) T FM' FCF' FFo'
  have GN := ok_neg (P := P) (w := w) (base := base) T FN' FFo'
  have GL := ok_shl (P := P) (w := w) (base := base) T FL' FFo' FCS' FIS' FII'
  have GNu := ok_num (P := P) (w := w) (base := base) T FNu' FFo' FII'
  have GNa := ok_name (P := P) (w := w) (base := base) T FNa' FFo' FCN' FIN'
  have GSu := ok_sum (P := P) (w := w) (base := base) T FSu' FFo' FCN' FIN' FCF' FIX' FIF'
  have GCa := ok_call (P := P) (w := w) (base := base) T FCa' FFo' FCN' FIN' FCF' FIR'
  have GMk := ok_made (P := P) (w := w) (base := base) T FLM' FA' FS' FM' FN' FL' FSu' FCa' FNu' FNa' GA GS GM GN GL GSu GCa GNu GNa 30
  have CD : Cal P w K mg base CX0 1 (ga K "_law_draw") ["_law_state", "_law_many"] spDraw := ⟨_, ok_draw T FD', FD'.kp, FD'.bindsN fun _ _ _ _ _ _ us hl => match us, hl with | [_, _], _ => rfl⟩
  have CN : Cal P w K mg base CX0 2 (ga K "_law_names") ["_law_state", "_law_many"] spNames := ⟨_, ok_names T FLN' FD', FLN'.kp, FLN'.bindsN fun _ _ _ _ _ _ us hl => match us, hl with | [_, _], _ => rfl⟩
  have CL : Cal P w K mg base CX0 3 (ga K "_law_leaf") ["_law_state", "_law_names_here"] spLeaf := ⟨_, ok_leaf T FLF' FD' FLG', FLF'.kp, FLF'.bindsN fun _ _ _ _ _ _ us hl => match us, hl with | [_, _], _ => rfl⟩
  have CB : Cal P w K mg base CX0 2 (ga K "_law_bound") ["_law_state", "_law_names_here", "_law_index", "_law_plan"] spBound := ⟨_, ok_bound T FLB' FD', FLB'.kp, FLB'.bindsN fun _ _ _ _ _ _ us hl => match us, hl with | [_, _, _, _], _ => rfl⟩
  have CT : Cal P w K mg base CX0 34 (ga K "_law_tree") ["_law_state", "_law_names_here", "_law_indexes", "_law_plan", "_law_room", "_law_hidden"] (spTree 30) := ⟨_, ok_tree T FLT' CD CL CB 30, FLT'.kp, FLT'.bindsN fun _ _ _ _ _ _ us hl => match us, hl with | [_, _, _, _, _, _], _ => rfl⟩
  have CM : Cal P w K mg base CX0 75 (ga K "_law_made") ["_law_tree_here"] (spMade K 30) := ⟨_, GMk, FLM'.kp, FLM'.bindsN fun _ _ _ _ _ _ us hl => match us, hl with | [_], _ => rfl⟩
  have CS : Cal P w K mg base CX0 34 (ga K "_law_same") ["_law_formula", "_law_tree_here"] (spSame K 31) := ⟨_, ok_same T FLS' FLI' 31, FLS'.kp, FLS'.bindsN fun _ _ _ _ _ _ us hl => match us, hl with | [_, _], _ => rfl⟩
  have CZ : Cal P w K mg base CX0 33 (ga K "_law_sizes") ["_law_formula", "_law_tree_here"] (spSizes K 31) := ⟨_, ok_sizes T FLY' FLZ' FLO' FLI' 31, FLY'.kp, FLY'.bindsN fun _ _ _ _ _ _ us hl => match us, hl with | [_, _], _ => rfl⟩
  have CNa : Cal P w K mg base CX0 3 (ma K (ga K "Name") "__init__") ["self", "name"] (spNameI K) := ⟨_, GNa, FNa'.kp, FNa'.bindsN fun _ _ _ _ _ _ us hl => match us, hl with | [_, _], _ => rfl⟩
  have CCa : Cal P w K mg base CX0 3 (ma K (ga K "Call") "__init__") ["self", "name", "things"] (spCallI K) := ⟨_, GCa, FCa'.kp, FCa'.bindsN fun _ _ _ _ _ _ us hl => match us, hl with | [_, _, _], _ => rfl⟩
  have CSb : Cal P w K mg base CX0 3 (ma K (ga K "Formula") "__sub__") ["self", "other"] (spBin K "minus") := ⟨_, GS, FS'.kp, FS'.bindsN fun _ _ _ _ _ _ us hl => match us, hl with | [_, _], _ => rfl⟩
  have CNg : Cal P w K mg base CX0 3 (ma K (ga K "Formula") "__neg__") ["self"] (spNeg K) := ⟨_, GN, FN'.kp, FN'.bindsN fun _ _ _ _ _ _ us hl => match us, hl with | [_], _ => rfl⟩
  have CSh : Cal P w K mg base CX0 4 (ma K (ga K "Formula") "__lshift__") ["self", "other"] (spShl K) := ⟨_, GL, FL'.kp, FL'.bindsN fun _ _ _ _ _ _ us hl => match us, hl with | [_, _], _ => rfl⟩
  exact ok_law T F' CD CN CT CM CS CZ CNa CCa CSb CNg CSh
end K1
set_option Elab.async false
set_option linter.all false
set_option maxRecDepth 100000
set_option maxHeartbeats 0
open PySem PySem.W PySem.Calls PyProof.Rows
theorem PySem.Challenge.cw_samewords_k01_kinds_and_things_holds : PySem.Challenge.rw_samewords_k01_kinds_and_things.Holds := by
  w_on; o_law
  refine HandSHeadRun.head_any (r := OpenLaw.row PySem.Challenge.rw_samewords_k01_kinds_and_things) (q := view (OpenLaw.row PySem.Challenge.rw_samewords_k01_kinds_and_things).prog [45]) (H := K1.hk) (ob := K1.ob) (M := 5000) (loose := K1.loose1 ++ K1.loose2) (d := HandSHeadRun.topDef (OpenLaw.row PySem.Challenge.rw_samewords_k01_kinds_and_things).prog 45) (kwd := []) K1.ob_eq
    (by kernel_rfl) (fun s => by kernel_rfl) K1.run (by kernel_rfl) (by kernel_rfl) (by kernel_rfl) (by rfl) (by first | assumption | decide +kernel) (by decide +kernel) ⟨rfl, rfl, rfl, rfl, rfl, by decide +kernel⟩ ?hw ?hc
  case hw => w_witness2
  case hc =>
    refine L2.walk_ofE (l := PySem.Challenge.rw_samewords_k01_kinds_and_things) (n := 63) (k := 76) (x := "_law_script") (CX := L2.CX0) rfl (by decide) (by kernel_rfl) ⟨rfl, by decide, by decide⟩ ?F (fun _ _ _ _ z => z)
    intro w mg fa h Y G hmg0
    obtain ⟨K, KX, c⟩ := Y
    have hmg : mg ("law" : PySem.Str) = some (.ref fa) := by
      have e : (HandSHeadRun.topDef (OpenLaw.row PySem.Challenge.rw_samewords_k01_kinds_and_things).prog 45).name = ("law" : PySem.Str) := by kernel_rfl
      rw [← e]
      exact hmg0
    obtain ⟨fd, hb, hF⟩ := K1.facts (P := (PySem.Challenge.rw_samewords_k01_kinds_and_things).prog) (w := w) KX G hmg c
    exact ⟨K, fd, K1.spLaw K, KX, hb, fun H a ns hl _ hS => ⟨a, ns, rfl, hS, fun _ => rfl⟩, fun base _ _ => hF base⟩
