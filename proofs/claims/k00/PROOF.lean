import PyProof.Rows.All
import Wide.All
import OpenK.AllK
import Wide.FinOn
import KE.KTypeName
import HandS.Base
import HandS.Call
import HandS.List
import HandS.Ends
import HandS.Exc
import HandS.ExcOwn
import HandS.ExcCtx
import HandS.Hot
import HandS.HotCalls
import HandS.ExcInit
import HandS.ExcInitHot
import HandS.ExcIs
import HandS.ClsMeth
import HandS.Comp
import KE.KExcIs
import HandS.ExcField
import HandS.SortKw
import KE.KMinKey
import KE.KStateDown
import Lean
import HandS.More
import HandS.Words
import HandS.WordsExc
import HandS.Defaults
import HandS.Head0
import HandS.Head1
import HandS.Head2
import HandS.HeadEnd
import HandS.HeadHook1
import HandS.HeadHook2
import PySem.Challenge.RW_samewords_k00_names_and_numbers
import HandS.WordsList
import HandS.IsInst
import HandS.Wide
import HandS.Iter
import HandS.Text
import HandS.StrMore
import HandS.Flow
import HandS.Walk
import HandS.Codes
import HandS.Dict
import HandS.DeepEq
set_option Elab.async false
set_option linter.all false
set_option maxRecDepth 100000
set_option maxHeartbeats 2000000
/-! Rules of my own: functions read off an own class, the class's name, classes made in a try. -/
namespace Sw
open PySem PySem.Spec PyProof.Rows L2

/-! ### C.m(e, ..), m a plain def of the class at C -/
structure ClFn (K : PySem.W.Frag) (C : Addr) (m : Str) (f : Addr) : Prop where
  rd : PySem.W.readsIn K C (.type "type") = true
  ga : PySem.W.specialIn K (.ref C) "__getattribute__" = some (some (.builtin "type.__getattribute__"))
  at_ : PySem.W.findCls K (.ref C) (.type "type") m = some (.val (.ref f))
section
variable {X : Cx} {CX : CXT} {k : Nat} {f C : Addr} {fd : FuncData} {ps : List Str} {sp : Sp} {dvs : List V} {ds : List Value} {E : XK} {x m : Str} {p pos apos : Pos} {e : Expr} {es : List Expr} {t : TA}
theorem getmeth_cls {pins : List (Addr × Obj)} {σ : L2.St} {H : Hp} {s : Shared} {A : Around} {E : Value → Shared → Prop} {pl : Sem Bool} {Q : Value × List Value → Shared → Prop} (I : Inv X pins σ H s) (c : ClFn X.K C m f)
    (h : ∀ s', Inv X pins σ H s' → Q (.ref f, []) s') : wpAny (model X.prog X.w) A (getMethod (.ref C) m pl) Q E s :=
  PySem.W.method_cls I.kIn c.ga (PySem.W.cls_value I.kIn c.rd c.at_ (handed_of (v := V.ref f) rfl) (h _ (I.tok _)))
theorem pe_clfn {pl : Sem Bool} (hg : Gl X x) (hm : X.mg x = some (.ref C)) (c : ClFn X.K C m f) (F : FnOk X.prog X.w X.K X.mg X.base CX k f fd ps sp) (hr : Room k X.A) (hk : PySem.W.keepIn X.K (.ref f) = true) (hb : Binds X.K fd ps ds) (hd : Vals dvs ds)
    (hx : Passes CX X E) (ha : PA X (e :: es) t)
    (hdb : (x == ("__debug__" : Str)) = false := by decide) (hst : starEach (e :: es) X.env = (false, eval e X.env) :: starEach es X.env := by rfl) (hpl : (backTo pos (starEach es X.env)).any (·.1) = false := by rfl)
    (ht : eval (.Call (.Attribute (.Name x p) m apos) (e :: es) [] pos) X.env = (do
      let ov ← eval (.Name x p) X.env
      standAt apos.atName
      let (f, first) ← holding [ov] (getMethod ov m pl)
      callWith pos f first (backTo pos (starEach (e :: es) X.env)) (backToKw pos (keywordEach [] X.env))) := by rfl) :
    PE X (.Call (.Attribute (.Name x p) m apos) (e :: es) [] pos) (tCall sp dvs E t) := by
  refine ⟨fun pins s σ H Q I h => ?_⟩
  refine PySem.W.methodCall_KW (pl := pl) (thn ((pe_glob (v := V.ref C) hg hm rfl hdb).run pins s σ H _ I (show (tC (V.ref C)) σ H (fun v H1 => v = .ref C ∧ H1 = H) from ⟨rfl, rfl⟩)) fun u s1 ⟨y, H1, I1, rx, ex, eh⟩ => ?_) ht
  subst ex eh
  obtain rfl : u = Value.ref C := rx
  refine getmeth_cls I1 c fun s2 I2 => ?_
  refine PySem.W.callWith_K (first := []) (h₀ := X.base) I2.ok.mod.kin hk (thn (ha.run pos pins s2 σ _ _ I2 h) fun us s3 ⟨vs, H3, I3, r, q3⟩ => ⟨I3.kIn, ?_⟩) hst hpl
  exact run_fn F hr hb hd hx I3 r q3
end

/-! ### C(e, ..) in a try: what follows a raise hangs on the slots -/
section
variable {X : Cx} {CX : CXT} {k : Nat} {f C : Addr} {fd : FuncData} {ps : List Str} {sp : Sp} {dvs : List V} {ds : List Value} {E : L2.St → XK} {x : Str} {p pos : Pos} {e : Expr} {es : List Expr} {t : TA}
def tMakeS (C : Addr) (sp : Sp) (dvs : List V) (E : L2.St → XK) (t : TA) : TE := fun σ H Q => t σ H fun vs H1 => ∀ x dx, H1 x = none → H1 dx = none → dx ≠ x →
  sp (.ref x :: (vs ++ dvs)) (upd (upd H1 dx (.own x)) x (.ins C dx [])) (fun v H2 => v = .non ∧ Q (.ref x) H2) (E σ)
theorem run_makeS {pins : List (Addr × Obj)} {σ : L2.St} {H : Hp} {s : Shared} {Q : VK} {us : List Value} {vs : List V} (M : Mk X.K C f) (F : FnOk X.prog X.w X.K X.mg X.base CX k f fd ps sp) (hr : Room (k + 1) X.A) (hb : Binds X.K fd ps ds) (hd : Vals dvs ds)
    (hx : PassesAt CX X σ (E σ)) (I : Inv X pins σ H s) (r : Vals vs us)
    (h : ∀ x dx, H x = none → H dx = none → dx ≠ x → sp (.ref x :: (vs ++ dvs)) (upd (upd H dx (.own x)) x (.ins C dx [])) (fun v H2 => v = .non ∧ Q (.ref x) H2) (E σ)) :
    wpAny (model X.prog X.w) X.A (call (.ref C) us) (EP X pins σ Q) X.xe s := by
  have hq := h (s.heap.objs.size + 1) s.heap.objs.size (I.hok.fresh (Nat.le_succ _)) (I.hok.fresh (Nat.le_refl _)) (Nat.ne_of_lt (Nat.lt_succ_self _))
  have I2 := Inv.made (C := C) I
  have r2 : Vals (V.ref (s.heap.objs.size + 1) :: (vs ++ dvs)) (Value.ref (s.heap.objs.size + 1) :: (us ++ ds)) := .cons rfl (r.append hd)
  have hl : (Value.ref (s.heap.objs.size + 1) :: us ++ ds).length = ps.length := by
    have e := r2.length
    rw [F.len _ _ _ _ hq] at e
    exact e.symm
  refine wpAny_call (make_map (f := f) I.kIn M.makes M.init (beq_iff_eq.mp M.fn) (codeAny_mono (F.run _ X.stack _ _ ⟨Value.ref (s.heap.objs.size + 1) :: us, []⟩ (Value.ref (s.heap.objs.size + 1) :: (us ++ ds)) _ _ (E σ) (hr.make C us [])
    (I2.env0.make C us []) (hb _ (Value.ref (s.heap.objs.size + 1) :: us) I2.kIn hl) r2 hq) fun r s' hq' => ?_))
  cases r with
  | error e => exact hx pins _ _ e s' I2 hq'
  | ok fl =>
    cases fl with
    | ret u =>
      obtain ⟨v, H', I3, rv, ev, q3⟩ := I2.after hq'
      subst ev
      exact ⟨rv, ⟨V.ref (s.heap.objs.size + 1), H', I3, rfl, q3⟩⟩
    | next => exact False.elim hq'
    | brk => exact False.elim hq'
    | cont => exact False.elim hq'
theorem pe_makeS (M : Mk X.K C f) (F : FnOk X.prog X.w X.K X.mg X.base CX k f fd ps sp) (hr : Room (k + 1) X.A) (hg : Gl X x) (hm : X.mg x = some (.ref C)) (hb : Binds X.K fd ps ds) (hd : Vals dvs ds) (hx : ∀ σ, PassesAt CX X σ (E σ))
    (ha : PA X (e :: es) t) (hdb : (x == ("__debug__" : Str)) = false := by decide) (he : starEach (e :: es) X.env = (false, eval e X.env) :: starEach es X.env := by rfl) (hpl : (backTo pos (starEach es X.env)).any (·.1) = false := by rfl) :
    PE X (.Call (.Name x p) (e :: es) [] pos) (tMakeS C sp dvs E t) := by
  refine ⟨fun pins s σ H Q I h => ?_⟩
  refine wpAny_Call_Name_kw (ld_glob I hg hm ?_ hdb)
  refine PySem.W.callWith_K (h₀ := X.base) I.ok.mod.kin M.kp (thn (ha.run pos pins s σ H _ I h) fun us s1 ⟨vs, H1, I1, r, q⟩ => ⟨I1.kIn, ?_⟩) he hpl
  exact run_makeS M F hr hb hd (hx σ) I1 r q
end
end Sw

/-! ### C.__name__, e.__class__ of an exception in the making -/
namespace Sw
open PySem PySem.W PySem.Calls PyProof.Rows Builtin Builtin.ObjectAttr Builtin.Getset_descriptor
section
variable {prog : Program} {w : World} {A : Around} {E : Value → Shared → Prop} {s : Shared} {K : Frag} {R : Result → Shared → Prop} {C : Addr} {o : Obj} {z : PySem.Str} {tk : Tok}
theorem cnm_dga (d tp : Value) (C : Addr) : descrGetArgs ⟨[d, .ref C, tp], []⟩ = pure (d, some (.ref C), given tp) := by kernel_rfl
theorem cnm_get {tp : Value} (hC : s.heap.get? C = some o) (hcls : o.cls = .type "type") (hsl : o.slots[2]? = some (some (.str z tk))) (h : R (.ok (.ret (.str z tk))) s) :
    codeAny (model prog w) A (.call (.builtin "getset_descriptor.__get__") ⟨[.builtin "type.__name__", .ref C, tp], []⟩) R s := by
  obtain ⟨hh, g, dr, t, os⟩ := s
  have L0 : Looks (model prog w) hh (typeOf (.ref C)) (.type "type") := by
    have q := (Looks.ld (M := model prog w) (part := some .none) hC).andThen (f := fun o => pure o.cls) .now
    rw [hcls] at q
    exact q
  have L1 : Looks (model prog w) hh (isSubtype (.type "type") (.type "type")) true := Looks.of_pure (by rw [isSubtype_type]; kernel_rfl)
  refine codeAny_call_builtin KF.slot_gs.plain KF.entry_gs (KF.slot_gs.check _ _ _ _ _ _ _ _ ktyn_type (KF.args_gs _ _ _) ?_)
  unfold Builtin.«getset_descriptor.__get__» descrGet
  rw [cnm_dga]
  refine wpAny_bind (wpAny_pure ?_)
  unfold descrGetter descrCheckInstance descrNameAndClass isInstance
  simp only [ktyn_owner]
  repeat lk
  refine ⟨Code.quiet_builtin _ (by decide +kernel), codeAny_builtin ktyn_entry ?_⟩
  unfold Builtin.«type.__name__» keptObject slotAt
  dsimp only
  refine wpAny_bind (wpAny_bind (wpAny_loadPart_at hC (wpAny_pure ?_)))
  rw [hsl]
  exact wpAny_pure h
/-- C.__name__ -/
theorem cnm_attr {expr : Bool} {Q : Value → Shared → Prop} (X : K.In s.heap) (rd : readsIn K C (.type "type") = true) (hf : findCls K (.ref C) (.type "type") "__name__" = some (.get (.builtin "getset_descriptor.__get__") (.builtin "type.__name__") (.ref C) (.type "type")))
    (hC : K.lookup C = some o) (hcls : o.cls = .type "type") (hsl : o.slots[2]? = some (some (.str z tk))) (h : Q (.str z tk) { s with toks := s.toks + 1 }) : wpAny (model prog w) A (getAttr (.ref C) "__name__" expr) Q E s := by
  refine cls_bind X rd hf (wpAny_call (cnm_get (s := { s with toks := s.toks + 1 }) (X _ _ hC) hcls hsl ?_))
  exact handed_on rfl h
/-- e.__class__, e an exception without a dict as yet -/
theorem exc_class {x : Addr} {ox : Obj} {expr : Bool} {Q : Value → Shared → Prop} {gt : Option Value}
    (X : K.In s.heap) (I : InstAt s.heap x ox C none) (hga : findIn K (.ref C) "__getattribute__" = some (some (.builtin "BaseException.__getattribute__"))) (hgt : findIn K (.ref C) "__getattr__" = some gt)
    (hsub : subIn K (.ref C) (.type "BaseException") = some true) (hdct : hasDictIn K C = true) (ha : findIn K (.ref C) "__class__" = some (some (.builtin "object.__class__")))
    (hn : specialIn K (.builtin "object.__class__") "__get__" = some (some (.builtin "getset_descriptor.__get__"))) (htk : takesIn K (.builtin "object.__class__") = some true) (hm : mroIn K C (.type "object") = some true)
    (h : Q (.ref C) { s with toks := s.toks + 1 }) : wpAny (model prog w) A (getAttr (.ref x) "__class__" expr) Q E s := by
  have hf : findObj K C none "__class__" = some (.bind (.builtin "getset_descriptor.__get__") (.builtin "object.__class__")) := findObj_dataN (by obtain ⟨cd, hc, _⟩ := any_some hdct; rw [hc]; rfl) ha hn htk
  obtain ⟨hp, g, d, t, os⟩ := s
  have L0 := I.type (M := model prog w)
  have L1 := looks_findIn (M := model prog w) X hga
  have L2 := looks_findIn (M := model prog w) X hgt
  have L3 := looks_find (M := model prog w) X I hf
  have sub : Looks (model prog w) hp (isInstance (.ref x) (.type "BaseException")) true := L0.andThen (looks_subIn X hsub)
  have hx0 : (expr && onTheHeap (Value.builtin "BaseException.__getattribute__")) = false := by cases expr <;> rfl
  have hx2 : (Value.builtin "BaseException.__getattribute__" == Value.builtin "object.__getattribute__") = false := by decide +kernel
  have hx1 : (onTheHeap (Value.ref C) && Value.builtin "BaseException.__getattribute__" == Value.builtin "object.__getattribute__") = false := by rw [hx2]; rfl
  unfold getAttr getAttrBy
  refine wpAny_bind (wpAny_mkText (wpAny_holding (wpAny_bind (L0.at (wpAny_bind (L1.at ?_))))))
  show wpAny _ _ (if (onTheHeap (Value.ref C) && Value.builtin "BaseException.__getattribute__" == Value.builtin "object.__getattribute__") = true then _ else _) _ _ _
  rw [hx1, if_neg Bool.false_ne_true]
  unfold getAttrByItsOwn hookBefore
  refine wpAny_bind ?_
  rw [if_pos (show onTheHeap (Value.ref C) = true from rfl)]
  refine L2.at ?_
  refine wpAny_bind (wpAny_attempt (wpAny_holding ?_))
  unfold callGetattribute
  rw [hx0, if_neg Bool.false_ne_true]
  unfold boundAndCalled
  rw [PySem.F.excAttr_ValueError.ga.bind (.ref x)]
  refine wpAny_bind (wpAny_pure ?_)
  show wpAny _ _ (call (.builtin "BaseException.__getattribute__") [.ref x, .str "__class__" t]) _ _ _
  refine wpAny_call (codeAny_call_builtin PySem.F.excAttr_ValueError.ga.plain PySem.F.entry_bexc_ga ?_)
  refine @check_slot (model prog w) _ _ ⟨hp, g, d, t + 1, os⟩ "BaseException.__getattribute__" "BaseException" "__getattribute__" (.ref x) [.str "__class__" t] [] _ (by decide +kernel) (by decide +kernel) sub (PySem.F.args_bexc_ga (.ref x) (.str "__class__" t)) ?_
  unfold Builtin.«object.__getattribute__»
  refine wpAny_bind (wpAny_of_eq (a := ((Value.ref x : Value), [Value.str "__class__" t])) (by first | rfl | (simp only [slotArgs]; rfl)) ?_)
  refine wpAny_bind (wpAny_pure (wpAny_bind (L0.at (wpAny_bind (L3.at ?_)))))
  show wpAny _ _ (holding [Value.builtin "object.__class__"] (call (.builtin "getset_descriptor.__get__") [.builtin "object.__class__", .ref x, .ref C]) >>= ret) _ _ _
  refine wpAny_bind (wpAny_holding (wpAny_call (class_get (s := ⟨hp, g, d, t + 1, os⟩) (ox := ox) (od := none) X I hm ?_)))
  refine wpAny_pure ?_
  show wpAny _ _ (handedOut (.ref C)) _ _ _
  rw [handedOut_of (v := .ref C) rfl]
  exact wpAny_pure h
end
end Sw
namespace Sw
open PySem PySem.Spec PyProof.Rows L2
/-- what a class must be for its name to be read -/
structure NamC (K : PySem.W.Frag) (C : Addr) (z : Str) : Prop where
  rd : PySem.W.readsIn K C (.type "type") = true
  fc : PySem.W.findCls K (.ref C) (.type "type") "__name__" = some (.get (.builtin "getset_descriptor.__get__") (.builtin "type.__name__") (.ref C) (.type "type"))
  lk : ∃ (o : Obj) (tk : Tok), K.lookup C = some o ∧ o.cls = .type "type" ∧ o.slots[2]? = some (some (.str z tk))
/-- e.__class__.__name__, e an exception in the making -/
def tExN (K : PySem.W.Frag) (te : TE) : TE := fun σ H Q => te σ H fun x H1 => ∃ (a C : Addr) (z : Str), x = .ref a ∧ H1 a = some (exo a C none) ∧ ExcC K C ∧ NamC K C z ∧ Q (.str z) H1
theorem pe_exn {X : Cx} {e : Expr} {p1 p2 : Pos} {te : TE} (he : PE X e te) (hb : attributeBase e "__class__" X.env (eval e X.env) = eval e X.env := by rfl)
    (hb2 : attributeBase (.Attribute e "__class__" p1) "__name__" X.env (eval (.Attribute e "__class__" p1) X.env) = eval (.Attribute e "__class__" p1) X.env := by rfl) :
    PE X (.Attribute (.Attribute e "__class__" p1) "__name__" p2) (tExN X.K te) := by
  refine ⟨fun pins s σ H Q I h => ?_⟩
  refine attr_of hb2 (attr_of hb (thn (he.run pins s σ H _ I h) fun u s1 ⟨x, H1, I1, rx, a, C, z, ex, ea, T, N, q⟩ => ?_))
  subst ex
  obtain rfl : u = Value.ref a := rx
  obtain ⟨t1, ho⟩ := exo_at I1.hok ea
  obtain ⟨o, tk, hC, hcls, hsl⟩ := N.lk
  refine exc_class I1.kIn (ox := _) ⟨ho, rfl, rfl, trivial⟩ T.hg T.hk T.hs T.hd T.ha T.hn T.ht T.hm ?_
  have I2 := I1.tok (s1.toks + 1)
  refine cnm_attr (s := { s1 with toks := s1.toks + 1 }) I2.kIn N.rd N.fc hC hcls hsl ?_
  exact ⟨.str z, H1, I2.tok _, ⟨tk, rfl⟩, q⟩
end Sw
set_option Elab.async false
set_option linter.all false
set_option maxRecDepth 100000
set_option maxHeartbeats 2000000
/-! Rules of my own: within an except suite: a def that is handed the caught exception, isinstance of it, a comprehension over a range. -/
namespace Sw
open PySem PySem.Spec PyProof.Rows L2 L2H HotX

/-! ### a def called while p's exception is handled, its promise speaks of p -/
structure FnE (P : Program) (w : World) (K : PySem.W.Frag) (mg : Str → Option Value) (base : Heap) (CX : CXT) (k : Nat) (f : Addr) (fd : FuncData) (ps : List Str) (sp : Addr × Obj → Sp) : Prop where
  len : ∀ p vs H Q E, sp p vs H Q E → vs.length = ps.length
  run : ∀ (p : Addr × Obj) (A : Around) (outer : List Env) (s : Shared) (H : Hp) (args : Args) (us : List Value) (vs : List V) (Q : VK) (E : XK), RoomH k A → Hot1 A p → PinOk outer H s p → Env0 P w K mg base A outer s H →
    BindsTo s fd args (ps.zip us) → Vals vs us → sp p vs H Q E → codeAny (model P w) A (.call (.ref f) args) (CR CX outer P w H s Q E) s
/-- for one exception it is a def of the hot kind; what a hot def's promise may lean on is put into it -/
def atP (p : Addr × Obj) (A : Around) (sp : Sp) : Sp := fun vs H Q E => Hot1 A p ∧ sp vs H Q E
theorem fn_ofE {CX : CXT} {P : Program} {w : World} {K : PySem.W.Frag} {mg : Str → Option Value} {base : Heap} {k : Nat} {f : Addr} {name qual : Str} {params : Arguments} {body : List Stmt} {scope : Scope} {dV kV doc pm cdv ct oc : Value} {an od : Option Addr}
    {osl : Array (Option Value)} {N ps : List Str} {sp : Addr × Obj → Sp} (lk : K.lookup f = some ⟨oc, od, .func (PySem.W.fnOf name qual params body scope dV kV doc pm an cdv ct), osl⟩) (hcd : PySem.W.codeIn K cdv qual = true) (S : FnScope N ps scope)
    (len : ∀ p vs H Q E, sp p vs H Q E → vs.length = ps.length)
    (hbody : ∀ (p : Addr × Obj) (A : Around) (outer : List Env) (s : Shared) (H : Hp) (vs : List V) (Q : VK) (E : XK), Hot1 A p → RoomH k (A.deeper (envOfC qual scope s.heap.objs.size f cdv)) → sp p vs H Q E →
      ∃ t, PSs (cxH CX P w K mg base N qual scope f cdv A outer s H E p) body t ∧ t { nx := fun _ H' => Q .non H', rt := Q } (L2.start N vs) H) :
    FnE P w K mg base CX (k + 1) f (PySem.W.fnOf name qual params body scope dV kV doc pm an cdv ct) ps sp := by
  refine ⟨len, fun p A outer s H args us vs Q E hr hot hpin e0 hb r hsp => ?_⟩
  have KX : K.In s.heap := e0.mod.kin.keeps fun b o e => (e0.bs b o e).1
  have lim := e0.mod.nolimit.keeps fun b o e => (e0.bs b o e).1
  have hl := len p _ _ _ _ hsp
  have names : ∀ y ∈ ps.zip us, scope.names.lookup y.1 = some .local ∨ (scope.names.lookup y.1 = some .cell ∧ ((cellsFrom (s.heap.objs.size + 1) scope.names []).lookup y.1).isSome = true) := by
    rintro ⟨n, v⟩ hy
    exact (S.par n (List.of_mem_zip hy).1).imp id fun q => ⟨q, PySem.W.cellsFrom_some _ _ _ (.inl q)⟩
  refine codeAny_call_function hr.depth (KX _ _ lk) rfl S.co S.gen rfl (PySem.W.codeRec_of KX hcd) (hb _ _ _ _ (wpAny_newFunctionEnv_cells S.kind names fun env he s1 x => ?_))
  subst he
  refine ⟨lim.keeps x.toInCall.keep, codeAny_func ?_⟩
  obtain ⟨t, ht, hq⟩ := hbody p A outer s H vs Q E hot (hr.deeper _) hsp
  refine wpAny_mono (ht.run [] s1 (L2.start N vs) H _ (inv_startH S hpin e0 hl r x) hq) (fun fl s' hs => ?_) fun _ _ z => z
  cases fl with
  | ret u =>
    obtain ⟨v, _, H', J, rv, q⟩ := hs
    exact ⟨v, H', J.os, J.bare, J.base, J.hok, rv, q⟩
  | next =>
    obtain ⟨_, H', J, q⟩ := hs
    exact ⟨V.non, H', J.os, J.bare, J.base, J.hok, rfl, q⟩
  | brk =>
    obtain ⟨_, _, _, q⟩ := hs
    exact False.elim q
  | cont =>
    obtain ⟨_, _, _, q⟩ := hs
    exact False.elim q
/-- f(e, ..), f being handed the exception: what its promise asks is shown of any object that Z holds of -/
def tCallX (Z : Addr × Obj → Prop) (sp : Addr × Obj → Sp) (E : L2.St → XK) (t : TA) : TE := fun σ H Q => t σ H fun vs H1 => ∀ p, Z p → sp p vs H1 Q (E σ)
section
variable {X : Cx} {CX : CXT} {k : Nat} {f : Addr} {fd : FuncData} {ps : List Str} {sp : Addr × Obj → Sp} {E : L2.St → XK} {x : Str} {q pos : Pos} {e : Expr} {es : List Expr} {t : TA} {p : Addr × Obj}
theorem pe_callE {Z : Addr × Obj → Prop} (hz : Z p) (F : FnE X.prog X.w X.K X.mg X.base CX k f fd ps sp) (hr : RoomH k X.A) (hot : Hot1 X.A p) (hp : p ∈ X.pn) (hg : Gl X x) (hm : X.mg x = some (.ref f)) (hk : PySem.W.keepIn X.K (.ref f) = true) (hb : Binds X.K fd ps []) (hx : ∀ σ, PassesAt CX X σ (E σ))
    (ha : PA X (e :: es) t) (hdb : (x == ("__debug__" : Str)) = false := by decide) (he : starEach (e :: es) X.env = (false, eval e X.env) :: starEach es X.env := by rfl) (hpl : (backTo pos (starEach es X.env)).any (·.1) = false := by rfl) :
    PE X (.Call (.Name x q) (e :: es) [] pos) (tCallX Z sp E t) := by
  refine ⟨fun pins s σ H Q I h => wpAny_Call_Name_kw (ld_glob I hg hm ?_ hdb)⟩
  refine PySem.W.callWith_K (h₀ := X.base) I.ok.mod.kin hk (thn (ha.run pos pins s σ H _ I h) fun us s1 ⟨vs, H1, I1, r, all⟩ => ⟨I1.kIn, ?_⟩) he hpl
  have hsp := all p hz
  have hl : us.length = ps.length := r.length.symm.trans (F.len p _ _ _ _ hsp)
  have b := hb s1 us I1.kIn (by rw [List.append_nil]; exact hl)
  rw [List.append_nil] at b
  have P1 := I1.pin p (List.mem_append_left _ hp)
  have hpin : PinOk X.stack H1 s1 p := ⟨P1.1, P1.2.1, fun hm => (List.mem_cons.mp (I1.stkSub p.1 hm)).elim P1.2.2.1 P1.2.2.2.1, P1.2.2.2.2⟩
  refine wpAny_call (codeAny_mono (F.run p X.A X.stack s1 H1 ⟨us, []⟩ us vs Q (E σ) hr hot hpin I1.env0 b r hsp) fun r s' hq => ?_)
  cases r with
  | error e => exact hx σ pins H1 s1 e s' I1 hq
  | ok fl =>
    cases fl with
    | ret u => exact I1.after hq
    | _ => exact hq.elim
end

/-! ### isinstance(e, C), e the exception that is handled, with a dict of its own -/
/-- isinstance(e, c): a the exception, D its class, d its dict -/
def rIsX (K : PySem.W.Frag) (D a d : Addr) : List V → Hp → VK → Prop := fun xs H Q => ∃ (c : V) (cv : Value) (b : Bool) (fs : List (Str × V)), xs = [.ref a, c] ∧ (∀ u, RelV c u → u = cv) ∧ PySem.W.kitOne K (.ref D) cv = some b ∧ H d = some (.xd fs) ∧ Q (.bl b) H
theorem call_isX {X : Cx} {D d : Addr} {p : Addr × Obj} (T : ExcC X.K D) (hp : p ∈ X.pn) (hz : Zc (.ref D) (some d) p.2) (hf : ∃ vs, p.2.data = .fields vs) : CallR X (.builtin "isinstance") (rIsX X.K D p.1 d) := by
  intro pins s σ H xs us Q I r h
  obtain ⟨c, cv, b, fs, rfl, hcv, e, hd, q⟩ := h
  obtain ⟨u1, u2, rfl, r1, r2⟩ := vals2 r
  obtain rfl : u1 = Value.ref p.1 := r1
  obtain rfl := hcv _ r2
  obtain ⟨vs, hv⟩ := hf
  obtain ⟨mA, hns, _⟩ := (show ObjOk X.prog X.w H s.heap d (.xd fs) from I.hok d _ hd)
  obtain ⟨od, ho, _⟩ := lookIn_ns hns
  have J : PySem.W.InstAt s.heap p.1 p.2 D (some od) := ⟨(I.pin p (List.mem_append_left _ hp)).1, hz.1, by unfold PySem.W.notCls; rw [hv] <;> rfl, by rw [hz.2]; exact ho⟩
  exact PySem.W.kia_one (PySem.W.kitx_exc (by obtain ⟨cd, hc, _⟩ := PySem.W.any_some T.hd; rw [hc]; rfl) T.hg T.hk T.hs T.ha T.hn T.ht T.hm) I.kIn J e (fun z => nomatch z) fun tk => ⟨.bl b, H, I.kept (t' := tk) fun _ _ z => z, rfl, q⟩

/-! ### [e for i in range(n) if t] within a suite -/
/-- a comprehension's block there: the handled exception is kept -/
abbrev hBlk (X : Cx) (s : Shared) (H : Hp) (scope : Scope) (cenv : Env) (fp : List Addr) : Cx := { X.blk s H scope cenv fp with pn := X.pn }
theorem hBlk_start {X : Cx} {pins : List (Addr × Obj)} {σ : L2.St} {H : Hp} {s : Shared} {scope : Scope} {own : List (Str × Nat)} {fp : List Addr} (I : Inv X pins σ H s) (ok : BlkOk X.N X.env.scope scope own) (hN : X.N.Nodup) (hfp : ∀ b ∈ fp, FpOk X pins H b ∧ b < s.heap.objs.size) :
    Inv (hBlk X s H scope (compEnvC scope (cellsFrom (s.heap.objs.size + 1) scope.names (cloFrom X.env.cells scope.names [])) s.heap.objs.size X.env) fp) [] (wipe σ (own.map (·.2))) H { s with heap := pushCells (s.heap.push { cls := .type "dict", data := .dict #[] }) scope.names } := by
  have J := block_start I ok hN hfp
  refine ⟨⟨J.ok.mod, J.ok.kind, J.ok.glob, J.ok.blt, J.ok.above, J.ok.inj, J.ok.has, J.ok.cab, J.ok.hd, J.ok.frames, J.ok.stk, J.ok.exf, J.ok.bs, J.ok.bsz, J.ok.noex, J.ok.exfs, J.ok.funs, J.ok.frf⟩, J.os, J.bare, J.base, J.loc, J.cell, J.free, J.freeC, fun p hp => ?_, J.hok, J.len⟩
  have hp2 : p ∈ X.pn := by simpa using hp
  obtain ⟨g1, g2, g3, g4, g5⟩ := I.pin p (List.mem_append_left _ hp2)
  refine ⟨pushCells_keeps _ _ _ _ (Heap.get?_push_of_some _ g1), g2, Nat.ne_of_lt (Heap.lt_size g1), fun hm => ?_, g5⟩
  exact (List.mem_cons.mp (I.stkSub p.1 hm)).elim g3 g4
def tLcH (lo : Int) (n : Nat) (g : TG) (tt : TT) (te : TE) (vs : List Nat) : TE := fun σ H Q => ∀ D, H D = none → ∃ Pv : Nat → Hp → Prop, Pv 0 (upd H D (.lst [])) ∧
  (∀ i H1, i < n → Pv i H1 → g (.int (lo + i)) (wipe σ vs) H1 fun σ2 H2 => wipe σ2 vs = wipe σ vs ∧ tt σ2 H2 fun b H3 =>
    if b = true then te σ2 H3 fun y H4 => ∃ acc, H4 D = some (.lst acc) ∧ acc.length < sizeLine ∧ Pv (i + 1) (upd H4 D (.lst (acc ++ [y]))) else Pv (i + 1) H3) ∧ ∀ H1, Pv n H1 → Q (.ref D) H1
section
variable {X : Cx}
theorem lc_coreH {pins : List (Addr × Obj)} {s : Shared} {σ : L2.St} {H : Hp} {Q : VK} {elt tg iter : Expr} {ifs : List Expr} {scope : Scope} {own : List (Str × Nat)} {pos pos' : Pos} {wi : TI} {g : TG} {tt : TT} {te : TE} {n : Nat} {lo : Int} {use : Option (Value → Sem Unit)} {Qf : Value → Shared → Prop}
    (hc : HotC X) (hN : X.N.Nodup) (I : Inv X pins σ H s) (hi : PIH X tg iter wi) (hw : ∀ σ H (R : It → Hp → Prop), R (Itr lo n) H → wi σ H R)
    (ok : BlkOk X.N X.env.scope scope own)
    (hg : ∀ (s : Shared) (H : Hp) (C : Addr) (cl : List (Str × Addr)) (fp : List Addr), PG (hBlk X s H scope (compEnvC scope cl C X.env) fp) tg g) (ht : ∀ (s : Shared) (H : Hp) (C : Addr) (cl : List (Str × Addr)) (fp : List Addr), PTs (hBlk X s H scope (compEnvC scope cl C X.env) fp) ifs tt)
    (he : ∀ (s : Shared) (H : Hp) (C : Addr) (cl : List (Str × Addr)) (fp : List Addr), PE (hBlk X s H scope (compEnvC scope cl C X.env) fp) elt te) (hs : ∀ x, foldedSetIterable iter X.env x = pure x)
    (h : tLcH lo n g tt te (own.map (·.2)) σ H Q)
    (hRR : ∀ D C s' m H', Inv X pins σ H' s' → Q (.ref D) H' → s'.heap.Ns C m → FpOk X pins H' C → compPost (model X.prog X.w) X.A X.xe use Qf (.ref D) C (.ok .next) s') :
    wpAny (model X.prog X.w) X.A (comprehension (.ListComp elt [⟨tg, iter, ifs, 0⟩] scope pos) scope X.env pos' (newList []) false (eval iter X.env) use) Qf X.xe s := by
  have caps : ∀ y ∈ scope.names, y.2 = .free → ∃ c, X.env.cells.lookup y.1 = some c := fun y hy e => I.ok.has _ ((ok.free y hy e).imp id id)
  refine wpAny_comprehension_free (use := use) rfl hs (closure_ok caps) ok.kind (fun y hy e => (ok.uniq y hy).trans (congrArg some e))
    (thn (hi.run pins s σ H (fun J H' => J = Itr lo n ∧ H' = H) I (hw _ _ _ ⟨rfl, rfl⟩)) fun xv s1 hx => thn hx fun itv s2 h2 => ?_)
  obtain ⟨it, fp, tn, J, H2, rfl, I2, T, st2, f2, eJ, eH⟩ := h2
  subst eJ eH
  refine wpAny_newObj_type (newEnv_comp ?_) (Nat.zero_le _)
  -- the list that is filled stands at D
  generalize hD : s2.heap.objs.size = D
  have freeD : H2 D = none := I2.hok.fresh (Nat.le_of_eq hD)
  obtain ⟨Pv, p0, turn, fin⟩ := h D freeD
  generalize hs3 : ({ s2 with heap := s2.heap.push { cls := .type "list", data := .seq ([] : List Value).toArray } } : Shared) = s3
  have heap3 : s3.heap = s2.heap.push { cls := .type "list", data := .seq ([] : List Value).toArray } := by rw [← hs3]
  have I3 : Inv X pins σ (upd H2 D (.lst [])) s3 := by
    rw [← hs3]
    exact I2.laid (t' := s2.toks) (fun b o e => Heap.get?_push_of_some _ e) (Nat.le_of_eq hD) ⟨Nat.zero_le _, [], 0, .nil, by rw [← hD]; exact Heap.get?_push_size _ rfl⟩
  have f3 : ∀ b ∈ fp, FpOk X pins (upd H2 D (.lst [])) b ∧ b < s3.heap.objs.size := fun b hb => by
    obtain ⟨o, e, _⟩ := T.obj _ _ st2 b hb
    have lt := Heap.lt_size e
    exact ⟨⟨by rw [upd_ne (by rw [← hD]; exact Nat.ne_of_lt lt)]; exact (f2 b hb).1, (f2 b hb).2⟩, by rw [heap3, Heap.size_push]; exact Nat.lt_succ_of_lt lt⟩
  have I4 := hBlk_start I3 ok hN f3
  have pg := hg s3 (upd H2 D (.lst [])) s3.heap.objs.size (cellsFrom (s3.heap.objs.size + 1) scope.names (cloFrom X.env.cells scope.names [])) fp
  have pt := ht s3 (upd H2 D (.lst [])) s3.heap.objs.size (cellsFrom (s3.heap.objs.size + 1) scope.names (cloFrom X.env.cells scope.names [])) fp
  have pe := he s3 (upd H2 D (.lst [])) s3.heap.objs.size (cellsFrom (s3.heap.objs.size + 1) scope.names (cloFrom X.env.cells scope.names [])) fp
  show codeAny _ _ (.compStart (.ListComp elt [⟨tg, iter, ifs, 0⟩] scope pos) 0 (.ref it) (.ref D) (compEnvC scope (cellsFrom (s3.heap.objs.size + 1) scope.names (cloFrom X.env.cells scope.names [])) s3.heap.objs.size X.env))
    (compPost (model X.prog X.w) X.A X.xe use Qf (.ref D) s3.heap.objs.size) { s3 with heap := pushCells (s3.heap.push { cls := .type "dict", data := .dict #[] }) scope.names }
  generalize hce : compEnvC scope (cellsFrom (s3.heap.objs.size + 1) scope.names (cloFrom X.env.cells scope.names [])) s3.heap.objs.size X.env = ce at I4 pg pt pe ⊢
  have cL : ce.locals = s3.heap.objs.size := by subst hce; rfl
  have nf3 : ∀ b ∈ fp, (upd H2 D (.lst [])) b = none := fun b hb => (f3 b hb).1.1
  generalize upd H2 D (.lst []) = H3 at I3 I4 pg pt pe p0 f3 nf3
  have hcB : HotC (hBlk X s3 H3 scope ce fp) := hc
  have st4 : tn 0 (pushCells (s3.heap.push { cls := .type "dict", data := .dict #[] }) scope.names) := T.keep _ _ _ st2 fun b _ o e => pushCells_keeps _ _ _ _ (Heap.get?_push_of_some _ (by rw [heap3]; exact Heap.get?_push_of_some _ e))
  generalize hs4 : ({ s3 with heap := pushCells (s3.heap.push { cls := .type "dict", data := .dict #[] }) scope.names } : Shared) = s4 at I4 ⊢
  have st4 : tn 0 s4.heap := by
    rw [← hs4]
    exact st4
  have stat : ∀ {σ' : L2.St} {H' : Hp} {s' : Shared}, Inv (hBlk X s3 H3 scope ce fp) [] σ' H' s' → (∀ b ∈ fp, H' b = none) → ∀ b ∈ fp, FpOk (hBlk X s3 H3 scope ce fp) [] H' b := fun {_ _ _} I' hn b hb =>
    ⟨hn b hb, (I'.ok.exf b hb).1, I'.ok.exfs b hb, .inl hb, fun x c e => (I'.ok.exf b hb).2 x c e, fun p hp => (f3 b hb).1.2.2.2.2.2 p (List.mem_append_left _ (by simpa using hp))⟩
  suffices loop : codeAny (model X.prog X.w) X.A (.compLoop (.ListComp elt [⟨tg, iter, ifs, 0⟩] scope pos) 0 (.ref it) (.ref D) ce) (compPost (model X.prog X.w) X.A X.xe use Qf (.ref D) s3.heap.objs.size) s4 from codeAny_compStart_list loop (T.self X.A 0 _ _ _ st4 loop)
  refine (compLoop_any (fun m s' => ∃ i H', m = n - i ∧ i ≤ n ∧ Inv (hBlk X s3 H3 scope ce fp) [] (wipe σ (own.map (·.2))) H' s' ∧ tn i s'.heap ∧ (∀ b ∈ fp, H' b = none) ∧ Pv i H') ?_ n ⟨0, H3, by simp, Nat.zero_le _, I4, st4, nf3, p0⟩)
  rintro m s5 ⟨i, H5, rfl, hle, I5, st5, n5, p5⟩
  by_cases hlt : i < n
  · -- one more turn
    refine thnF (T.item (hBlk X s3 H3 scope ce fp) rfl rfl rfl hcB i [] s5 _ H5 (fun _ _ => False) I5 (stat I5 n5) st5 hlt) fun r s6 ⟨u, hr, h6⟩ => ?_
    subst hr
    refine thnF h6 fun _ s7 ⟨x, H7, I7, r7, y7, st7, n7⟩ => ?_
    obtain ⟨e7, ex⟩ := y7
    subst e7 ex
    refine thnF (pg.run _ s7 _ H7 _ u _ (I7.pinned (stat I7 n7) (T.obj _ _ st7)) r7 (turn i H7 hlt p5)) fun _ s8 ⟨σ8, H8, I8, w8, q8⟩ => ?_
    refine thnF (pt.run _ s8 σ8 H8 _ I8 q8) fun b s9 ⟨H9, I9, q9⟩ => ?_
    have next : ∀ {s' : Shared} {H' : Hp}, Inv (hBlk X s3 H3 scope ce fp) ([] ++ pinsAt fp s7.heap) σ8 H' s' → Pv (i + 1) H' →
        ∃ m, m < n - i ∧ ∃ i H', m = n - i ∧ i ≤ n ∧ Inv (hBlk X s3 H3 scope ce fp) [] (wipe σ (own.map (·.2))) H' s' ∧ tn i s'.heap ∧ (∀ b ∈ fp, H' b = none) ∧ Pv i H' := fun {s' H'} I' p' => by
      have still : ∀ b ∈ fp, ∀ o, s7.heap.get? b = some o → s'.heap.get? b = some o ∧ H' b = none := fun b hb o e =>
        let z := I'.pin (b, o) (List.mem_append_right _ (List.mem_append_right _ (mem_pinsAt hb e)))
        ⟨z.1, z.2.1⟩
      refine ⟨n - (i + 1), by omega, i + 1, H', rfl, hlt, (I'.unpinned (pins := [])).weak (by rw [← w8, wipe_length]) (fun j v e => ?_), T.keep _ _ _ st7 fun b hb o e => (still b hb o e).1, fun b hb => ?_, p'⟩
      · rw [← w8] at e
        exact (wipe_some e).1
      · obtain ⟨o, e, _⟩ := T.obj _ _ st7 b hb
        exact (still b hb o e).2
    cases b with
    | false => exact next I9 q9
    | true =>
      refine thnF (pe.run _ s9 σ8 H9 _ I9 q9) fun z s10 ⟨yv, H10, I10, r10, acc, hD10, hz10, nx⟩ => ?_
      exact app_ok (X := hBlk X s3 H3 scope ce fp) I10 hD10 hz10 r10 fun s11 I11 => next I11 nx
  · -- the range is at its end
    have e : i = n := by omega
    subst e
    refine thnF (T.done (hBlk X s3 H3 scope ce fp) rfl rfl rfl hcB i [] s5 _ H5 (fun _ _ => False) I5 (stat I5 n5) st5 (Nat.le_refl i)) fun r s6 ⟨hr, I6⟩ => ?_
    subst hr
    have I7 : Inv X pins σ H5 s6 := I3.call' (ch := fp) I6.os I6.base I6.hok I6.bare fun b hb => ⟨(f3 b hb).1.2.2.2.1, (f3 b hb).1.2.1, (f3 b hb).1.2.2.2.2.1, (f3 b hb).1.2.2.2.2.2⟩
    have noC : H5 s3.heap.objs.size = none := cL ▸ I6.free
    obtain ⟨m, hn, _⟩ := I6.loc
    have hn : s6.heap.Ns s3.heap.objs.size m := cL ▸ hn
    exact hRR D s3.heap.objs.size s6 m H5 I7 (fin H5 p5) hn (I3.fpOk (Nat.le_refl _) noC)
variable {elt tg iter : Expr} {ifs : List Expr} {scope : Scope} {own : List (Str × Nat)} {pos : Pos} {wi : TI} {g : TG} {tt : TT} {te : TE} {n : Nat} {lo : Int}
theorem pe_lcH (hc : HotC X) (hN : X.N.Nodup) (hi : PIH X tg iter wi) (hw : ∀ σ H (R : It → Hp → Prop), R (Itr lo n) H → wi σ H R) (ok : BlkOk X.N X.env.scope scope own)
    (hg : ∀ (s : Shared) (H : Hp) (C : Addr) (cl : List (Str × Addr)) (fp : List Addr), PG (hBlk X s H scope (compEnvC scope cl C X.env) fp) tg g) (ht : ∀ (s : Shared) (H : Hp) (C : Addr) (cl : List (Str × Addr)) (fp : List Addr), PTs (hBlk X s H scope (compEnvC scope cl C X.env) fp) ifs tt)
    (he : ∀ (s : Shared) (H : Hp) (C : Addr) (cl : List (Str × Addr)) (fp : List Addr), PE (hBlk X s H scope (compEnvC scope cl C X.env) fp) elt te) (hs : ∀ x, foldedSetIterable iter X.env x = pure x := by intro _; rfl) :
    PE X (.ListComp elt [⟨tg, iter, ifs, 0⟩] scope pos) (tLcH lo n g tt te (own.map (·.2))) := by
  refine ⟨fun pins s σ H Q I h => ?_⟩
  rw [eval_ListComp]
  refine lc_coreH hc hN I hi hw ok hg ht he hs h fun D C s' m H' I' q hn ⟨z0, z1, z2, z3, z4, z5⟩ => ⟨m, hn, fun h'' sb => ?_⟩
  exact ⟨.ref D, H', I'.turned (t' := s'.toks) (fun b o hb e => (sb.2 b hb).trans e) z0 z1 z3 z4 z5, rfl, q⟩
/-- y = [..], y a local, written within the block's frame -/
theorem ps_setLcH {i : Nat} {y : Str} {py spos : Pos} (hc : HotC X) (hN : X.N.Nodup) (hy : X.N[i]? = some y) (hyl : X.env.scope.names.lookup y = some .local)
    (hsw : swapsWith (.ListComp elt [⟨tg, iter, ifs, 0⟩] scope pos) (some (.Name y py)) spos.line X.env = pure true) (hi : PIH X tg iter wi) (hw : ∀ σ H (R : It → Hp → Prop), R (Itr lo n) H → wi σ H R) (ok : BlkOk X.N X.env.scope scope own)
    (hg : ∀ (s : Shared) (H : Hp) (C : Addr) (cl : List (Str × Addr)) (fp : List Addr), PG (hBlk X s H scope (compEnvC scope cl C X.env) fp) tg g) (ht : ∀ (s : Shared) (H : Hp) (C : Addr) (cl : List (Str × Addr)) (fp : List Addr), PTs (hBlk X s H scope (compEnvC scope cl C X.env) fp) ifs tt)
    (he : ∀ (s : Shared) (H : Hp) (C : Addr) (cl : List (Str × Addr)) (fp : List Addr), PE (hBlk X s H scope (compEnvC scope cl C X.env) fp) elt te) (hs : ∀ x, foldedSetIterable iter X.env x = pure x := by intro _; rfl) :
    PS X (.Assign [.Name y py] (.ListComp elt [⟨tg, iter, ifs, 0⟩] scope pos) spos) (tAsg (tLcH lo n g tt te (own.map (·.2))) (gName i)) := by
  refine ⟨fun pins s σ H D I h => ?_⟩
  rw [exec_Assign_Name_used _ _ _ _ hsw]
  have h : tLcH lo n g tt te (own.map (·.2)) σ H (fun x H1 => gName i x σ H1 D.nx) := h
  refine wpAny_bind (wpAny_standAt (wpAny_bind ?_))
  refine wpAny_bind (thn (lc_coreH (use := some (assign (.Name y py) X.env)) (Qf := fun _ s' => SP X pins D .next s') hc hN I hi hw ok hg ht he hs h fun L C s' m H' I' q hn f => ?_) fun _ _ z => wpAny_pure (wpAny_pure z))
  obtain ⟨z0, z1, z2, z3, z4, z5⟩ := f
  refine wpAny_assign_Name (store_ok2 (v := V.ref L) I' hN hy (.inl hyl) rfl (fun s2 I2 ⟨a, sb, ha⟩ => ?_) (.inr hyl))
  have ne : C ≠ a := ha.elim (fun z => z ▸ z1) (fun z e => z4 y a z e.symm)
  refine ⟨m, hn.sameBut sb ne, fun h3 sb3 => ?_⟩
  exact ⟨_, H', I2.turned (t' := s2.toks) (fun b o hb e => (sb3.2 b hb).trans e) z0 z1 z3 z4 z5, q⟩
end
end Sw
set_option Elab.async false
set_option linter.all false
set_option maxRecDepth 100000
set_option maxHeartbeats 2000000
/-! Rules of my own: max(xs, default=d), xs a list of ints that may be empty. -/
namespace Sw
open PySem
section
variable {prog : Program} {w : World} {A : Around} {R : Result → Shared → Prop} {I S : Addr} {fp wr : List Addr} {n : Nat} {P : Nat → Value → Prop} {St : Nat → Heap → Prop} {d : Value}
abbrev dkw (d : Value) : List (Str × Value) := [(Str.ofString "default", d)]
/-- what stands in the list of the best so far -/
def bestSeq : Option Value → Array Value
  | none => #[]
  | some v => #[v, v]
theorem mxd_loop (W : Walks prog w A.in1 I fp wr n P St) (bt : Nat → Nat → Bool) (hcmp : CmpOf prog w A.in1 .Gt P bt) (hSf : S ∉ fp) : ∀ (k j : Nat) (s : Shared) (c : Nat) (best : Option Value), n - j = k → j ≤ n → St j s.heap →
    (best = none → j = 0) → (∀ v, best = some v → 0 < j ∧ P (argBest bt (j - 1)) v) → s.heap.get? S = some { cls := .type "list", dict := none, data := .seq (bestSeq best) c, slots := #[] } →
    (∀ u h' tk, (n = 0 → u = d) → (0 < n → P (argBest bt (n - 1)) u) → (∀ b o, b ∉ wr → b ≠ S → s.heap.get? b = some o → h'.get? b = some o) → R (.ok (.ret u)) { s with heap := h', toks := tk }) →
    codeAny (model prog w) A (.builtin "max.loop" ⟨[.ref I, .none, .ref S], dkw d⟩) R s := by
  have nameL : (toString "max" ++ toString ".loop" : String) = "max.loop" := by decide
  have hSw : S ∉ wr := fun h => hSf (W.sub _ h)
  intro k
  induction k with
  | zero =>
    intro j s c best hk hj hst h0 h1 hS hR
    have ej : j = n := by omega
    subst ej
    refine codeAny_builtin F.entry_max_loop ?_
    rw [Around.under_plainId F.plain_max_loop _]
    refine wpAny_bind (wpAny_seqItems hS rfl ?_)
    refine wpAny_bind (wpAny_tryCatch (W.done s _ _ hst fun h' tk hk' => ?_))
    have hS' := hk' S _ hSw hS
    cases best with
    | none =>
      have z := h0 rfl
      refine wpAny_bind (wpAny_rule ?_)
      refine wpAny_pure (hR d h' tk (fun _ => rfl) (fun y => absurd y (by omega)) fun b o hbw _ e => hk' b o hbw e)
    | some v =>
      obtain ⟨z1, z2⟩ := h1 v rfl
      have hS2 : h'.get? S = some { cls := .type "list", dict := none, data := .seq #[v, v] c, slots := #[] } := hS'
      refine wpAny_bind (wpAny_updateSeq hS2 rfl (wpAny_bind (wpAny_letGo (wpAny_pure ?_))))
      exact hR v _ tk (fun y => absurd y (by omega)) (fun _ => z2) fun b o hbw hbS e => (Heap.get?_update_other _ _ (Ne.symm hbS)).trans (hk' b o hbw e)
  | succ k ih =>
    intro j s c best hk hj hst h0 h1 hS hR
    have hlt : j < n := by omega
    refine codeAny_builtin F.entry_max_loop ?_
    rw [Around.under_plainId F.plain_max_loop _]
    refine wpAny_bind (wpAny_seqItems hS rfl ?_)
    refine wpAny_bind (wpAny_tryCatch (W.item j s _ _ hlt hst fun v h' tk hP hst' hk' => ?_))
    have hS' := hk' S _ hSw hS
    have put : ∀ (u : Value) (old : Array Value), h'.get? S = some { cls := .type "list", dict := none, data := .seq old c, slots := #[] } → P (argBest bt j) u →
        codeAny (model prog w) A (.builtin "max.loop" ⟨[.ref I, .none, .ref S], dkw d⟩) R { s with heap := h'.update S (Obj.mapSeq fun _ => #[u, u]), toks := tk } := fun u old hS2 hu => by
      have other : ∀ b, b ≠ S → (h'.update S (Obj.mapSeq fun _ => #[u, u])).get? b = h'.get? b := fun b hb => Heap.get?_update_other _ _ (Ne.symm hb)
      refine ih (j + 1) _ _ (some u) (by omega) hlt (W.frame _ _ _ hst' fun b hbf o e => (other b fun z => hSf (by rw [← z]; exact hbf)).trans e) (fun z => nomatch z) (fun v' e => ?_) (Heap.get?_update_self _ hS2 rfl) fun u' h'' tk'' e0 e1 hk'' => ?_
      · cases e
        exact ⟨by omega, hu⟩
      · exact hR u' h'' tk'' e0 e1 fun b o hbw hbS e => hk'' b o hbw hbS ((other b hbS).trans (hk' b o hbw e))
    cases best with
    | none =>
      have z := h0 rfl
      subst z
      have hS2 : h'.get? S = some { cls := .type "list", dict := none, data := .seq #[] c, slots := #[] } := hS'
      refine wpAny_bind (wpAny_pure (wpAny_bind (wpAny_updateSeq hS2 rfl ?_)))
      rw [nameL]
      exact wpAny_pure ⟨plainId_quiet F.plain_max_loop _, put v _ hS2 hP⟩
    | some vb =>
      obtain ⟨z1, z2⟩ := h1 vb rfl
      have hS2 : h'.get? S = some { cls := .type "list", dict := none, data := .seq #[vb, vb] c, slots := #[] } := hS'
      have ej : j - 1 + 1 = j := by omega
      have ab : argBest bt j = if bt j (argBest bt (j - 1)) = true then j else argBest bt (j - 1) := by
        have q : argBest bt (j - 1 + 1) = if bt (j - 1 + 1) (argBest bt (j - 1)) = true then j - 1 + 1 else argBest bt (j - 1) := rfl
        rw [ej] at q
        exact q
      refine wpAny_bind (wpAny_pure (wpAny_bind (wpAny_tryCatch (wpAny_holding (wpAny_bind (hcmp j (argBest bt (j - 1)) v vb _ _ _ hP z2 ?_))))))
      refine wpAny_bind (wpAny_holding (wpAny_truthy_bool (wpAny_bind (wpAny_letGo (wpAny_pure ?_)))))
      cases hb : bt j (argBest bt (j - 1)) with
      | true =>
        rw [hb, if_pos rfl] at ab
        refine wpAny_bind (wpAny_updateSeq hS2 rfl (wpAny_bind (wpAny_letGo ?_)))
        rw [nameL]
        exact wpAny_pure ⟨plainId_quiet F.plain_max_loop _, put v _ hS2 (by rw [ab]; exact hP)⟩
      | false =>
        rw [hb, if_neg (by decide)] at ab
        refine wpAny_bind (wpAny_letGo ?_)
        rw [nameL]
        refine wpAny_pure ⟨plainId_quiet F.plain_max_loop _, ih (j + 1) _ c (some vb) (by omega) hlt hst' (fun z => nomatch z) (fun v' e => ?_) hS2 fun u' h'' tk'' e0 e1 hk'' => ?_⟩
        · cases e
          exact ⟨by omega, by show P (argBest bt j) vb; rw [ab]; exact z2⟩
        · exact hR u' h'' tk'' e0 e1 fun b o hbw hbS e => hk'' b o hbw hbS (hk' b o hbw e)
end
section
variable {prog : Program} {w : World} {A : Around} {E : Value → Shared → Prop} {s : Shared} {l : Addr} {xs : Array (Int × Tok)} {d : Value}
theorem mxd_args (a v : Value) : argsOk "max" ⟨[a], dkw v⟩ := by unfold argsOk; kernel_rfl
theorem mxd_ints {Q : Value → Shared → Prop} (hh : A.handled = none) (hl : s.heap.IsList l (intItems xs))
    (h : ∀ v h' tk, (xs.size = 0 → v = d) → (0 < xs.size → (intItems xs)[argBest (fun i j => decide (numAt xs i > numAt xs j)) (xs.size - 1)]? = some v) → (∀ b o, s.heap.get? b = some o → h'.get? b = some o) → Q v { s with heap := h', toks := tk }) :
    wpAny (model prog w) A (call (.builtin "max") [.ref l] (dkw d)) Q E s := by
  have nameL : (toString "max" ++ toString ".loop" : String) = "max.loop" := by decide
  have hsz : (intItems xs).size = xs.size := by simp [intItems]
  refine PyProof.Rows.kmk_tree F.kind_max F.plain_max F.entry_max (mxd_args _ _) ?_
  refine wpAny_bind (wpAny_of_eq (show Builtin.Builtins.bindParams "max" ["key", "default"] 0 ⟨[], dkw d⟩ = pure [none, some d] from rfl) ?_)
  refine wpAny_bind (wpAny_pure ?_)
  refine wpAny_bind (iter_intList hl fun s2 e st hfp hlI => ?_)
  subst e
  refine wpAny_bind (wpAny_newObj_type ?_)
  rw [nameL]
  refine wpAny_pure ⟨plainId_quiet F.plain_max_loop _, ?_⟩
  have W := Walks.list (prog := prog) (w := w) (A := A.in1) hh s.heap.objs.size l hlI (intItems xs)
  refine mxd_loop W _ (CmpOf.ints_gt (numAt xs) (fun _ _ => intItems_at)) (fun hm => Nat.lt_irrefl _ (hfp _ hm)) _ 0 _ _ none rfl (Nat.zero_le _) (W.frame _ _ _ st fun b _ o e => Heap.get?_push_of_some _ e) (fun _ => rfl) (fun _ z => nomatch z)
    (Heap.get?_push_size _ rfl) fun u h' tk e0 e1 hk => ?_
  refine h u h' tk (fun z => e0 (hsz.trans z)) (fun z => ?_) fun b o e => ?_
  · have q := e1 (by rw [hsz]; exact z)
    rw [hsz] at q
    exact q
  · have lt := Heap.lt_size e
    refine hk b o (fun hm => ?_) (fun z => ?_) (Heap.get?_push_of_some _ (Heap.get?_push_of_some _ e))
    · have z : b = s.heap.objs.size := by simpa using hm
      exact absurd lt (by rw [z]; exact Nat.lt_irrefl _)
    · rw [z, Heap.size_push] at lt
      exact absurd lt (Nat.not_lt.mpr (Nat.le_succ _))
end
end Sw
namespace Sw
open PySem PySem.Spec PyProof.Rows L2
/-- max(xs, default=d) of a list of ints -/
def rMaxD (K : PySem.W.Frag) : List V → List V → Hp → VK → Prop := fun vs zs H Q => ∃ (a : Addr) (ns : List Int) (d : V), vs = [V.ref a] ∧ zs = [d] ∧ SqL K H a (ns.map V.int) ∧ (ns = [] → Q d H) ∧ ∀ m, m ∈ ns → (∀ y, y ∈ ns → y ≤ m) → Q (.int m) H
theorem crk_max {X : Cx} (hc : X.calm = true) : CallRK X (.builtin "max") ["default"] (rMaxD X.K) := by
  intro pins s σ H vs zs us ws Q I r rz h
  obtain ⟨a, ns, d, rfl, rfl, hs, q0, q1⟩ := h
  obtain ⟨its, rv, hl, _⟩ := I.list hs
  rw [Vals.ref1 r]
  cases rz with
  | @cons _ du _ _ rd rz =>
    cases rz
    obtain ⟨xs, e⟩ := rv.ints.allInts.items
    have hn : numsOf (intItems xs).toList = ns := by rw [← e]; exact rv.ints.numsOf
    rw [nums_intItems] at hn
    have hl2 := hl.isList
    rw [e] at hl2
    subst hn
    refine mxd_ints (d := du) (I.ok.hd hc) hl2 fun v h' tk e0 e1 hk => ?_
    cases hz : xs.size with
    | zero =>
      rw [e0 hz]
      refine ⟨d, H, I.kept hk, rd, q0 ?_⟩
      have : xs = #[] := Array.eq_empty_of_size_eq_zero hz
      rw [this]
      rfl
    | succ k =>
      have hv := e1 (by omega)
      obtain ⟨t, rfl⟩ := intItems_at hv
      obtain ⟨h1, h2⟩ := argBest_gt (numAt xs) (xs.size - 1)
      refine ⟨.int _, H, I.kept hk, ⟨t, rfl⟩, q1 _ ?_ fun y hy => ?_⟩
      · rw [numAt_eq]
        exact PySem.getD_mem (by rw [List.length_map, Array.length_toList]; omega)
      · obtain ⟨j, hj, rfl⟩ := mem_getD hy
        rw [List.length_map, Array.length_toList] at hj
        rw [← numAt_eq]
        exact h2 j (by omega)
end Sw
set_option Elab.async false
set_option linter.all false
set_option maxRecDepth 100000
set_option maxHeartbeats 2000000
/-! The head's facts: any closed test of the written part. -/
namespace Sw
open PySem PySem.Spec PyProof.Rows L2 He
abbrev Fb : Type := PySem.W.Frag → Bool
def asR (g : Addr → Option Obj) (roots : List Addr) : Nat → List Addr
  | 0 => roots
  | n + 1 => growD g (asR g roots n)
def obsF (fa : List Fb) (fn : List DefD) (K : PySem.W.Frag) : AlD := ((fa.all fun f => f K) && fn.all fun d => d.ok K, fn.map fun d => fnW K d.at_)
def SaysF (fa : List Fb) (fn : List DefD) (K : PySem.W.Frag) : Prop := obsF fa fn K = valD fn
abbrev roots : List Addr := [mainGlobals, cStatics]
def obsFG (n : Nat) (fa : List Fb) (fn : List DefD) (g : Addr → Option Obj) : AlD := obsF fa fn (frG g (asR g roots n))
def hookF (n : Nat) (fa : List Fb) (fn : List DefD) : PySem.W.Hook where
  α := AlD
  obs := fun s => obsFG n fa fn s.heap.get?
  val := fun _ => valD fn
  says := fun _ h => ∃ K : PySem.W.Frag, K.In h ∧ SaysF fa fn K
  of := fun _ _ e => ⟨_, frG_in, e⟩
  keeps := fun _ _ _ ⟨K, hK, c⟩ k => ⟨K, PySem.W.Frag.In.keeps hK k, c⟩
theorem obsFG_eq {n : Nat} {fa : List Fb} {fn : List DefD} {g : Addr → Option Obj} {s : Shared} (h : ∀ a, g a = s.heap.get? a) : obsFG n fa fn g = (hookF n fa fn).obs s := by
  have e : g = s.heap.get? := funext h
  rw [e] <;> rfl
section
variable {fa : List Fb} {fn : List DefD} {K : PySem.W.Frag}
theorem SaysF.fact (c : SaysF fa fn K) (i : Nat) {f : Fb} (h : fa[i]? = some f := by rfl) : f K = true :=
  List.all_eq_true.mp (ba (show ((fa.all fun f => f K) && fn.all fun d => d.ok K) = true from congrArg (fun z : AlD => z.1) c)).1 f (List.mem_of_getElem? h)
theorem SaysF.def_ (c : SaysF fa fn K) (i : Nat) {d : DefD} (h : fn[i]? = some d := by rfl) : ∃ fd, FunD K d.name d.qual d.params d.body d.scope (d.dvs K) (d.kws K) (fAd K d.at_) fd := by
  have e2 : (fn.map fun d => fnW K d.at_)[i]? = (fn.map DefD.val)[i]? := congrArg (fun z : AlD => z.2[i]?) c
  rw [List.getElem?_map, List.getElem?_map, h] at e2
  exact DefD.funD (Option.some.inj e2) (List.all_eq_true.mp (ba (show ((fa.all fun f => f K) && fn.all fun d => d.ok K) = true from congrArg (fun z : AlD => z.1) c)).2 d (List.mem_of_getElem? h))
end
end Sw
set_option Elab.async false
set_option linter.all false
set_option maxRecDepth 100000
set_option maxHeartbeats 2000000
/-! Own error classes over ValueError whose __init__ hands on to a base's: what the written part says, the promises, raise. -/
namespace Sw
open PySem PySem.Spec PyProof.Rows L2 He

/-! ### tests of the written part -/
def oexB (K : PySem.W.Frag) (C : Addr) : Bool := (match K.lookup C with
  | some ⟨.type c, _, .cls cd, sl⟩ => decide (c = "type") && (match cd.mro, sl.toList with
    | .ref C' :: bm, [_, _, _, _, some (.builtin n), _] => decide (C' = C) && (decide (n = "ValueError.__new__") && (cd.hasDict && (!cd.hasDel && PySem.HandSPX.refsVE bm)))
    | _, _ => false)
  | _ => false) && (eqO (PySem.W.findIn K (.ref C) "__setattr__") (some (some (.builtin "object.__setattr__"))) && (decide (PySem.W.subIn K (.ref C) (.type "BaseException") = some true) && (decide (PySem.W.typeIn K (.ref C) = some (.type "type")) && PySem.W.keepIn K (.ref C))))
theorem oexB_ok {K : PySem.W.Frag} {C : Addr} (h : oexB K C = true) : OexC K C := by
  obtain ⟨h1, h⟩ := ba h
  obtain ⟨h2, h⟩ := ba h
  obtain ⟨h3, h⟩ := ba h
  obtain ⟨h4, h5⟩ := ba h
  refine ⟨?_, eqO_ok h2, of_decide_eq_true h3, of_decide_eq_true h4, h5⟩
  split at h1
  · rename_i c dd cd sl lk
    obtain ⟨hc, h1⟩ := ba h1
    split at h1
    · rename_i C' bm k0 k1 k2 k3 n k5 hm hs
      obtain ⟨e1, h1⟩ := ba h1
      obtain ⟨e2, h1⟩ := ba h1
      obtain ⟨e3, h1⟩ := ba h1
      obtain ⟨e4, e5⟩ := ba h1
      obtain ⟨nm, bs, mro, ns, qn, hd, sn, sub, ab, col, del⟩ := cd
      obtain rfl := of_decide_eq_true hc
      obtain rfl := of_decide_eq_true e1
      obtain rfl := of_decide_eq_true e2
      have hsl : sl = #[k0, k1, k2, k3, some (.builtin "ValueError.__new__"), k5] := by
        obtain ⟨l⟩ := sl
        exact congrArg Array.mk hs
      have hm : mro = Value.ref C' :: bm := hm
      have hhd : hd = true := e3
      have hdl : del = false := by
        cases del with
        | false => rfl
        | true => cases e4
      subst hm hhd hdl hsl
      exact ⟨nm, qn, ns, bs, bm, sn, sub, ab, col, dd, k0, k1, k2, k3, k5, lk, e5⟩
    · cases h1
  · cases h1
def excB (K : PySem.W.Frag) (D : Addr) : Bool := eqO (PySem.W.findIn K (.ref D) "__getattribute__") (some (some (.builtin "BaseException.__getattribute__"))) && (eqO (PySem.W.findIn K (.ref D) "__getattr__") (some none) &&
  (PySem.W.hasDictIn K D && (eqO (PySem.W.findIn K (.ref D) "__class__") (some (some (.builtin "object.__class__"))) && (eqO (PySem.W.specialIn K (.builtin "object.__class__") "__get__") (some (some (.builtin "getset_descriptor.__get__"))) &&
  (decide (PySem.W.takesIn K (.builtin "object.__class__") = some true) && decide (PySem.W.mroIn K D (.type "object") = some true))))))
theorem excB_ok {K : PySem.W.Frag} {D : Addr} (o : OexC K D) (h : excB K D = true) : ExcC K D := by
  obtain ⟨h1, h⟩ := ba h
  obtain ⟨h2, h⟩ := ba h
  obtain ⟨h3, h⟩ := ba h
  obtain ⟨h4, h⟩ := ba h
  obtain ⟨h5, h⟩ := ba h
  obtain ⟨h6, h7⟩ := ba h
  exact ⟨eqO_ok h1, eqO_ok h2, o.exC, h3, eqO_ok h4, eqO_ok h5, of_decide_eq_true h6, of_decide_eq_true h7⟩
def clsRd (K : PySem.W.Frag) (C : Addr) : Bool := PySem.W.readsIn K C (.type "type") && eqO (PySem.W.specialIn K (.ref C) "__getattribute__") (some (some (.builtin "type.__getattribute__")))
def slStr (sl : Array (Option Value)) : Bool := match sl[2]? with
  | some (some (Value.str _ _)) => true
  | _ => false
theorem slStr_ok {sl : Array (Option Value)} (h : slStr sl = true) : ∃ z tk, sl[2]? = some (some (Value.str z tk)) := by
  unfold slStr at h
  split at h
  · rename_i z tk e
    exact ⟨z, tk, e⟩
  · cases h
def namB (K : PySem.W.Frag) (C : Addr) : Bool := (match PySem.W.findCls K (.ref C) (.type "type") "__name__" with
  | some (.get (.builtin g) (.builtin a) (.ref C') (.type t)) => decide (g = "getset_descriptor.__get__") && (decide (a = "type.__name__") && (decide (C' = C) && decide (t = "type")))
  | _ => false) && (match K.lookup C with
  | some ⟨.type c, _, _, sl⟩ => decide (c = "type") && slStr sl
  | _ => false)
theorem namB_ok {K : PySem.W.Frag} {C : Addr} (r : clsRd K C = true) (h : namB K C = true) : ∃ z, NamC K C z := by
  obtain ⟨h1, h2⟩ := ba h
  obtain ⟨r1, _⟩ := ba r
  split at h1
  · rename_i g a C' t e
    obtain ⟨e1, h1⟩ := ba h1
    obtain ⟨e2, h1⟩ := ba h1
    obtain ⟨e3, e4⟩ := ba h1
    obtain rfl := of_decide_eq_true e1
    obtain rfl := of_decide_eq_true e2
    obtain rfl := of_decide_eq_true e3
    obtain rfl := of_decide_eq_true e4
    split at h2
    · rename_i c dd dt sl lk
      obtain ⟨hc, h2⟩ := ba h2
      obtain rfl := of_decide_eq_true hc
      obtain ⟨z, tk, hz⟩ := slStr_ok h2
      exact ⟨z, r1, e, _, tk, lk, rfl, hz⟩
    · cases h2
  · cases h1
def clfnB (K : PySem.W.Frag) (C : Addr) (m : Str) : Bool := clsRd K C && (match PySem.W.findCls K (.ref C) (.type "type") m with
  | some (.val (.ref f)) => decide (f = ma K C m)
  | _ => false)
theorem clfnB_ok {K : PySem.W.Frag} {C : Addr} {m : Str} (h : clfnB K C m = true) : ClFn K C m (ma K C m) := by
  obtain ⟨h1, h2⟩ := ba h
  obtain ⟨r1, r2⟩ := ba h1
  split at h2
  · rename_i f e
    obtain rfl := of_decide_eq_true h2
    exact ⟨r1, eqO_ok r2, e⟩
  · cases h2
def veinB (K : PySem.W.Frag) : Bool := match PySem.W.findCls K (.type "ValueError") (.type "type") "__init__" with
  | some (.val (.builtin b)) => decide (b = "ValueError.__init__")
  | _ => false
theorem veinB_ok {K : PySem.W.Frag} (h : veinB K = true) : PySem.W.findCls K (.type "ValueError") (.type "type") "__init__" = some (.val (.builtin "ValueError.__init__")) := by
  unfold veinB at h
  split at h
  · rename_i b e
    obtain rfl := of_decide_eq_true h
    exact e
  · cases h
/-- an own error class, its __init__ a def -/
def errB (K : PySem.W.Frag) (C : Addr) : Bool := oexB K C && (excB K C && (clsRd K C && (namB K C && (eqO (PySem.W.findIn K (.ref C) "value") (some none) &&
  (eqO (PySem.W.findIn K (.ref C) "__init__") (some (some (.ref (ma K C "__init__")))) && decide (PySem.W.typeIn K (.ref (ma K C "__init__")) = some (.type "function")))))))
structure ErrC (K : PySem.W.Frag) (C : Addr) : Prop where
  o : OexC K C
  e : ExcC K C
  n : ∃ z, NamC K C z
  nv : PySem.W.findIn K (.ref C) "value" = some none
  ini : PySem.W.findIn K (.ref C) "__init__" = some (some (.ref (ma K C "__init__")))
  inT : PySem.W.typeIn K (.ref (ma K C "__init__")) = some (.type "function")
theorem errB_ok {K : PySem.W.Frag} {C : Addr} (h : errB K C = true) : ErrC K C := by
  obtain ⟨h1, h⟩ := ba h
  obtain ⟨h2, h⟩ := ba h
  obtain ⟨h3, h⟩ := ba h
  obtain ⟨h4, h⟩ := ba h
  obtain ⟨h5, h⟩ := ba h
  obtain ⟨h6, h7⟩ := ba h
  have o := oexB_ok h1
  exact ⟨o, excB_ok o h2, namB_ok h3 h4, eqO_ok h5, eqO_ok h6, of_decide_eq_true h7⟩
theorem ErrC.xf {K : PySem.W.Frag} {C : Addr} (T : ErrC K C) : XfC K C := ⟨T.e.hg, T.e.hk, T.o.exC, T.e.hd⟩

/-! ### the promise of such an __init__(self, value) -/
def spEInit (K : PySem.W.Frag) : Sp := fun vs H Q _ => ∃ (a C : Addr) (v : V), vs = [.ref a, v] ∧ H a = some (exo a C none) ∧ ErrC K C ∧ ∀ dx, H dx = none → dx ≠ a → Q .non (upd (upd H dx (exd dx [("value", v)])) a (exo a C (some dx)))
theorem spEInit_len {K : PySem.W.Frag} : ∀ vs H Q E, spEInit K vs H Q E → vs.length = ["self", "value"].length := fun vs H Q E h => by
  obtain ⟨a, C, v, rfl, _⟩ := h
  rfl

/-! ### C(e, ..) as what is raised, nothing being handled: its context is None -/
theorem pmkN_oex {X : Cx} {CX : CXT} {x : Str} {e : Expr} {es : List Expr} {ta : TA} {p pos : Pos} {C fI : Addr} {k : Nat} {fd : FuncData} {ps : List Str} {sp : Sp} {ds : List Value} {dvs : List V} (T : OexC X.K C) (iC : PySem.W.findIn X.K (.ref C) "__init__" = some (some (.ref fI)))
    (tI : PySem.W.typeIn X.K (.ref fI) = some (.type "function")) (F1 : FnOk X.prog X.w X.K X.mg X.base CX k fI fd ps sp) (hr : Room (k + 1) X.A) (hb : Binds X.K fd ps ds) (hd : Vals dvs ds) (hx : Passes CX X (fun _ _ _ => False)) (hg : Gl X x) (hm : X.mg x = some (.ref C)) (ha : PA X (e :: es) ta)
    (hdb : (x == ("__debug__" : Str)) = false := by decide) (he : starEach (e :: es) X.env = (false, eval e X.env) :: starEach es X.env := by rfl) (hpl : (backTo pos (starEach es X.env)).any (·.1) = false := by rfl) :
    L2N.PMk X (.Call (.Name x p) (e :: es) [] pos) (tMkO C sp dvs ta) := by
  intro pins s σ H Q I h
  obtain ⟨nm, q, N, bs, bm, sn, sub, ab, col, dd, k0, k1, k2, k3, k5, hC, hbm⟩ := T.cls
  refine wpAny_Call_Name_kw (ld_glob I hg hm ?_ hdb)
  refine PySem.W.callWith_K (h₀ := X.base) I.ok.mod.kin T.kC (thn (ha.run pos pins s σ H _ I h) fun us s1 ⟨vs, H1, I1, r1, hz, q1⟩ => ⟨I1.kIn, ?_⟩) he hpl
  obtain ⟨hp, g, dr, tk, os⟩ := s1
  -- the new exception stands behind its tuple of arguments
  generalize ea0 : hp.objs.size + 1 = a0
  have le0 : hp.objs.size ≤ a0 := by omega
  have free0 : H1 a0 = none := I1.hok.fresh le0
  have hq := q1 a0 free0
  have keep0 : ∀ b o, hp.get? b = some o → ((hp.push (PySem.W.kdv_tup us)).push (PySem.HandSPX.excO C hp.objs.size)).get? b = some o := fun b o e => Heap.get?_push_of_some _ (Heap.get?_push_of_some _ e)
  have get0 : ((hp.push (PySem.W.kdv_tup us)).push (PySem.HandSPX.excO C hp.objs.size)).get? a0 = some (PySem.HandSPX.excO C hp.objs.size) := by
    rw [← ea0]
    heap_get
  have I2 := I1.laid (t' := tk) (a := a0) (o := exo a0 C none) keep0 le0 (exo_ok get0)
  have r2 : Vals (V.ref a0 :: (vs ++ dvs)) (Value.ref a0 :: (us ++ ds)) := .cons rfl (r1.append hd)
  have hl : (Value.ref a0 :: us ++ ds).length = ps.length := (r2.length).symm.trans (F1.len _ _ _ _ hq)
  have hus : us.length ≤ sizeLine := by
    rw [← Paired.length r1, sizeLine_eq]
    omega
  subst ea0
  refine wpAny_call (PySem.HandSPX.call_own F.excBase_ValueError (fun Y => PySem.HandSPX.refsVE_contains Y bm hbm) (I1.kIn _ _ hC) (PySem.W.looks_findIn I1.kIn iC) (fun self => PySem.W.bind_fn I1.kIn self tI) hus
    (codeAny_mono (F1.run _ X.stack _ _ ⟨Value.ref (hp.objs.size + 1) :: us, []⟩ _ _ _ (fun _ _ _ => False) (hr.make C us []) (I2.env0.make C us []) (hb _ _ I2.kIn hl) r2 hq) fun r s' hq' => ?_))
  cases r with
  | error er => exact hx pins σ _ _ er s' I2 hq'
  | ok fl =>
    cases fl with
    | ret u =>
      obtain ⟨v, H2, os2, bare2, un2, hok2, rv, ev, d, fs, ea, ed, hd1, q2⟩ := hq'
      subst ev
      obtain ⟨h2, g2, d2, t2, os'⟩ := s'
      obtain ⟨t0, G, J, kG, ge, hoe, na⟩ := mk_end0 (d2 := d2) (t2 := t2) I1 le0 keep0 un2 hok2 os2 bare2 ea ed hd1
      refine ⟨rv, _, _, _, ⟨G, g2, d2, t2, os'⟩, _, .ref C, some d, rfl, J, kG, ge, hoe, ⟨rfl, rfl, fun ws hv => ?_⟩, rfl, rfl, na, rfl, bare2, raises_own T.exC T.tyC, q2⟩
      cases hv
      rfl
    | _ => exact hq'.elim
end Sw
set_option Elab.async false
set_option linter.all false
set_option maxRecDepth 100000
set_option maxHeartbeats 2000000
namespace K0
open PySem PySem.Spec PyProof.Rows L2 He Sw
/-! ### the text by places -/
def top (i : Nat) : Stmt := PySem.Challenge.pw_samewords_k00_names_and_numbers.main.body.getD i (.Pass ⟨0, 0, 0, 0⟩)
abbrev sSE : Stmt := inClass (top 2) 0
abbrev sBName : Stmt := inClass (top 3) 0
abbrev sBNum : Stmt := inClass (top 5) 0
abbrev sIsInt : Stmt := top 16
abbrev sIsName : Stmt := top 17
abbrev sCkName : Stmt := top 19
abbrev sForm : Stmt := inClass (top 25) 0
abbrev sNum : Stmt := inClass (top 26) 0
abbrev sName : Stmt := inClass (top 27) 0
abbrev sLInt : Stmt := top 30
abbrev sDraw : Stmt := top 31
abbrev sLarge : Stmt := top 32
abbrev sBad : Stmt := top 33
abbrev sEqual : Stmt := top 34
abbrev sClass : Stmt := top 35
abbrev sText : Stmt := top 36
abbrev sInteger : Stmt := top 37
abbrev sGood : Stmt := top 38
abbrev sTried : Stmt := top 39
abbrev sHolds : Stmt := top 40
abbrev sLaw : Stmt := top 41
/-! ### what the head tells -/
def dF (x : Str) (st : Stmt) : DefD := ⟨(x, none), x, x, defArgs st, defBody st, defScope st, [], []⟩
def dM (c q : Str) (st : Stmt) (dfl : List Dv) : DefD := ⟨(c, some "__init__"), "__init__", q, defArgs st, defBody st, defScope st, dfl, []⟩
def fn : List DefD := [dM "SameError" "SameError.__init__" sSE [.non], dM "BadName" "BadName.__init__" sBName [], dM "BadNumber" "BadNumber.__init__" sBNum [],
  dF "is_integer" sIsInt, dF "is_name" sIsName, dF "check_name" sCkName, dM "Formula" "Formula.__init__" sForm [], dM "Number" "Number.__init__" sNum [], dM "Name" "Name.__init__" sName [],
  dF "_law_is_integer" sLInt, dF "_law_draw" sDraw, dF "_law_large" sLarge, dF "_law_bad" sBad, dF "_law_equal" sEqual, dF "_law_class" sClass, dF "_law_text" sText, dF "_law_integer" sInteger, dF "_law_good" sGood, dF "_law_tried" sTried,
  dF "_law_holds" sHolds, dF "law" sLaw]
def gloL : List Str := ["SameError", "BadName", "BadWidth", "BadNumber", "BadBound", "BadFormula", "BadValue", "TooMany", "TooLong", "NO_NAMES", "is_integer", "is_name", "check_name", "Formula", "Number", "Name",
  "_law_is_integer", "_law_draw", "_law_large", "_law_bad", "_law_equal", "_law_class", "_law_text", "_law_integer", "_law_good", "_law_tried", "_law_holds", "law"]
def freeL : List Str := ["ValueError", "isinstance", "int", "bool", "str", "len", "all", "sum", "max", "range", "abs", "list", "tuple"]
def errL : List Str := ["BadName", "BadNumber"]
def kinds : List Str := ["BadName", "BadWidth", "BadNumber", "BadBound", "BadFormula", "BadValue", "TooMany", "TooLong"]
def kitB2 (K : PySem.W.Frag) (a b : Str) (r : Bool) : Bool := decide (PySem.W.kitOne K (.ref (ga K a)) (.ref (ga K b)) = some r)
/-- an own class whose instances isinstance may ask -/
def insB (K : PySem.W.Frag) (C : Addr) : Bool := eqO (PySem.W.findIn K (.ref C) "__class__") (some (some (.builtin "object.__class__"))) && (eqO (PySem.W.specialIn K (.builtin "object.__class__") "__get__") (some (some (.builtin "getset_descriptor.__get__"))) &&
  (decide (PySem.W.takesIn K (.builtin "object.__class__") = some true) && decide (PySem.W.mroIn K C (.type "object") = some true)))
def noNames : List Str := ["width", "in", "def", "let", "if", "then", "else", "out", "sum"]
def fa : List Fb := [
  fun K => gloL.all fun x => (Fa.glo x).ok K,
  fun K => freeL.all fun x => (Fa.free x).ok K,
  fun K => errL.all fun x => errB K (ga K x),
  fun K => errL.all fun x => kinds.all fun y => kitB2 K x y (decide (x = y)),
  fun K => errL.all fun x => (Fa.exm x "SameError" true).ok K,
  fun K => errL.all fun x => decide (PySem.W.kitOne K (.ref (ga K x)) (.type "ValueError") = some true),
  fun K => clfnB K (ga K "SameError") "__init__",
  fun K => clfnB K (ga K "Formula") "__init__",
  fun K => veinB K,
  fun K => (Fa.str "LETTERS" "abcdefghijklmnopqrstuvwxyz").ok K,
  fun K => (Fa.int "MOST_LETTERS" 8).ok K,
  fun K => (Fa.int "MOST_PARTS" 300).ok K,
  fun K => (Fa.int "MOST_DEPTH" 40).ok K,
  fun K => (Fa.int "NUMBER_END" (10 ^ 30)).ok K,
  fun K => tupB K "NO_NAMES" (noNames.map Dv.str),
  fun K => ["Number", "Name"].all fun x => (Fa.cls x).ok K && ((Fa.mkr x).ok K && insB K (ga K x)),
  fun K => ["Number", "Name"].all fun x => ["kind", "things", "parts", "depth"].all fun f => (Fa.noat x f).ok K,
  fun K => ["Number", "Name"].all fun x => kitB2 K x "Formula" true && (kitB2 K x "Number" (decide (x = "Number")) && kitB2 K x "Name" (decide (x = "Name")))]
abbrev R : PySem.W.OpenRow := PySem.W.OpenLaw.row PySem.Challenge.rw_samewords_k00_names_and_numbers
abbrev hk : PySem.W.Hook := hookF 6 fa fn
def ob (s : PySem.W.SharedT) : AlD := obsFG 6 fa fn (HandSHeadRun.getT s)
theorem ob_eq (s : PySem.W.SharedT) : ob s = hk.obs s.abs := obsFG_eq (HandSHeadRun.getT_eq s)
def loose1 : List Str := ["_wall", "__name__", "SameError", "BadName", "BadWidth", "BadNumber", "BadBound", "BadFormula", "BadValue", "TooMany", "TooLong", "LETTERS", "NO_NAMES", "MOST_LETTERS", "MOST_SHIFT", "is_integer", "is_name", "is_shift", "check_name", "check_shift", "MOST_PARTS"]
def loose2 : List Str := ["MOST_DEPTH", "NUMBER_END", "Formula", "Number", "Name", "check_formula", "_law_is_integer", "_law_draw", "_law_large", "_law_bad", "_law_equal", "_law_class", "_law_text", "_law_integer", "_law_good", "_law_tried", "_law_holds"]
end K0
set_option Elab.async false
set_option linter.all false
set_option maxRecDepth 100000
set_option maxHeartbeats 0
namespace K0
open PySem PySem.Spec PyProof.Rows L2 He Sw
theorem run (w : World) : HandSHeadRun.RunEq R (PySem.W.view R.prog [41]) hk ob 4000 (loose1 ++ loose2) w := by
  intro os
  kernel_rfl
end K0
set_option Elab.async false
set_option linter.all false
set_option maxRecDepth 100000
set_option maxHeartbeats 2000000
namespace K0
open PySem PySem.Spec PyProof.Rows L2 He Sw
/-! ### what the defs lean on -/
structure InsT (K : PySem.W.Frag) (C : Addr) : Prop where
  cl : Cls K C
  mkr : Mk K C (ma K C "__init__")
  ha : PySem.W.findIn K (.ref C) "__class__" = some (some (.builtin "object.__class__"))
  hn : PySem.W.specialIn K (.builtin "object.__class__") "__get__" = some (some (.builtin "getset_descriptor.__get__"))
  ht : PySem.W.takesIn K (.builtin "object.__class__") = some true
  hm : PySem.W.mroIn K C (.type "object") = some true
  no : ∀ f ∈ (["kind", "things", "parts", "depth"] : List Str), NoAttr K C f
structure Txt (K : PySem.W.Frag) (mg : Str → Option Value) : Prop where
  glo : ∀ x ∈ gloL, mg x = some (.ref (ga K x))
  fre : ∀ x ∈ freeL, mg x = none
  err : ∀ x ∈ errL, ErrC K (ga K x)
  kit : ∀ x ∈ errL, ∀ y ∈ kinds, PySem.W.kitOne K (.ref (ga K x)) (.ref (ga K y)) = some (decide (x = y))
  exm : ∀ x ∈ errL, PySem.W.exmOne K (.ref (ga K x)) (.ref (ga K "SameError")) = some true
  kve : ∀ x ∈ errL, PySem.W.kitOne K (.ref (ga K x)) (.type "ValueError") = some true
  seI : ClFn K (ga K "SameError") "__init__" (ma K (ga K "SameError") "__init__")
  foI : ClFn K (ga K "Formula") "__init__" (ma K (ga K "Formula") "__init__")
  ve : PySem.W.findCls K (.type "ValueError") (.type "type") "__init__" = some (.val (.builtin "ValueError.__init__"))
  let_ : ∃ t, mg "LETTERS" = some (.str "abcdefghijklmnopqrstuvwxyz" t)
  mLet : ∃ t, mg "MOST_LETTERS" = some (.int 8 t)
  mPar : ∃ t, mg "MOST_PARTS" = some (.int 300 t)
  mDep : ∃ t, mg "MOST_DEPTH" = some (.int 40 t)
  nEnd : ∃ t, mg "NUMBER_END" = some (.int (10 ^ 30) t)
  noN : ∀ H : Hp, SqT K H (ga K "NO_NAMES") (noNames.map V.str)
  ins : ∀ x ∈ (["Number", "Name"] : List Str), InsT K (ga K x)
  kF : ∀ x ∈ (["Number", "Name"] : List Str), PySem.W.kitOne K (.ref (ga K x)) (.ref (ga K "Formula")) = some true
  kNu : ∀ x ∈ (["Number", "Name"] : List Str), PySem.W.kitOne K (.ref (ga K x)) (.ref (ga K "Number")) = some (decide (x = "Number"))
  kNa : ∀ x ∈ (["Number", "Name"] : List Str), PySem.W.kitOne K (.ref (ga K x)) (.ref (ga K "Name")) = some (decide (x = "Name"))
section
variable {P : Program} {w : World} {K : PySem.W.Frag} {mg : Str → Option Value} {base : Heap}
theorem Txt.g (T : Txt K mg) (x : Str) (h : x ∈ gloL := by decide +kernel) : mg x = some (.ref (ga K x)) := T.glo x h
theorem Txt.f (T : Txt K mg) (x : Str) (h : x ∈ freeL := by decide +kernel) : mg x = none := T.fre x h
/-- a def of the text -/
abbrev FnM (K : PySem.W.Frag) (c q : Str) (st : Stmt) (dvs : List V) (fd : FuncData) : Prop := FunD K "__init__" q (defArgs st) (defBody st) (defScope st) dvs [] (ma K (ga K c) "__init__") fd
abbrev FnG (K : PySem.W.Frag) (x : Str) (st : Stmt) (fd : FuncData) : Prop := FunD K x x (defArgs st) (defBody st) (defScope st) [] [] (ga K x) fd

/-! ### the errors -/
theorem scSE : FnScope ["self", "value"] ["self", "value"] (defScope sSE) := ⟨rfl, rfl, rfl, by decide +kernel, rfl, by decide +kernel, by decide +kernel⟩
theorem ok_SE {fd : FuncData} (T : Txt K mg) (F : FnM K "SameError" "SameError.__init__" sSE [.non] fd) : FnOk P w K mg base CX0 1 (ma K (ga K "SameError") "__init__") fd ["self", "value"] (spEInit K) := by
  refine F.ok scSE spEInit_len (fun cdv A outer s H vs Q E hr h => ?_)
  obtain ⟨a, C, v, rfl, ha, TC, k⟩ := h
  refine ⟨_, pss_cons (ps_expr (pe_veinit rfl (T.f "ValueError") T.ve (pa_cons (pv 0) (pa_cons (pe_exn (pv 0)) pa_nil)))) (pss_one (ps_ost (pv 0) (pv 1))), ?_⟩
  obtain ⟨z, hz⟩ := TC.n
  refine ⟨_, rfl, _, rfl, a, C, z, rfl, ha, TC.e, hz, a, C, _, rfl, (by show 1 ≤ 1000; decide), TC.o, ha, ?_⟩
  exact ⟨_, rfl, _, rfl, a, C, rfl, TC.o, TC.nv, .inl ⟨ha, fun dx h1 h2 => k dx h1 h2⟩⟩
theorem binds_SE {fd : FuncData} (F : FnM K "SameError" "SameError.__init__" sSE [.non] fd) : Binds K fd ["self", "value"] [] := by
  obtain ⟨ds, hv, hb⟩ := F.binds1 (ps := ["self", "value"]) 2 1 (by simp) rfl (fun _ _ _ _ _ _ _ us its hu hi => match us, hu, its, hi with | [_, _], _, [_], _ => ⟨_, rfl, rfl⟩)
  cases hv
  exact hb
theorem scBName : FnScope ["self", "value"] ["self", "value"] (defScope sBName) := ⟨rfl, rfl, rfl, by decide +kernel, rfl, by decide +kernel, by decide +kernel⟩
theorem ok_BName {fd fdS : FuncData} (T : Txt K mg) (F : FnM K "BadName" "BadName.__init__" sBName [] fd) (FS : FnM K "SameError" "SameError.__init__" sSE [.non] fdS) :
    FnOk P w K mg base CX0 2 (ma K (ga K "BadName") "__init__") fd ["self", "value"] (spEInit K) := by
  refine F.ok scBName spEInit_len (fun cdv A outer s H vs Q E hr h => ?_)
  obtain ⟨a, C, v, rfl, ha, TC, k⟩ := h
  refine ⟨_, pss_one (ps_expr (pe_clfn (x := "SameError") rfl (T.g "SameError") T.seI (ok_SE T FS) hr FS.kp (binds_SE FS) .nil pass0 (pa_cons (pv 0) (pa_cons (pv 1) pa_nil)))), ?_⟩
  exact ⟨_, rfl, _, rfl, a, C, v, rfl, ha, TC, k⟩
theorem scBNum : FnScope ["self", "value"] ["self", "value"] (defScope sBNum) := ⟨rfl, rfl, rfl, by decide +kernel, rfl, by decide +kernel, by decide +kernel⟩
theorem ok_BNum {fd fdS : FuncData} (T : Txt K mg) (F : FnM K "BadNumber" "BadNumber.__init__" sBNum [] fd) (FS : FnM K "SameError" "SameError.__init__" sSE [.non] fdS) :
    FnOk P w K mg base CX0 2 (ma K (ga K "BadNumber") "__init__") fd ["self", "value"] (spEInit K) := by
  refine F.ok scBNum spEInit_len (fun cdv A outer s H vs Q E hr h => ?_)
  obtain ⟨a, C, v, rfl, ha, TC, k⟩ := h
  refine ⟨_, pss_one (ps_expr (pe_clfn (x := "SameError") rfl (T.g "SameError") T.seI (ok_SE T FS) hr FS.kp (binds_SE FS) .nil pass0 (pa_cons (pv 0) (pa_cons (pv 1) pa_nil)))), ?_⟩
  exact ⟨_, rfl, _, rfl, a, C, v, rfl, ha, TC, k⟩

/-! ### the things that are handed in -/
inductive Th (H : Hp) : V → String → Prop
  | non : Th H .non "NoneType"
  | bl (b : Bool) : Th H (.bl b) "bool"
  | int (i : Int) : Th H (.int i) "int"
  | str (z : Str) (h : z.length ≤ 100) : Th H (.str z) "str"
  | tup (a : Addr) (e : H a = some (.tup [.str "x"])) : Th H (.ref a) "tuple"
  | lst (a : Addr) (e : H a = some (.lst [.str "x"])) : Th H (.ref a) "list"
  | dct (a : Addr) (e : H a = some (.dK [(.inr "x", .int 1)])) : Th H (.ref a) "dict"
theorem Th.ty {H : Hp} {v : V} {n : String} (t : Th H v n) : TyX K H v (.type n) := by
  cases t with
  | non => exact .base .non
  | bl b => exact .base (.bl b)
  | int i => exact .base (.int i)
  | str z h => exact .base (.str z)
  | tup a e => exact .base (.tup e)
  | lst a e => exact .base (.lst e)
  | dct a e => exact .base (.dK e)
theorem Th.same {H H' : Hp} {v : V} {n : String} (t : Th H v n) (s : Same H H') : Th H' v n := by
  cases t with
  | non => exact .non
  | bl b => exact .bl b
  | int i => exact .int i
  | str z h => exact .str z h
  | tup a e => exact .tup a (s _ _ e)
  | lst a e => exact .lst a (s _ _ e)
  | dct a e => exact .dct a (s _ _ e)
def isI : V → Bool
  | .int _ => true
  | _ => false
def isS : V → Bool
  | .str _ => true
  | _ => false
def isB : V → Bool
  | .bl _ => true
  | _ => false
theorem Th.kInt {H : Hp} {v : V} {n : String} (t : Th H v n) : PySem.W.kitOne K (.type n) (.type "int") = some (isI v || isB v) := by
  cases t <;> first
    | exact kit_ty (show kitB _ _ = some true by decide +kernel)
    | exact kit_ty (show kitB _ _ = some false by decide +kernel)
theorem Th.kBool {H : Hp} {v : V} {n : String} (t : Th H v n) : PySem.W.kitOne K (.type n) (.type "bool") = some (isB v) := by
  cases t <;> first
    | exact kit_ty (show kitB _ _ = some true by decide +kernel)
    | exact kit_ty (show kitB _ _ = some false by decide +kernel)
theorem Th.kStr {H : Hp} {v : V} {n : String} (t : Th H v n) : PySem.W.kitOne K (.type n) (.type "str") = some (isS v) := by
  cases t <;> first
    | exact kit_ty (show kitB _ _ = some true by decide +kernel)
    | exact kit_ty (show kitB _ _ = some false by decide +kernel)

/-! ### is_integer, the law's own too -/
def spIsInt : Sp := fun vs H Q _ => ∃ (v : V) (n : String), vs = [v] ∧ Th H v n ∧ Q (.bl (isI v)) H
theorem scIsInt : FnScope ["thing"] ["thing"] (defScope sIsInt) := ⟨rfl, rfl, rfl, by decide +kernel, rfl, by decide +kernel, by decide +kernel⟩
theorem ok_isInt {fd : FuncData} (T : Txt K mg) (F : FnG K "is_integer" sIsInt fd) : FnOk P w K mg base CX0 1 (ga K "is_integer") fd ["thing"] spIsInt := by
  refine F.ok scIsInt (fun vs H Q E h => ?_) (fun cdv A outer s H vs Q E hr h => ?_)
  · obtain ⟨v, n, rfl, _⟩ := h
    rfl
  obtain ⟨v, n, rfl, t, k⟩ := h
  refine ⟨_, pss_one (ps_ret (pe_and (pe_callB call_isi rfl (T.f "isinstance") (by decide +kernel) (pa_cons (pv 0) (pa_cons (pe_bltn (v := .ty "int") rfl (T.f "int") (by decide +kernel) rfl) pa_nil)))
    (pe_one (pe_not (pe_callB call_isi rfl (T.f "isinstance") (by decide +kernel) (pa_cons (pv 0) (pa_cons (pe_bltn (v := .ty "bool") rfl (T.f "bool") (by decide +kernel) rfl) pa_nil))))))), ?_⟩
  refine ⟨_, rfl, v, .ty "int", .type n, .type "int", _, rfl, .ty _, t.ty, t.kInt, _, rfl, ?_⟩
  refine ite2 (fun h => ?_) (fun h => ?_)
  · refine ⟨_, rfl, v, .ty "bool", .type n, .type "bool", _, rfl, .ty _, t.ty, t.kBool, _, rfl, ?_⟩
    have e : (!isB v) = isI v := by cases t <;> first | rfl | cases h
    rw [e]
    exact k
  · have e : isI v = false := by cases t <;> first | rfl | exact absurd rfl h
    rw [e] at k
    exact k
theorem scLInt : FnScope ["_law_thing"] ["_law_thing"] (defScope sLInt) := ⟨rfl, rfl, rfl, by decide +kernel, rfl, by decide +kernel, by decide +kernel⟩
theorem ok_lInt {fd : FuncData} (T : Txt K mg) (F : FnG K "_law_is_integer" sLInt fd) : FnOk P w K mg base CX0 1 (ga K "_law_is_integer") fd ["_law_thing"] spIsInt := by
  refine F.ok scLInt (fun vs H Q E h => ?_) (fun cdv A outer s H vs Q E hr h => ?_)
  · obtain ⟨v, n, rfl, _⟩ := h
    rfl
  obtain ⟨v, n, rfl, t, k⟩ := h
  refine ⟨_, pss_one (ps_ret (pe_and (pe_callB call_isi rfl (T.f "isinstance") (by decide +kernel) (pa_cons (pv 0) (pa_cons (pe_bltn (v := .ty "int") rfl (T.f "int") (by decide +kernel) rfl) pa_nil)))
    (pe_one (pe_not (pe_callB call_isi rfl (T.f "isinstance") (by decide +kernel) (pa_cons (pv 0) (pa_cons (pe_bltn (v := .ty "bool") rfl (T.f "bool") (by decide +kernel) rfl) pa_nil))))))), ?_⟩
  refine ⟨_, rfl, v, .ty "int", .type n, .type "int", _, rfl, .ty _, t.ty, t.kInt, _, rfl, ?_⟩
  refine ite2 (fun h => ?_) (fun h => ?_)
  · refine ⟨_, rfl, v, .ty "bool", .type n, .type "bool", _, rfl, .ty _, t.ty, t.kBool, _, rfl, ?_⟩
    have e : (!isB v) = isI v := by cases t <;> first | rfl | cases h
    rw [e]
    exact k
  · have e : isI v = false := by cases t <;> first | rfl | exact absurd rfl h
    rw [e] at k
    exact k
end
end K0
set_option Elab.async false
set_option linter.all false
set_option maxRecDepth 100000
set_option maxHeartbeats 2000000
namespace Sw
open PySem PySem.Spec PyProof.Rows L2
/-- [f(c) for c in z], the element changes nothing -/
theorem lc_mapS {i : Nat} {z : Str} {f : Nat → V} {te : TE} {σ : L2.St} {H1 : Hp} {D : Addr} {Qd : Hp → Prop} (hz : z.length ≤ 1000)
    (ht : ∀ (c : Nat) (H : Hp) (Q : VK), Q (f c) H → te ((wipe σ [i]).set i (some (.str ⟨#[c]⟩))) H Q) (hd : Qd (upd H1 D (.lst (z.cps.toList.map f)))) :
    ∃ W : Nat → Nat → Hp → Prop, (∃ m, W 0 m (upd H1 D (.lst []))) ∧ ∀ j m H, W j m H →
      ((Its z).stop j H ∧ Qd H) ∨ ((Its z).go j H ∧ ∃ Nx : Hp → Prop, (∀ H', Nx H' → ∃ m', m' < m ∧ W (j + 1) m' H') ∧ ∀ x H', (Its z).yld j H x H' → gName i x (wipe σ [i]) H' fun σ2 H2 => wipe σ2 [i] = wipe σ [i] ∧ tYes σ2 H2 fun b H3 =>
        if b = true then te σ2 H3 fun y H4 => ∃ acc, H4 D = some (.lst acc) ∧ acc.length < sizeLine ∧ Nx (upd H4 D (.lst (acc ++ [y]))) else Nx H3) := by
  have hsz : z.cps.size ≤ 1000 := hz
  have updd : ∀ (o o' : HO), upd (upd H1 D o) D o' = upd H1 D o' := fun o o' => by
    funext b
    by_cases hb : b = D
    · rw [hb, upd_same, upd_same]
    · rw [upd_ne hb, upd_ne hb, upd_ne hb]
  refine lc_it walk_str (fun j H => H = upd H1 D (.lst ((z.cps.toList.take j).map f))) (by simp) (fun _ _ _ _ => trivial) ?_ ?_
  · rintro j x H H' hj rfl ⟨rfl, c, hc, rfl⟩
    have hc2 : z.cps.toList[j]? = some c := by rw [Array.getElem?_toList]; exact hc
    refine ⟨by simp [wipe], ?_⟩
    refine ht c (upd H1 D (.lst ((z.cps.toList.take j).map f))) _ ⟨_, upd_same, ?_, ?_⟩
    · rw [List.length_map, List.length_take, sizeLine_eq]
      omega
    · show upd (upd H1 D _) D _ = _
      rw [updd, List.take_add_one, hc2]
      simp
  · rintro H rfl
    have e : z.cps.toList.take z.cps.size = z.cps.toList := List.take_of_length_le (by simp)
    rw [e]
    exact hd
end Sw
namespace K0
open PySem PySem.Spec PyProof.Rows L2 He Sw
section
variable {P : Program} {w : World} {K : PySem.W.Frag} {mg : Str → Option Value} {base : Heap}
abbrev LET : Str := "abcdefghijklmnopqrstuvwxyz"
/-- a text of small letters alone -/
def low (z : Str) : Bool := z.cps.toList.all fun c => decide (c ∈ LET.cps.toList)
def isNmS (z : Str) : Bool := decide ((1 : Int) ≤ (z.length : Nat)) && (decide (((z.length : Nat) : Int) ≤ 8) && (!inV (.str z) (noNames.map V.str) && low z))
def isNm : V → Bool
  | .str z => isNmS z
  | _ => false
def spIsName : Sp := fun vs H Q _ => ∃ (v : V) (n : String), vs = [v] ∧ Th H v n ∧ ∀ H', Same H H' → Q (.bl (isNm v)) H'
theorem scIsName : FnScope ["thing", "letter"] ["thing"] (defScope sIsName) := ⟨rfl, rfl, rfl, by decide +kernel, rfl, by decide +kernel, by decide +kernel⟩
theorem noN_flat : (noNames.map V.str).all flatV = true := rfl
theorem ok_isName {fd : FuncData} (T : Txt K mg) (F : FnG K "is_name" sIsName fd) : FnOk P w K mg base CX0 1 (ga K "is_name") fd ["thing"] spIsName := by
  refine F.ok scIsName (fun vs H Q E h => ?_) (fun cdv A outer s H vs Q E hr h => ?_)
  · obtain ⟨v, n, rfl, _⟩ := h
    rfl
  obtain ⟨v, n, rfl, t, k⟩ := h
  obtain ⟨tL, hL⟩ := T.let_
  obtain ⟨t8, h8⟩ := T.mLet
  have nd := scIsName.nd
  refine ⟨_, PSs.nox (pss_cons (ps_if (PW.pt (pw_or (pt_not (pt_val (pe_callB call_isi rfl (T.f "isinstance") (by decide +kernel) (pa_cons (pv 0) (pa_cons (pe_bltn (v := .ty "str") rfl (T.f "str") (by decide +kernel) rfl) pa_nil)))))
      (pw_or1 (pt_not (pt_chain op_le op_le pe_int (pe_callB call_len_str rfl (T.f "len") (by decide +kernel) (pa_cons (pv 0) pa_nil)) (pe_glob (v := .int 8) rfl h8 ⟨_, rfl⟩))))))
      (pss_one (ps_ret pe_bl)) pss_nil)
    (pss_one (ps_ret (pe_and (pe_cmpR op_notIn_seq (pv 0) (pe_glob (v := .ref (ga K "NO_NAMES")) rfl (T.g "NO_NAMES") rfl) rfl)
      (pe_one (pe_callB (cr_all rfl) rfl (T.f "all") (by decide +kernel) (pa_cons (pe_lc (own := [("letter", 1)]) (g := gName 1) (tt := tYes) rfl nd (pi_str (pv 0))
        (blkOk_by (N := ["thing", "letter"]) (sc := defScope sIsName) (by decide +kernel)) (fun _ _ _ _ _ => pg_name (i := 1) nd rfl (Or.inl rfl)) (fun _ _ _ _ _ => pts_nil)
        (fun _ _ _ _ _ => pe_cmpR op_in_sign (pv 1) (pe_glob (v := .str LET) rfl hL ⟨_, rfl⟩) rfl)) pa_nil))))))), ?_⟩
  refine ⟨_, rfl, v, .ty "str", .type n, .type "str", _, rfl, .ty _, t.ty, t.kStr, _, rfl, ?_⟩
  refine ite2 (fun h => ?_) (fun h => ?_)
  · -- no text
    refine ite2 (fun _ => ?_) (fun h2 => absurd rfl h2)
    have e : isNm v = false := by cases t <;> first | rfl | cases h
    have q := k H (Same.refl H)
    rw [e] at q
    exact q
  · obtain ⟨z, rfl, hz⟩ : ∃ z, v = V.str z ∧ z.length ≤ 100 := by
      cases t <;> first | exact absurd rfl h | skip
      rename_i z hz
      exact ⟨z, rfl, hz⟩
    refine ⟨_, rfl, z, rfl, (by rw [sizeLine_eq]; omega), _, _, rfl, rfl, _, rfl, ?_⟩
    have fin : ∀ (b : Bool), b = isNmS z → ∀ H', Same H H' → Q (.bl b) H' := fun b e H' s => by
      rw [e]
      exact k H' s
    have back : ∀ h1 : ¬ ((decide ((1 : Int) ≤ (z.length : Nat)) && decide (((z.length : Nat) : Int) ≤ 8)) = true), isNmS z = false := fun h1 => by
      unfold isNmS
      rw [← Bool.and_assoc, Bool.eq_false_iff.mpr h1, Bool.false_and]
    -- 1 <= len(thing) <= MOST_LETTERS
    have rest : (decide ((1 : Int) ≤ (z.length : Nat)) && decide (((z.length : Nat) : Int) ≤ 8)) = true → tAndV (tOp (rIn K true) (tVar 0) (tC (V.ref (ga K "NO_NAMES")))) (tCB (rAll K) (tCons (tLc (iStr (tVar 0)) (gName 1) tYes
        (tOp (fun x y H Q => ∃ c z, x = V.str { cps := #[c] } ∧ y = V.str z ∧ Q (V.bl (decide (c ∈ z.cps.toList))) H) (tVar 1) (tC (V.str LET))) [1]) tNil)) (L2.start ["thing", "letter"] [V.str z]) H Q := fun h1 => by
      have e1 : isNmS z = (!inV (.str z) (noNames.map V.str) && low z) := by
        unfold isNmS
        rw [← Bool.and_assoc, h1, Bool.true_and]
      refine ⟨_, rfl, _, _, rfl, .inr (T.noN H), rfl, noN_flat, _, rfl, ?_⟩
      refine ite2 (fun h2 => ?_) (fun h2 => ?_)
      · refine ⟨_, rfl, z, rfl, fun D hD => ?_⟩
        refine lc_mapS (f := fun c => V.bl (decide (c ∈ LET.cps.toList))) (by omega) (fun c H Q q => ⟨_, rfl, c, _, rfl, rfl, q⟩) ?_
        refine ⟨D, z.cps.toList.map fun c => decide (c ∈ LET.cps.toList), rfl, .inl (.inl ?_), ?_⟩
        · rw [upd_same, List.map_map]
          rfl
        · refine fin _ ?_ _ fun b o e => by rw [upd_ne (ne_of_none e hD)]; exact e
          rw [e1, show (!inV (.str z) (noNames.map V.str)) = true from h2, Bool.true_and, List.all_map]
          rfl
      · refine fin false ?_ H (Same.refl H)
        rw [e1, show (!inV (.str z) (noNames.map V.str)) = false from Bool.eq_false_iff.mpr h2, Bool.false_and]
    refine ite2 (fun h1 => ?_) (fun h1 => ?_)
    · refine ⟨_, _, rfl, rfl, _, rfl, ?_⟩
      refine ite2 (fun h2 => ?_) (fun h2 => ?_)
      · refine fin false (back fun y => ?_).symm H (Same.refl H)
        have y2 := (Bool.and_eq_true_iff.mp y).2
        rw [y2] at h2
        cases h2
      · refine rest ?_
        have h2' : decide (((z.length : Nat) : Int) ≤ 8) = true := by
          cases e : decide (((z.length : Nat) : Int) ≤ 8) with
          | true => rfl
          | false => exact absurd (by show (!decide (((z.length : Nat) : Int) ≤ 8)) = true; rw [e]; rfl) h2
        rw [h1, h2']
        rfl
    · refine ⟨_, rfl, ?_⟩
      refine ite2 (fun h2 => ?_) (fun h2 => absurd rfl h2)
      refine fin false (back fun y => h1 (Bool.and_eq_true_iff.mp y).1).symm H (Same.refl H)
end
end K0
set_option Elab.async false
set_option linter.all false
set_option maxRecDepth 100000
set_option maxHeartbeats 2000000
namespace Sw
open PySem PySem.Spec PyProof.Rows L2
/-- behind C(v) of such an error class: its dict, all else as it was -/
theorem err_made {K : PySem.W.Frag} {C : Addr} {v : V} {H : Hp} {W : XK} {E : XK} (T : ErrC K C) (k : ∀ H' d, Same H H' → H d = none → H' d = some (.xd [("value", v)]) → W (.ref C) (some d) H') :
    ∀ a, H a = none → spEInit K [.ref a, v] (upd H a (exo a C none)) (fun r H2 => r = .non ∧ ∃ (d : Addr) (fs : List (Str × V)), H2 a = some (exo a C (some d)) ∧ H2 d = some (exd d fs) ∧ H d = none ∧ W (.ref C) (some d) (upd (del H2 a) d (.xd fs))) E := by
  intro a ha
  refine ⟨a, C, v, rfl, upd_same, T, fun dx h1 h2 => ⟨rfl, dx, _, upd_same, by rw [upd_ne h2, upd_same], by rw [upd_ne h2] at h1; exact h1, ?_⟩⟩
  rw [upd_ne h2] at h1
  refine k _ dx (fun b o e => ?_) h1 upd_same
  rw [upd_ne (ne_of_none e h1), del_ne (ne_of_none e ha), upd_ne (ne_of_none e ha), upd_ne (ne_of_none e h1), upd_ne (ne_of_none e ha)]
  exact e
end Sw
namespace K0
open PySem PySem.Spec PyProof.Rows L2 He Sw
section
variable {P : Program} {w : World} {K : PySem.W.Frag} {mg : Str → Option Value} {base : Heap}
/-! ### check_name -/
def spCkName (K : PySem.W.Frag) : Sp := fun vs H Q E => ∃ (v : V) (n : String), vs = [v] ∧ Th H v n ∧ (isNm v = true → ∀ H', Same H H' → Q .non H') ∧
  (isNm v = false → ∀ H' d, Same H H' → H d = none → H' d = some (.xd [("value", v)]) → E (.ref (ga K "BadName")) (some d) H')
theorem scCkName : FnScope ["thing"] ["thing"] (defScope sCkName) := ⟨rfl, rfl, rfl, by decide +kernel, rfl, by decide +kernel, by decide +kernel⟩
theorem ok_ckName {fd fdN fdB fdS : FuncData} (T : Txt K mg) (F : FnG K "check_name" sCkName fd) (FN : FnG K "is_name" sIsName fdN) (FB : FnM K "BadName" "BadName.__init__" sBName [] fdB) (FS : FnM K "SameError" "SameError.__init__" sSE [.non] fdS) :
    FnOk P w K mg base (L2N.CX P w) 4 (ga K "check_name") fd ["thing"] (spCkName K) := by
  have GN : FnOk P w K mg base CX0 1 (ga K "is_name") fdN ["thing"] spIsName := ok_isName T FN
  have GB : FnOk P w K mg base CX0 2 (ma K (ga K "BadName") "__init__") fdB ["self", "value"] (spEInit K) := ok_BName T FB FS
  have bN : Binds K fdN ["thing"] [] := FN.bindsN fun _ _ _ _ _ _ us hl => match us, hl with | [_], _ => rfl
  have bB : Binds K fdB ["self", "value"] [] := FB.bindsN fun _ _ _ _ _ _ us hl => match us, hl with | [_, _], _ => rfl
  have TB := T.err "BadName" (by decide +kernel)
  refine F.ok scCkName (fun vs H Q E h => ?_) (fun cdv A outer s H vs Q E hr h => ?_)
  · obtain ⟨v, n, rfl, _⟩ := h
    rfl
  obtain ⟨v, n, rfl, t, k1, k2⟩ := h
  refine ⟨_, pss_one (ps_if (pt_not (pt_val (pe_call GN (hr.mono (by decide)) rfl (T.g "is_name") FN.kp bN .nil pass0 (pa_cons (pv 0) pa_nil))))
    (pss_one (L2N.ps_raise rfl (L2N.takes_of rfl rfl rfl rfl) (pmkN_oex (x := "BadName") TB.o TB.ini TB.inT GB hr bB .nil pass0 rfl (T.g "BadName") (pa_cons (pv 0) pa_nil)))) pss_nil), ?_⟩
  refine ⟨_, rfl, v, n, rfl, t, fun H' s' => ⟨_, rfl, ?_⟩⟩
  refine ite2 (fun h => ?_) (fun h => ?_)
  · have e : isNm v = false := by
      cases e : isNm v with
      | false => rfl
      | true =>
        have h2 : (!isNm v) = true := h
        rw [e] at h2
        cases h2
    refine ⟨_, rfl, by show 1 ≤ 1000; decide, err_made TB fun H2 d s2 hd hx => ?_⟩
    exact k2 e H2 d (s'.trans s2) (s'.free hd) hx
  · have e : isNm v = true := by
      cases e : isNm v with
      | true => rfl
      | false => exact absurd (by show (!isNm v) = true; rw [e]; rfl) h
    exact k1 e H' s'

/-! ### Formula.__init__, of nothing within -/
def flds (kd th : V) : List (Str × V) := putF "depth" (.int 1) (putF "parts" (.int 1) (putF "things" th (putF "kind" kd [])))
/-- all but the object at a is as it was -/
def SameBut (a : Addr) (H H' : Hp) : Prop := ∀ b o, b ≠ a → H b = some o → H' b = some o
def spForm (K : PySem.W.Frag) : Sp := fun vs H Q _ => ∃ (a C dx e : Addr) (kd th : V), vs = [.ref a, kd, th, .ref e] ∧ H a = some (.ins C dx []) ∧ InsT K C ∧ H e = some (.tup []) ∧ ∀ H', SameBut a H H' → H' a = some (.ins C dx (flds kd th)) → Q .non H'
theorem scForm : FnScope ["self", "kind", "things", "inner", "parts", "depth", "one"] ["self", "kind", "things", "inner"] (defScope sForm) := ⟨rfl, rfl, rfl, by decide +kernel, rfl, by decide +kernel, by decide +kernel⟩
theorem ok_form {fd : FuncData} (T : Txt K mg) (F : FnM K "Formula" "Formula.__init__" sForm [] fd) : FnOk P w K mg base CX0 1 (ma K (ga K "Formula") "__init__") fd ["self", "kind", "things", "inner"] (spForm K) := by
  refine F.ok scForm (fun vs H Q E h => ?_) (fun cdv A outer s H vs Q E hr h => ?_)
  · obtain ⟨a, C, dx, e, kd, th, rfl, _⟩ := h
    rfl
  obtain ⟨a, C, dx, e, kd, th, rfl, ha, TC, he, k⟩ := h
  obtain ⟨tP, hP⟩ := T.mPar
  obtain ⟨tD, hD⟩ := T.mDep
  have nd := scForm.nd
  refine ⟨_, PSs.nox (pss_cons (ps_set (i := 4) nd rfl (Or.inl rfl) (pe_op op_add pe_int (pe_callB (cr_sum rfl) rfl (T.f "sum") (by decide +kernel) (pa_cons (pe_lc (own := [("one", 6)]) (te := tFld K (tVar 6) "parts") (g := gName 6) (tt := tYes) rfl nd (pi_tup (pv 3))
        (blkOk_by (N := ["self", "kind", "things", "inner", "parts", "depth", "one"]) (sc := defScope sForm) (by decide +kernel)) (fun _ _ _ _ _ => pg_name (i := 6) nd rfl (Or.inl rfl)) (fun _ _ _ _ _ => pts_nil)
        (fun _ _ _ _ _ => pe_fld (pv 6) rfl)) pa_nil))))
    (pss_cons (ps_set (i := 5) nd rfl (Or.inl rfl) (pe_op op_add pe_int (pe_callBK (crk_max rfl) rfl (T.f "max") (by decide +kernel) (pa_cons (pe_lc (own := [("one", 6)]) (te := tFld K (tVar 6) "depth") (g := gName 6) (tt := tYes) rfl nd (pi_tup (pv 3))
        (blkOk_by (N := ["self", "kind", "things", "inner", "parts", "depth", "one"]) (sc := defScope sForm) (by decide +kernel)) (fun _ _ _ _ _ => pg_name (i := 6) nd rfl (Or.inl rfl)) (fun _ _ _ _ _ => pts_nil)
        (fun _ _ _ _ _ => pe_fld (pv 6) rfl)) pa_nil) (pk_cons pe_int pk_nil))))
    (pss_cons (ps_if (PW.pt (pw_or (pt_cmpR op_gt (pv 4) (pe_glob (v := .int 300) rfl hP ⟨_, rfl⟩) (nomark _)) (pw_or1 (pt_cmpR op_gt (pv 5) (pe_glob (v := .int 40) rfl hD ⟨_, rfl⟩) (nomark _))))) (pss_one ps_never) pss_nil)
    (pss_cons (ps_fld (pv 0) (pv 1) rfl) (pss_cons (ps_fld (pv 0) (pv 2) rfl) (pss_cons (ps_fld (pv 0) (pv 4) rfl) (pss_one (ps_fld (pv 0) (pv 5) rfl)))))))), ?_⟩
  have no : ∀ f ∈ (["kind", "things", "parts", "depth"] : List Str), NoAttr K C f := TC.no
  -- parts = 1 + sum([..])
  refine ⟨_, rfl, e, rfl, ⟨[], .inl (.inl he)⟩, fun D hDn => ?_⟩
  refine lc_tup (K := K) (a := e) (xs := []) (fun _ H' => H' = upd H D (.lst [])) rfl (fun _ H' _ eH => by rw [eH]; exact .inl (.inl (by rw [upd_ne (ne_of_none he hDn)]; exact he))) (fun i x H' hx _ => by cases hx) ?_
  rintro H1 rfl
  refine ⟨D, [], rfl, .inl (.inl upd_same), _, _, rfl, rfl, ?_⟩
  have he1 : (upd H D (.lst [])) e = some (.tup []) := by rw [upd_ne (ne_of_none he hDn)]; exact he
  have ha1 : (upd H D (.lst [])) a = some (.ins C dx []) := by rw [upd_ne (ne_of_none ha hDn)]; exact ha
  have s1 : Same H (upd H D (.lst [])) := fun b o q => by rw [upd_ne (ne_of_none q hDn)]; exact q
  generalize upd H D (.lst []) = H1 at he1 ha1 s1 ⊢
  -- depth = 1 + max([..], default=0)
  refine ⟨_, rfl, e, rfl, ⟨[], .inl (.inl he1)⟩, fun D2 hD2 => ?_⟩
  refine lc_tup (K := K) (a := e) (xs := []) (fun _ H' => H' = upd H1 D2 (.lst [])) rfl (fun _ H' _ eH => by rw [eH]; exact .inl (.inl (by rw [upd_ne (ne_of_none he1 hD2)]; exact he1))) (fun i x H' hx _ => by cases hx) ?_
  rintro H2 rfl
  refine ⟨D2, [], .int 0, rfl, rfl, .inl (.inl upd_same), fun _ => ?_, fun m hm => by cases hm⟩
  have ha2 : (upd H1 D2 (.lst [])) a = some (.ins C dx []) := by rw [upd_ne (ne_of_none ha1 hD2)]; exact ha1
  have s2 : Same H1 (upd H1 D2 (.lst [])) := fun b o q => by rw [upd_ne (ne_of_none q hD2)]; exact q
  generalize upd H1 D2 (.lst []) = H2 at ha2 s2 ⊢
  refine ⟨_, _, rfl, rfl, ?_⟩
  -- neither is too great
  refine ⟨_, rfl, _, _, rfl, rfl, _, rfl, ?_⟩
  refine ite2 (fun h => ?_) (fun h => ?_)
  · exact absurd h (by decide)
  refine ⟨_, rfl, _, _, rfl, rfl, _, rfl, ?_⟩
  refine ite2 (fun h => ?_) (fun h => ?_)
  · exact absurd h (by decide)
  -- the fields
  refine ⟨_, rfl, _, rfl, a, C, dx, _, rfl, ha2, TC.cl, no _ (by decide +kernel), (by show 0 < 1000; decide), ?_⟩
  refine ⟨_, rfl, _, rfl, a, C, dx, _, rfl, upd_same, TC.cl, no _ (by decide +kernel), (by show 1 < 1000; decide), ?_⟩
  refine ⟨_, rfl, _, rfl, a, C, dx, _, rfl, upd_same, TC.cl, no _ (by decide +kernel), (by show 2 < 1000; decide), ?_⟩
  refine ⟨_, rfl, _, rfl, a, C, dx, _, rfl, upd_same, TC.cl, no _ (by decide +kernel), (by show 3 < 1000; decide), ?_⟩
  refine k _ (fun b o hb q => ?_) upd_same
  rw [upd_ne hb, upd_ne hb, upd_ne hb, upd_ne hb]
  exact s2 _ _ (s1 _ _ q)
end
end K0
set_option Elab.async false
set_option linter.all false
set_option maxRecDepth 100000
set_option maxHeartbeats 2000000
namespace K0
open PySem PySem.Spec PyProof.Rows L2 He Sw
section
variable {P : Program} {w : World} {K : PySem.W.Frag} {mg : Str → Option Value} {base : Heap}
theorem notF {b : Bool} (h : ¬ ((!b) = true)) : b = true := by cases b <;> first | rfl | exact absurd rfl h
theorem notT {b : Bool} (h : (!b) = true) : b = false := by cases b <;> first | rfl | cases h
theorem notE {b : Bool} (h : ¬ (b = true)) : b = false := by cases b <;> first | rfl | exact absurd rfl h
/-! ### Number and Name -/
def goodN : V → Bool
  | .int i => decide (0 ≤ i) && decide (i < 10 ^ 30)
  | _ => false
def spMk (kd : Str) (good : V → Bool) (B : Str) (K : PySem.W.Frag) : Sp := fun vs H Q E => ∃ (a C dx : Addr) (v : V) (n : String), vs = [.ref a, v] ∧ Th H v n ∧ H a = some (.ins C dx []) ∧ InsT K C ∧
  (good v = true → ∀ H' t, SameBut a H H' → H t = none → H' t = some (.tup [v]) → H' a = some (.ins C dx (flds (.str kd) (.ref t))) → Q .non H') ∧
  (good v = false → ∀ H' d, Same H H' → H d = none → H' d = some (.xd [("value", v)]) → E (.ref (ga K B)) (some d) H')
theorem scNum : FnScope ["self", "n"] ["self", "n"] (defScope sNum) := ⟨rfl, rfl, rfl, by decide +kernel, rfl, by decide +kernel, by decide +kernel⟩
theorem ok_num {fd fdI fdB fdS fdF : FuncData} (T : Txt K mg) (F : FnM K "Number" "Number.__init__" sNum [] fd) (FI : FnG K "is_integer" sIsInt fdI) (FB : FnM K "BadNumber" "BadNumber.__init__" sBNum [] fdB)
    (FS : FnM K "SameError" "SameError.__init__" sSE [.non] fdS) (FF : FnM K "Formula" "Formula.__init__" sForm [] fdF) :
    FnOk P w K mg base (L2N.CX P w) 4 (ma K (ga K "Number") "__init__") fd ["self", "n"] (spMk "number" goodN "BadNumber" K) := by
  have GI : FnOk P w K mg base CX0 1 (ga K "is_integer") fdI ["thing"] spIsInt := ok_isInt T FI
  have GB : FnOk P w K mg base CX0 2 (ma K (ga K "BadNumber") "__init__") fdB ["self", "value"] (spEInit K) := ok_BNum T FB FS
  have GF : FnOk P w K mg base CX0 1 (ma K (ga K "Formula") "__init__") fdF ["self", "kind", "things", "inner"] (spForm K) := ok_form T FF
  have bI : Binds K fdI ["thing"] [] := FI.bindsN fun _ _ _ _ _ _ us hl => match us, hl with | [_], _ => rfl
  have bB : Binds K fdB ["self", "value"] [] := FB.bindsN fun _ _ _ _ _ _ us hl => match us, hl with | [_, _], _ => rfl
  have bF : Binds K fdF ["self", "kind", "things", "inner"] [] := FF.bindsN fun _ _ _ _ _ _ us hl => match us, hl with | [_, _, _, _], _ => rfl
  have TB := T.err "BadNumber" (by decide +kernel)
  obtain ⟨tE, hE⟩ := T.nEnd
  refine F.ok scNum (fun vs H Q E h => ?_) (fun cdv A outer s H vs Q E hr h => ?_)
  · obtain ⟨a, C, dx, v, n, rfl, _⟩ := h
    rfl
  obtain ⟨a, C, dx, v, n, rfl, t, ha, TC, k1, k2⟩ := h
  have hr1 : Room 1 _ := hr.mono (by decide)
  refine ⟨_, pss_cons (ps_if (PW.pt (pw_or (pt_not (pt_val (pe_call GI hr1 rfl (T.g "is_integer") FI.kp bI .nil pass0 (pa_cons (pv 1) pa_nil))))
      (pw_or1 (pt_not (pt_chain op_le op_lt pe_int (pv 1) (pe_glob (v := .int (10 ^ 30)) rfl hE ⟨_, rfl⟩))))))
      (pss_one (L2N.ps_raise rfl (L2N.takes_of rfl rfl rfl rfl) (pmkN_oex (x := "BadNumber") TB.o TB.ini TB.inT GB hr bB .nil pass0 rfl (T.g "BadNumber") (pa_cons (pv 1) pa_nil)))) pss_nil)
    (pss_one (ps_expr (pe_clfn (x := "Formula") rfl (T.g "Formula") T.foI GF hr1 FF.kp bF .nil pass0 (pa_cons (pv 0) (pa_cons pe_str (pa_cons (pe_tup (pa_cons (pv 1) pa_nil)) (pa_cons (pe_tup pa_nil) pa_nil))))))), ?_⟩
  have bad : goodN v = false → tMkO (ga K "BadNumber") (spEInit K) [] (tCons (tVar 1) tNil) (L2.start ["self", "n"] [V.ref a, v]) H (fun cls d H' => E cls d H') := fun e =>
    ⟨_, rfl, by show 1 ≤ 1000; decide, err_made TB fun H2 d s2 hd hx => k2 e H2 d s2 hd hx⟩
  refine ⟨_, rfl, v, n, rfl, t, _, rfl, ?_⟩
  refine ite2 (fun h => ?_) (fun h => ?_)
  · refine ite2 (fun _ => ?_) (fun h2 => absurd rfl h2)
    have e : isI v = false := notT h
    exact bad (by cases t <;> first | rfl | cases e)
  obtain ⟨i, rfl⟩ : ∃ i, v = .int i := by
    have e : isI v = true := notF h
    cases t <;> first | cases e | skip
    exact ⟨_, rfl⟩
  have fin : goodN (.int i) = true → tDrop (tCall (spForm K) [] E0 (tCons (tVar 0) (tCons (tC (V.str "number")) (tCons (tTup (tCons (tVar 1) tNil)) (tCons (tTup tNil) tNil))))) { nx := fun _ H' => Q .non H', rt := Q } (L2.start ["self", "n"] [V.ref a, V.int i]) H := fun e => by
    refine ⟨_, rfl, _, rfl, by show 1 ≤ sizeLine; rw [sizeLine_eq]; decide, fun p hp => ⟨Nat.zero_le _, fun q hq => ?_⟩⟩
    have hpq : q ≠ p := fun z => by
      rw [z, upd_same] at hq
      cases hq
    have hq0 : H q = none := by
      rw [upd_ne hpq] at hq
      exact hq
    have ha2 : (upd (upd H p (.tup [V.int i])) q (.tup [])) a = some (.ins C dx []) := by
      rw [upd_ne (ne_of_none ha hq0), upd_ne (ne_of_none ha hp)]
      exact ha
    refine ⟨a, C, dx, q, _, .ref p, rfl, ha2, TC, upd_same, fun H' s' h' => ?_⟩
    refine k1 e H' p (fun b o hb o1 => s' b o hb ?_) hp (s' p _ ?_ ?_) h'
    · rw [upd_ne (ne_of_none o1 hq0), upd_ne (ne_of_none o1 hp)]
      exact o1
    · exact fun z => by
        rw [z, ha] at hp
        cases hp
    · rw [upd_ne hpq.symm, upd_same]
  refine ⟨_, rfl, _, _, rfl, rfl, _, rfl, ?_⟩
  refine ite2 (fun h1 => ?_) (fun h1 => ?_)
  · refine ⟨_, _, rfl, rfl, _, rfl, ?_⟩
    refine ite2 (fun h2 => ?_) (fun h2 => ?_)
    · exact bad (by
        have e : decide (i < 10 ^ 30) = false := notT h2
        show (decide (0 ≤ i) && decide (i < 10 ^ 30)) = false
        rw [e, Bool.and_false])
    · refine fin ?_
      have e : decide (i < 10 ^ 30) = true := notF h2
      show (decide (0 ≤ i) && decide (i < 10 ^ 30)) = true
      rw [e, show decide (0 ≤ i) = true from h1]
      rfl
  · refine ⟨_, rfl, ?_⟩
    refine ite2 (fun h2 => ?_) (fun h2 => absurd rfl h2)
    exact bad (by
      have e : decide (0 ≤ i) = false := notE h1
      show (decide (0 ≤ i) && decide (i < 10 ^ 30)) = false
      rw [e, Bool.false_and])
theorem scName : FnScope ["self", "name"] ["self", "name"] (defScope sName) := ⟨rfl, rfl, rfl, by decide +kernel, rfl, by decide +kernel, by decide +kernel⟩
theorem ok_name {fd fdC fdN fdB fdS fdF : FuncData} (T : Txt K mg) (F : FnM K "Name" "Name.__init__" sName [] fd) (FC : FnG K "check_name" sCkName fdC) (FN : FnG K "is_name" sIsName fdN) (FB : FnM K "BadName" "BadName.__init__" sBName [] fdB)
    (FS : FnM K "SameError" "SameError.__init__" sSE [.non] fdS) (FF : FnM K "Formula" "Formula.__init__" sForm [] fdF) :
    FnOk P w K mg base (L2N.CX P w) 5 (ma K (ga K "Name") "__init__") fd ["self", "name"] (spMk "name" isNm "BadName" K) := by
  have GC : FnOk P w K mg base (L2N.CX P w) 4 (ga K "check_name") fdC ["thing"] (spCkName K) := ok_ckName T FC FN FB FS
  have GF : FnOk P w K mg base CX0 1 (ma K (ga K "Formula") "__init__") fdF ["self", "kind", "things", "inner"] (spForm K) := ok_form T FF
  have bC : Binds K fdC ["thing"] [] := FC.bindsN fun _ _ _ _ _ _ us hl => match us, hl with | [_], _ => rfl
  have bF : Binds K fdF ["self", "kind", "things", "inner"] [] := FF.bindsN fun _ _ _ _ _ _ us hl => match us, hl with | [_, _, _, _], _ => rfl
  refine F.ok scName (fun vs H Q E h => ?_) (fun cdv A outer s H vs Q E hr h => ?_)
  · obtain ⟨a, C, dx, v, n, rfl, _⟩ := h
    rfl
  obtain ⟨a, C, dx, v, n, rfl, t, ha, TC, k1, k2⟩ := h
  have hr1 : Room 1 _ := hr.mono (by decide)
  refine ⟨_, pss_cons (ps_expr (pe_call GC hr rfl (T.g "check_name") FC.kp bC .nil (L2N.passes_call (E := E) (L2N.takes_of rfl rfl rfl rfl) (fun _ _ _ _ h => h)) (pa_cons (pv 1) pa_nil)))
    (pss_one (ps_expr (pe_clfn (x := "Formula") rfl (T.g "Formula") T.foI GF hr1 FF.kp bF .nil pass0 (pa_cons (pv 0) (pa_cons pe_str (pa_cons (pe_tup (pa_cons (pv 1) pa_nil)) (pa_cons (pe_tup pa_nil) pa_nil))))))), ?_⟩
  refine ⟨_, rfl, v, n, rfl, t, fun e H0 s0 => ?_, fun e H' d s' hd hx => k2 e H' d s' hd hx⟩
  have ha0 := s0 _ _ ha
  refine ⟨_, rfl, _, rfl, by show 1 ≤ sizeLine; rw [sizeLine_eq]; decide, fun p hp => ⟨Nat.zero_le _, fun q hq => ?_⟩⟩
  have hpq : q ≠ p := fun z => by
    rw [z, upd_same] at hq
    cases hq
  have hq0 : H0 q = none := by
    rw [upd_ne hpq] at hq
    exact hq
  have ha2 : (upd (upd H0 p (.tup [v])) q (.tup [])) a = some (.ins C dx []) := by
    rw [upd_ne (ne_of_none ha0 hq0), upd_ne (ne_of_none ha0 hp)]
    exact ha0
  refine ⟨a, C, dx, q, _, .ref p, rfl, ha2, TC, upd_same, fun H' s' h' => ?_⟩
  refine k1 e H' p (fun b o hb o1 => s' b o hb ?_) (s0.free hp) (s' p _ ?_ ?_) h'
  · have o2 := s0 _ _ o1
    rw [upd_ne (ne_of_none o2 hq0), upd_ne (ne_of_none o2 hp)]
    exact o2
  · exact fun z => by
      rw [z, ha0] at hp
      cases hp
  · rw [upd_ne hpq.symm, upd_same]
end
end K0
set_option Elab.async false
set_option linter.all false
set_option maxRecDepth 100000
set_option maxHeartbeats 2000000
namespace K0
open PySem PySem.Spec PyProof.Rows L2 He Sw
section
variable {P : Program} {w : World} {K : PySem.W.Frag} {mg : Str → Option Value} {base : Heap}
/-! ### draws -/
/-- at st: the script's copy and the three numbers of the draws -/
def StAt (H : Hp) (st : Addr) (ns : List Int) : Prop := ∃ (l : Addr) (a b c : Int), H st = some (.lst [.ref l, .int a, .int b, .int c]) ∧ H l = some (.lst (ns.map V.int)) ∧ 0 ≤ a ∧ 0 ≤ b ∧ b < 2147483647 ∧ 0 ≤ c
theorem SameBut.trans {a : Addr} {H H1 H2 : Hp} (x : SameBut a H H1) (y : SameBut a H1 H2) : SameBut a H H2 := fun b o hb e => y b o hb (x b o hb e)
theorem SameBut.refl {a : Addr} {H : Hp} : SameBut a H H := fun _ _ _ e => e
theorem SameBut.of {a : Addr} {H H' : Hp} (x : Same H H') : SameBut a H H' := fun b o _ e => x b o e
theorem sameBut_upd {a : Addr} {H : Hp} {o : HO} : SameBut a H (upd H a o) := fun b u hb e => by rw [upd_ne hb]; exact e
theorem StAt.put {H : Hp} {st l : Addr} {ns : List Int} {a b c a' b' c' : Int} (h1 : H st = some (.lst [.ref l, .int a, .int b, .int c])) (h2 : H l = some (.lst (ns.map V.int))) (ha : 0 ≤ a') (hb : 0 ≤ b') (hb2 : b' < 2147483647) (hc : 0 ≤ c') (hn : l ≠ st) :
    StAt (upd H st (.lst [.ref l, .int a', .int b', .int c'])) st ns := ⟨l, a', b', c', upd_same, by rw [upd_ne hn]; exact h2, ha, hb, hb2, hc⟩
theorem StAt.same {H H' : Hp} {st : Addr} {ns : List Int} (h : StAt H st ns) (s : Same H H') : StAt H' st ns := by
  obtain ⟨l, a, b, c, h1, h2, h3⟩ := h
  exact ⟨l, a, b, c, s _ _ h1, s _ _ h2, h3⟩
theorem st_ne {H : Hp} {st l : Addr} {ns : List Int} {a b c : Int} (h1 : H st = some (.lst [.ref l, .int a, .int b, .int c])) (h2 : H l = some (.lst (ns.map V.int))) : l ≠ st := fun z => by
  rw [z, h1] at h2
  cases ns with
  | nil => cases h2
  | cons n r => cases h2
def spDraw : Sp := fun vs H Q _ => ∃ (st : Addr) (many : Int) (ns : List Int), vs = [.ref st, .int many] ∧ 0 < many ∧ many ≤ 10 ^ 30 ∧ StAt H st ns ∧ ∀ r H', 0 ≤ r → r < many → StAt H' st ns → SameBut st H H' → Q (.int r) H'
theorem spDraw_len : ∀ vs H Q E, spDraw vs H Q E → vs.length = ["_law_state", "_law_many"].length := fun vs H Q E h => by
  obtain ⟨st, many, ns, rfl, _⟩ := h
  rfl
theorem scDraw : FnScope ["_law_state", "_law_many", "_law_drawn", "_law_cell", "_law_k", "_law_mixed"] ["_law_state", "_law_many"] (defScope sDraw) := ⟨rfl, rfl, rfl, by decide +kernel, rfl, by decide +kernel, by decide +kernel⟩
theorem wideMany {i many : Int} (h0 : 0 < many) (h1 : many ≤ 10 ^ 30) : CDivW i many := wide_div (b := 100) h0 (wide_le (by omega) h1 (by decide)) (by decide) (by decide)
theorem small64 {i : Int} (h0 : 0 ≤ i) (h1 : i < 2147483647) : -(2 ^ 64) < i ∧ i < 2 ^ 64 := ⟨by omega, by omega⟩
theorem ok_draw {fd : FuncData} (T : Txt K mg) (F : FnG K "_law_draw" sDraw fd) : FnOk P w K mg base CX0 1 (ga K "_law_draw") fd ["_law_state", "_law_many"] spDraw := by
  refine F.ok scDraw spDraw_len (fun cdv A outer s H vs Q E hr h => ?_)
  obtain ⟨st, many, ns, rfl, m0, m1, ⟨l, a, b, c, h1, h2, a0, b0, b1, c0⟩, k⟩ := h
  obtain ⟨cn, rfl⟩ := Int.eq_ofNat_of_zero_le c0
  have nd := scDraw.nd
  have nls := st_ne h1 h2
  refine ⟨_, PSs.nox (pss_cons (ps_if (pt_cmpR op_gt (pe_ix ix_list (pv 0) pe_int (fun _ _ => rfl)) pe_int (nomark _))
      (pss_cons (ps_set (i := 2) nd rfl (Or.inl rfl) (pe_op op_mod (pe_callTy call_int1 rfl (T.f "int") (by decide +kernel) (pa_cons (pe_ix ix_list (pv 0) pe_int (fun _ _ => rfl)) pa_nil)) (pv 1)))
      (pss_cons (ps_asg (pe_op op_fdivW (pe_ix ix_list (pv 0) pe_int (fun _ _ => rfl)) (pv 1)) (pg_sub (pv 0) pe_int set_list))
      (pss_one (ps_ret (pv 2))))) pss_nil)
    (pss_cons (ps_set (i := 3) nd rfl (Or.inl rfl) pe_int)
    (pss_cons (ps_set (i := 4) nd rfl (Or.inl rfl) (pe_ix ix_list (pv 0) pe_int (fun _ _ => rfl)))
    (pss_cons (ps_asg (pe_op op_add (pv 4) pe_int) (pg_sub (pv 0) pe_int set_list))
    (pss_cons (ps_if (pt_cmpR op_lt (pv 4) (pe_callB call_len_seq rfl (T.f "len") (by decide +kernel) (pa_cons (pe_ix ix_list (pv 0) pe_int (fun _ _ => rfl)) pa_nil)) (nomark _))
      (pss_cons (ps_set (i := 3) nd rfl (Or.inl rfl) (pe_callB call_abs rfl (T.f "abs") (by decide +kernel) (pa_cons (pe_ix ix_list (pe_ix ix_list (pv 0) pe_int (fun _ _ => rfl)) (pv 4) (fun _ _ => rfl)) pa_nil)))
      (pss_one (ps_if (pt_cmpR op_ge (pv 3) (pe_op op_pow pe_int pe_int) (nomark _))
        (pss_cons (ps_asg (pe_op op_fdivW (pv 3) (pv 1)) (pg_sub (pv 0) pe_int set_list))
        (pss_one (ps_ret (pe_op op_mod (pe_callTy call_int1 rfl (T.f "int") (by decide +kernel) (pa_cons (pv 3) pa_nil)) (pv 1))))) pss_nil))) pss_nil)
    (pss_cons (ps_asg (pe_op op_mod (pe_callTy call_int1 rfl (T.f "int") (by decide +kernel) (pa_cons (pe_op op_add (pe_op op_add (pe_op op_add (pe_op op_mul (pe_ix ix_list (pv 0) pe_int (fun _ _ => rfl)) pe_int) (pe_op op_mul (pv 3) pe_int))
        (pe_op op_mul pe_int (pv 4))) pe_int) pa_nil)) pe_int) (pg_sub (pv 0) pe_int set_list))
    (pss_cons (ps_set (i := 5) nd rfl (Or.inl rfl) (pe_op op_mod (pe_callTy call_int1 rfl (T.f "int") (by decide +kernel) (pa_cons (pe_op op_mul (pe_ix ix_list (pv 0) pe_int (fun _ _ => rfl))
        (pe_op op_add (pe_op op_fdiv (pe_ix ix_list (pv 0) pe_int (fun _ _ => rfl)) pe_int) pe_int)) pa_nil)) pe_int))
    (pss_cons (ps_set (i := 5) nd rfl (Or.inl rfl) (pe_op op_mod (pe_callTy call_int1 rfl (T.f "int") (by decide +kernel) (pa_cons (pe_op op_mul (pv 5) (pe_op op_add (pe_op op_fdiv (pv 5) pe_int) pe_int)) pa_nil)) pe_int))
    (pss_one (ps_ret (pe_op op_mod (pe_op op_fdiv (pv 5) pe_int) (pv 1)))))))))))), ?_⟩
  refine ⟨_, rfl, st, _, _, _, rfl, rfl, SqL.of h1, atI_nat (j := 1) rfl, _, _, rfl, rfl, _, rfl, ?_⟩
  refine ite2 (fun h => ?_) (fun h => ?_)
  · -- something is left of a great cell
    refine ⟨_, rfl, st, _, _, _, rfl, rfl, SqL.of h1, atI_nat (j := 1) rfl, .inl ⟨_, rfl, _, rfl, _, _, rfl, rfl, m0, ?_⟩⟩
    refine ⟨_, rfl, st, _, _, _, rfl, rfl, SqL.of h1, atI_nat (j := 1) rfl, _, rfl, _, _, rfl, rfl, wideMany m0 m1, _, rfl, st, _, _, 1, rfl, rfl, h1, rfl, ?_⟩
    refine ⟨_, rfl, ?_⟩
    exact k _ _ (Int.emod_nonneg _ (by omega)) (Int.emod_lt_of_pos _ m0) (StAt.put h1 h2 (Int.ediv_nonneg a0 (by omega)) b0 b1 c0 nls) sameBut_upd
  -- the next cell
  refine ⟨_, rfl, st, _, _, _, rfl, rfl, SqL.of h1, atI_nat (j := 3) rfl, ?_⟩
  refine ⟨_, rfl, _, _, rfl, rfl, _, rfl, st, _, _, 3, rfl, rfl, h1, rfl, ?_⟩
  generalize hH1 : upd H st _ = H1
  have S1 : H1 st = some (.lst [.ref l, .int a, .int b, .int ((cn : Int) + 1)]) := by rw [← hH1]; exact upd_same
  have L1 : H1 l = some (.lst (ns.map V.int)) := by rw [← hH1, upd_ne nls]; exact h2
  have B1 : SameBut st H H1 := by rw [← hH1]; exact sameBut_upd
  clear hH1
  refine ⟨_, rfl, _, rfl, st, _, _, _, rfl, rfl, SqL.of S1, atI_nat (j := 0) rfl, l, _, rfl, .inl (SqL.of L1), _, _, rfl, rfl, _, rfl, ?_⟩
  refine ite2 (fun hlt => ?_) (fun hlt => ?_)
  · have lt : cn < ns.length := by
      have q : (cn : Int) < ((ns.map V.int).length : Nat) := of_decide_eq_true hlt
      rw [List.length_map] at q
      omega
    have hx : (ns.map V.int)[cn]? = some (V.int ns[cn]) := by rw [List.getElem?_map, List.getElem?_eq_getElem lt]; rfl
    refine ⟨_, rfl, st, _, _, _, rfl, rfl, SqL.of S1, atI_nat (j := 0) rfl, _, rfl, l, _, _, _, rfl, rfl, SqL.of L1, atI_nat hx, _, rfl, ?_⟩
    refine ⟨_, rfl, _, _, rfl, rfl, ⟨by decide, by decide, by decide⟩, _, _, rfl, rfl, _, rfl, ?_⟩
    refine ite2 (fun hge => ?big) (fun _ => ?_)
    case big =>
      refine ⟨_, rfl, _, rfl, _, _, rfl, rfl, wideMany m0 m1, _, rfl, st, _, _, 1, rfl, rfl, S1, rfl, ?_⟩
      refine ⟨_, rfl, .inl ⟨_, rfl, _, rfl, _, _, rfl, rfl, m0, ?_⟩⟩
      refine k _ _ (Int.emod_nonneg _ (by omega)) (Int.emod_lt_of_pos _ m0) (StAt.put S1 L1 (Int.ediv_nonneg ?_ (by omega)) b0 b1 (by omega) nls) (B1.trans sameBut_upd)
      split <;> omega
    refine ⟨_, rfl, st, _, _, _, rfl, rfl, SqL.of S1, atI_nat (j := 2) rfl, _, _, rfl, rfl, .inl (small64 b0 b1), _, rfl, _, _, rfl, rfl, .inr ⟨by decide, by decide⟩, _, _, rfl, rfl, _, rfl, _, _, rfl, rfl, .inl ⟨by decide, by decide⟩, _, _, rfl, rfl, _, _, rfl, rfl,
      .inl ⟨_, rfl, _, _, rfl, rfl, (by decide : (0 : Int) < 2147483647), _, rfl, st, _, _, 2, rfl, rfl, S1, rfl, ?_⟩⟩
    generalize hH2 : upd H1 st _ = H2
    have S2 : ∃ b', H2 st = some (.lst [.ref l, .int a, .int b', .int ((cn : Int) + 1)]) ∧ 0 ≤ b' ∧ b' < 2147483647 :=
      ⟨_, by rw [← hH2]; exact upd_same, Int.emod_nonneg _ (by decide), Int.emod_lt_of_pos _ (by decide)⟩
    obtain ⟨b', S2, b0', b1'⟩ := S2
    have L2 : H2 l = some (.lst (ns.map V.int)) := by rw [← hH2, upd_ne nls]; exact L1
    have B2 : SameBut st H H2 := by rw [← hH2]; exact B1.trans sameBut_upd
    clear hH2
    refine ⟨_, rfl, st, _, _, _, rfl, rfl, SqL.of S2, atI_nat (j := 2) rfl, _, rfl, st, _, _, _, rfl, rfl, SqL.of S2, atI_nat (j := 2) rfl, _, _, rfl, rfl, ⟨by decide, by decide⟩, _, _, rfl, rfl, _, _, rfl, rfl, .inl (small64 b0' b1'),
      .inl ⟨_, rfl, _, _, rfl, rfl, (by decide : (0 : Int) < 2147483647), ?_⟩⟩
    refine ⟨_, rfl, _, rfl, _, _, rfl, rfl, ⟨by decide, by decide⟩, _, _, rfl, rfl, _, _, rfl, rfl, .inl (small64 (Int.emod_nonneg _ (by decide)) (Int.emod_lt_of_pos _ (by decide))), .inl ⟨_, rfl, _, _, rfl, rfl, (by decide : (0 : Int) < 2147483399), ?_⟩⟩
    refine ⟨_, rfl, _, _, rfl, rfl, ⟨by decide, by decide⟩, _, rfl, _, _, rfl, rfl, m0, ?_⟩
    exact k _ _ (Int.emod_nonneg _ (by omega)) (Int.emod_lt_of_pos _ m0) ⟨l, a, b', _, S2, L2, a0, b0', b1', by omega⟩ B2
  · refine ⟨_, rfl, st, _, _, _, rfl, rfl, SqL.of S1, atI_nat (j := 2) rfl, _, _, rfl, rfl, .inl (small64 b0 b1), _, rfl, _, _, rfl, rfl, .inr ⟨by decide, by decide⟩, _, _, rfl, rfl, _, rfl, _, _, rfl, rfl, .inl ⟨by decide, by decide⟩, _, _, rfl, rfl, _, _, rfl, rfl,
      .inl ⟨_, rfl, _, _, rfl, rfl, (by decide : (0 : Int) < 2147483647), _, rfl, st, _, _, 2, rfl, rfl, S1, rfl, ?_⟩⟩
    generalize hH2 : upd H1 st _ = H2
    have S2 : ∃ b', H2 st = some (.lst [.ref l, .int a, .int b', .int ((cn : Int) + 1)]) ∧ 0 ≤ b' ∧ b' < 2147483647 :=
      ⟨_, by rw [← hH2]; exact upd_same, Int.emod_nonneg _ (by decide), Int.emod_lt_of_pos _ (by decide)⟩
    obtain ⟨b', S2, b0', b1'⟩ := S2
    have L2 : H2 l = some (.lst (ns.map V.int)) := by rw [← hH2, upd_ne nls]; exact L1
    have B2 : SameBut st H H2 := by rw [← hH2]; exact B1.trans sameBut_upd
    clear hH2
    refine ⟨_, rfl, st, _, _, _, rfl, rfl, SqL.of S2, atI_nat (j := 2) rfl, _, rfl, st, _, _, _, rfl, rfl, SqL.of S2, atI_nat (j := 2) rfl, _, _, rfl, rfl, ⟨by decide, by decide⟩, _, _, rfl, rfl, _, _, rfl, rfl, .inl (small64 b0' b1'),
      .inl ⟨_, rfl, _, _, rfl, rfl, (by decide : (0 : Int) < 2147483647), ?_⟩⟩
    refine ⟨_, rfl, _, rfl, _, _, rfl, rfl, ⟨by decide, by decide⟩, _, _, rfl, rfl, _, _, rfl, rfl, .inl (small64 (Int.emod_nonneg _ (by decide)) (Int.emod_lt_of_pos _ (by decide))), .inl ⟨_, rfl, _, _, rfl, rfl, (by decide : (0 : Int) < 2147483399), ?_⟩⟩
    refine ⟨_, rfl, _, _, rfl, rfl, ⟨by decide, by decide⟩, _, rfl, _, _, rfl, rfl, m0, ?_⟩
    exact k _ _ (Int.emod_nonneg _ (by omega)) (Int.emod_lt_of_pos _ m0) ⟨l, a, b', _, S2, L2, a0, b0', b1', by omega⟩ B2
end
end K0
set_option Elab.async false
set_option linter.all false
set_option maxRecDepth 100000
set_option maxHeartbeats 2000000
namespace K0
open PySem PySem.Spec PyProof.Rows L2 He Sw
section
variable {P : Program} {w : World} {K : PySem.W.Frag} {mg : Str → Option Value} {base : Heap}
theorem upd_none {H : Hp} {a b : Addr} {o : HO} (h : upd H a o b = none) : b ≠ a ∧ H b = none := by
  have n : b ≠ a := fun z => by
    rw [z, upd_same] at h
    cases h
  rw [upd_ne n] at h
  exact ⟨n, h⟩
abbrev DrawOk (P : Program) (w : World) (K : PySem.W.Frag) (mg : Str → Option Value) (base : Heap) (fdD : FuncData) : Prop := FnOk P w K mg base CX0 1 (ga K "_law_draw") fdD ["_law_state", "_law_many"] spDraw
/-! ### _law_large -/
theorem scLarge : FnScope ["_law_state", "_law_many", "_law_number", "_law_k"] ["_law_state", "_law_many"] (defScope sLarge) := ⟨rfl, rfl, rfl, by decide +kernel, rfl, by decide +kernel, by decide +kernel⟩
theorem ok_large {fd fdD : FuncData} (T : Txt K mg) (F : FnG K "_law_large" sLarge fd) (FD : FnG K "_law_draw" sDraw fdD) : FnOk P w K mg base CX0 2 (ga K "_law_large") fd ["_law_state", "_law_many"] spDraw := by
  have GD : DrawOk P w K mg base fdD := ok_draw T FD
  have bD : Binds K fdD ["_law_state", "_law_many"] [] := FD.bindsN fun _ _ _ _ _ _ us hl => match us, hl with | [_, _], _ => rfl
  refine F.ok scLarge spDraw_len (fun cdv A outer s H vs Q E hr h => ?_)
  obtain ⟨st, many, ns, rfl, m0, m1, S, k⟩ := h
  have nd := scLarge.nd
  refine ⟨_, PSs.nox (pss_cons (ps_if (pt_cmpR op_ge (pe_ix ix_list (pv 0) pe_int (fun _ _ => rfl)) (pv 1) (nomark _))
      (pss_one (ps_ret (pe_call GD hr rfl (T.g "_law_draw") FD.kp bD .nil pass0 (pa_cons (pv 0) (pa_cons (pv 1) pa_nil))))) pss_nil)
    (pss_cons (ps_set (i := 2) nd rfl (Or.inl rfl) pe_int)
    (pss_cons (ps_for PassesOwn.never rfl (pi_range1 rfl (T.f "range") (pa_cons pe_int pa_nil)) (pg_name (i := 3) nd rfl (Or.inl rfl))
      (pss_one (ps_set (i := 2) nd rfl (Or.inl rfl) (pe_op op_add (pe_op op_mul (pv 2) pe_int) (pe_call GD hr rfl (T.g "_law_draw") FD.kp bD .nil pass0 (pa_cons (pv 0) (pa_cons pe_int pa_nil)))))))
    (pss_one (ps_ret (pe_op op_mod (pe_callTy call_int1 rfl (T.f "int") (by decide +kernel) (pa_cons (pv 2) pa_nil)) (pv 1))))))), ?_⟩
  obtain ⟨l, a, b, c, h1, h2, a0, b0, b1, c0⟩ := id S
  refine ⟨_, rfl, st, _, _, _, rfl, rfl, SqL.of h1, atI_nat (j := 1) rfl, _, rfl, _, _, rfl, rfl, _, rfl, ?_⟩
  refine ite2 (fun h => ?_) (fun h => ?_)
  · exact ⟨_, rfl, _, rfl, st, many, ns, rfl, m0, m1, S, k⟩
  refine ⟨7, rfl, by decide, by decide, for_range (lo := 0) (n := 7) (fun _ σ H' => ∃ (x : Int) (kv : Option V), σ = [some (.ref st), some (.int many), some (.int x), kv] ∧ StAt H' st ns ∧ SameBut st H H') ⟨0, none, rfl, S, SameBut.refl⟩ ?_ ?_⟩
  · rintro i σ H' hi ⟨x, kv, rfl, S', B'⟩
    refine ⟨_, rfl, _, _, rfl, rfl, .inr ⟨by decide, by decide⟩, _, rfl, st, 99991, ns, rfl, by decide, by decide, S', fun r H2 r0 r1 S2 B2 => ?_⟩
    exact ⟨_, _, rfl, rfl, _, _, rfl, S2, B'.trans B2⟩
  · rintro σ H' ⟨x, kv, rfl, S', B'⟩
    exact ⟨_, rfl, .inl ⟨_, rfl, _, rfl, _, _, rfl, rfl, m0, k _ _ (Int.emod_nonneg _ (by omega)) (Int.emod_lt_of_pos _ m0) S' B'⟩⟩

/-! ### _law_integer -/
def spInteger : Sp := fun vs H Q _ => ∃ (st : Addr) (ns : List Int), vs = [.ref st] ∧ StAt H st ns ∧ ∀ i H', StAt H' st ns → SameBut st H H' → Q (.int i) H'
theorem scInteger : FnScope ["_law_state", "_law_choice"] ["_law_state"] (defScope sInteger) := ⟨rfl, rfl, rfl, by decide +kernel, rfl, by decide +kernel, by decide +kernel⟩
theorem ok_integer {fd fdD fdL : FuncData} (T : Txt K mg) (F : FnG K "_law_integer" sInteger fd) (FD : FnG K "_law_draw" sDraw fdD) (FL : FnG K "_law_large" sLarge fdL) : FnOk P w K mg base CX0 3 (ga K "_law_integer") fd ["_law_state"] spInteger := by
  have GD : DrawOk P w K mg base fdD := ok_draw T FD
  have GL : FnOk P w K mg base CX0 2 (ga K "_law_large") fdL ["_law_state", "_law_many"] spDraw := ok_large T FL FD
  have bD : Binds K fdD ["_law_state", "_law_many"] [] := FD.bindsN fun _ _ _ _ _ _ us hl => match us, hl with | [_, _], _ => rfl
  have bL : Binds K fdL ["_law_state", "_law_many"] [] := FL.bindsN fun _ _ _ _ _ _ us hl => match us, hl with | [_, _], _ => rfl
  refine F.ok scInteger (fun vs H Q E h => ?_) (fun cdv A outer s H vs Q E hr h => ?_)
  · obtain ⟨st, ns, rfl, _⟩ := h
    rfl
  obtain ⟨st, ns, rfl, S, k⟩ := h
  have nd := scInteger.nd
  have hr1 : Room 1 _ := hr.mono (by decide)
  refine ⟨_, PSs.nox (pss_cons (ps_set (i := 1) nd rfl (Or.inl rfl) (pe_call GD hr1 rfl (T.g "_law_draw") FD.kp bD .nil pass0 (pa_cons (pv 0) (pa_cons pe_int pa_nil))))
    (pss_cons (ps_if (pt_cmpR op_eq (pv 1) pe_int (nomark _)) (pss_one (ps_ret (pe_op op_sub (pe_call GD hr1 rfl (T.g "_law_draw") FD.kp bD .nil pass0 (pa_cons (pv 0) (pa_cons pe_int pa_nil))) pe_int))) pss_nil)
    (pss_cons (ps_if (pt_cmpR op_eq (pv 1) pe_int (nomark _)) (pss_one (ps_ret (pe_op op_add (pe_op op_sub (pe_op op_pow pe_int pe_int) pe_int) (pe_call GD hr1 rfl (T.g "_law_draw") FD.kp bD .nil pass0 (pa_cons (pv 0) (pa_cons pe_int pa_nil)))))) pss_nil)
    (pss_one (ps_ret (pe_call GL hr rfl (T.g "_law_large") FL.kp bL .nil pass0 (pa_cons (pv 0) (pa_cons (pe_op op_pow pe_int pe_int) pa_nil)))))))), ?_⟩
  refine ⟨_, rfl, st, 3, ns, rfl, by decide, by decide, S, fun r H1 r0 r1 S1 B1 => ?_⟩
  refine ⟨_, rfl, rfl, _, rfl, ?_⟩
  refine ite2 (fun h => ?_) (fun h => ?_)
  · refine ⟨_, rfl, st, 5, ns, rfl, by decide, by decide, S1, fun r2 H2 _ _ S2 B2 => ?_⟩
    exact ⟨_, _, rfl, rfl, k _ _ S2 (B1.trans B2)⟩
  refine ⟨_, rfl, rfl, _, rfl, ?_⟩
  refine ite2 (fun h => ?_) (fun h => ?_)
  · refine ⟨_, _, rfl, rfl, ⟨by decide, by decide, by decide⟩, _, _, rfl, rfl, _, rfl, st, 4, ns, rfl, by decide, by decide, S1, fun r2 H2 _ _ S2 B2 => ?_⟩
    exact ⟨_, _, rfl, rfl, k _ _ S2 (B1.trans B2)⟩
  · exact ⟨_, rfl, _, _, rfl, rfl, ⟨by decide, by decide, by decide⟩, st, 10 ^ 30, ns, rfl, by decide, by decide, S1, fun r2 H2 _ _ S2 B2 => k _ _ S2 (B1.trans B2)⟩

/-! ### _law_bad -/
def spBad : Sp := fun vs H Q _ => ∃ (st : Addr) (ns : List Int), vs = [.ref st] ∧ StAt H st ns ∧ ∀ v n H', Th H' v n → StAt H' st ns → SameBut st H H' → Q v H'
theorem scBad : FnScope ["_law_state"] ["_law_state"] (defScope sBad) := ⟨rfl, rfl, rfl, by decide +kernel, rfl, by decide +kernel, by decide +kernel⟩
theorem ok_bad {fd fdD : FuncData} (T : Txt K mg) (F : FnG K "_law_bad" sBad fd) (FD : FnG K "_law_draw" sDraw fdD) : FnOk P w K mg base CX0 2 (ga K "_law_bad") fd ["_law_state"] spBad := by
  have GD : DrawOk P w K mg base fdD := ok_draw T FD
  have bD : Binds K fdD ["_law_state", "_law_many"] [] := FD.bindsN fun _ _ _ _ _ _ us hl => match us, hl with | [_, _], _ => rfl
  refine F.ok scBad (fun vs H Q E h => ?_) (fun cdv A outer s H vs Q E hr h => ?_)
  · obtain ⟨st, ns, rfl, _⟩ := h
    rfl
  obtain ⟨st, ns, rfl, S, k⟩ := h
  refine ⟨_, PSs.nox (pss_one (ps_ret (pe_ix ix_list (pe_lst (pa_cons pe_non (pa_cons pe_bl (pa_cons (pe_un un_neg pe_int) (pa_cons pe_str (pa_cons (pe_tup (pa_cons pe_str pa_nil)) (pa_cons (pe_lst (pa_cons pe_str pa_nil))
    (pa_cons (pe_disp (pps_cons pe_str pe_int pps_nil) (by rfl) (by rfl) (fun z => by cases z) (by decide)) (pa_cons pe_str pa_nil))))))))) (pe_call GD hr rfl (T.g "_law_draw") FD.kp bD .nil pass0 (pa_cons (pv 0) (pa_cons pe_int pa_nil))) (fun _ _ => rfl)))), ?_⟩
  refine ⟨_, rfl, by show 1 ≤ sizeLine; rw [sizeLine_eq]; decide, fun t ht => ⟨by show 1 ≤ sizeLine; rw [sizeLine_eq]; decide, fun l hl => ?_⟩⟩
  intro d hd
  refine ⟨upd_same, [(.inr "x", .int 1)], rfl, by show 1 ≤ 15; decide, by show 8 ≤ sizeLine; rw [sizeLine_eq]; decide, fun p hp => ?_⟩
  obtain ⟨nlt, hl0⟩ := upd_none hl
  obtain ⟨ndl, hd1⟩ := upd_none hd
  obtain ⟨ndt, hd0⟩ := upd_none hd1
  obtain ⟨npd, hp1⟩ := upd_none hp
  obtain ⟨_, hp2⟩ := upd_none hp1
  obtain ⟨npl, hp3⟩ := upd_none hp2
  obtain ⟨npt, hp0⟩ := upd_none hp3
  generalize hX : upd (upd (upd (upd (upd H t _) l _) d _) d _) p _ = X
  have sX : Same H X := fun b o e => by
    rw [← hX, upd_ne (ne_of_none e hp0), upd_ne (ne_of_none e hd0), upd_ne (ne_of_none e hd0), upd_ne (ne_of_none e hl0), upd_ne (ne_of_none e ht)]
    exact e
  have eP : X p = some (.lst [.non, .bl true, .int (-1), .str "x y", .ref t, .ref l, .ref d, .str ""]) := by rw [← hX, upd_same]
  have eD : X d = some (.dK [(.inr "x", .int 1)]) := by rw [← hX, upd_ne npd.symm, upd_same]; rfl
  have eL : X l = some (.lst [.str "x"]) := by rw [← hX, upd_ne npl.symm, upd_ne ndl.symm, upd_ne ndl.symm, upd_same]
  have eT : X t = some (.tup [.str "x"]) := by rw [← hX, upd_ne npt.symm, upd_ne ndt.symm, upd_ne ndt.symm, upd_ne nlt.symm, upd_same]
  clear hX
  have hst : ∀ q, H q = none → q ≠ st := fun q e z => by
    obtain ⟨_, _, _, _, h1, _⟩ := S
    rw [z, h1] at e
    cases e
  refine ⟨_, rfl, st, 8, ns, rfl, by decide, by decide, S.same sX, fun r H2 r0 r1 S2 B2 => ?_⟩
  have fP := B2 _ _ (hst p hp0) eP
  have fin : ∀ v n, Th X v n → Q v H2 := fun v n t' => by
    have t2 : Th H2 v n := by
      cases t' with
      | non => exact .non
      | bl b => exact .bl b
      | int i => exact .int i
      | str z h => exact .str z h
      | tup a e =>
        by_cases hz : a = st
        · obtain ⟨_, _, _, _, h1, _⟩ := S.same sX
          rw [hz, h1] at e
          cases e
        · exact .tup a (B2 _ _ hz e)
      | lst a e =>
        by_cases hz : a = st
        · obtain ⟨_, _, _, _, h1, _⟩ := S.same sX
          rw [hz, h1] at e
          cases e
        · exact .lst a (B2 _ _ hz e)
      | dct a e =>
        by_cases hz : a = st
        · obtain ⟨_, _, _, _, h1, _⟩ := S.same sX
          rw [hz, h1] at e
          cases e
        · exact .dct a (B2 _ _ hz e)
    exact k v n H2 t2 S2 ((SameBut.of sX).trans B2)
  have hr8 : r = 0 ∨ r = 1 ∨ r = 2 ∨ r = 3 ∨ r = 4 ∨ r = 5 ∨ r = 6 ∨ r = 7 := by omega
  rcases hr8 with rfl | rfl | rfl | rfl | rfl | rfl | rfl | rfl
  · exact ⟨p, _, _, _, rfl, rfl, SqL.of fP, atI_nat (j := 0) rfl, fin _ _ .non⟩
  · exact ⟨p, _, _, _, rfl, rfl, SqL.of fP, atI_nat (j := 1) rfl, fin _ _ (.bl true)⟩
  · exact ⟨p, _, _, _, rfl, rfl, SqL.of fP, atI_nat (j := 2) rfl, fin _ _ (.int _)⟩
  · exact ⟨p, _, _, _, rfl, rfl, SqL.of fP, atI_nat (j := 3) rfl, fin _ _ (.str _ (by decide +kernel))⟩
  · exact ⟨p, _, _, _, rfl, rfl, SqL.of fP, atI_nat (j := 4) rfl, fin _ _ (.tup t eT)⟩
  · exact ⟨p, _, _, _, rfl, rfl, SqL.of fP, atI_nat (j := 5) rfl, fin _ _ (.lst l eL)⟩
  · exact ⟨p, _, _, _, rfl, rfl, SqL.of fP, atI_nat (j := 6) rfl, fin _ _ (.dct d eD)⟩
  · exact ⟨p, _, _, _, rfl, rfl, SqL.of fP, atI_nat (j := 7) rfl, fin _ _ (.str _ (by decide +kernel))⟩
end
end K0
set_option Elab.async false
set_option linter.all false
set_option maxRecDepth 100000
set_option maxHeartbeats 4000000
namespace K0
open PySem PySem.Spec PyProof.Rows L2 He Sw
section
variable {P : Program} {w : World} {K : PySem.W.Frag} {mg : Str → Option Value} {base : Heap}
theorem cutS_le (z : Str) (lo hi : Option Int) : (cutS z lo hi).length ≤ z.length := by
  show (((z.cps.toList.drop (HT.sIx z.length 0 lo)).take (HT.sIx z.length z.length hi - HT.sIx z.length 0 lo)).toArray).size ≤ z.cps.size
  rw [List.size_toArray, List.length_take, List.length_drop, Array.length_toList]
  omega
theorem add_len (a b : Str) : (a ++ b).length = a.length + b.length := PySem.Str.length_append a b
theorem line_le {n : Nat} (h : n ≤ 1000) : n ≤ sizeLine := by rw [sizeLine_eq]; omega
abbrev TAIL : Str := "AZ09 _-.,{[`"
theorem LET_len : LET.length = 26 := by decide +kernel
theorem TAIL_len : TAIL.length = 12 := by decide +kernel
/-- a sign of a text -/
theorem sign_at {z : Str} {r : Int} (h0 : 0 ≤ r) (h1 : r < (z.length : Nat)) : ∃ c, z.cps[r.toNat]? = some c := by
  have h : r.toNat < z.cps.size := by
    show r.toNat < z.length
    omega
  exact ⟨_, Array.getElem?_eq_getElem h⟩
/-! ### _law_text -/
def spText : Sp := fun vs H Q _ => ∃ (st : Addr) (ns : List Int), vs = [.ref st] ∧ StAt H st ns ∧ ∀ z H', z.length ≤ 100 → StAt H' st ns → SameBut st H H' → Q (.str z) H'
theorem scText : FnScope ["_law_state", "_law_letters", "_law_kept", "_law_choice", "_law_count", "_law_word", "_law_k", "_law_place"] ["_law_state"] (defScope sText) := ⟨rfl, rfl, rfl, by decide +kernel, rfl, by decide +kernel, by decide +kernel⟩
/-- how the slots stand -/
abbrev sg (st L : Addr) (ch ct : Int) (z : Option V) (kv pl : Option V) : L2.St := [some (.ref st), some (.str LET), some (.ref L), some (.int ch), some (.int ct), z, kv, pl]
theorem ok_text {fd fdD : FuncData} (T : Txt K mg) (F : FnG K "_law_text" sText fd) (FD : FnG K "_law_draw" sDraw fdD) : FnOk P w K mg base CX0 2 (ga K "_law_text") fd ["_law_state"] spText := by
  have GD : DrawOk P w K mg base fdD := ok_draw T FD
  have bD : Binds K fdD ["_law_state", "_law_many"] [] := FD.bindsN fun _ _ _ _ _ _ us hl => match us, hl with | [_, _], _ => rfl
  refine F.ok scText (fun vs H Q E h => ?_) (fun cdv A outer s H vs Q E hr h => ?_)
  · obtain ⟨st, ns, rfl, _⟩ := h
    rfl
  obtain ⟨st, ns, rfl, S, k⟩ := h
  have nd := scText.nd
  refine ⟨_, PSs.nox (pss_cons (ps_set (i := 1) nd rfl (Or.inl rfl) pe_str)
    (pss_cons (ps_set (i := 2) nd rfl (Or.inl rfl) (pe_lst (pa_cons pe_str (pa_cons pe_str (pa_cons pe_str (pa_cons pe_str (pa_cons pe_str (pa_cons pe_str (pa_cons pe_str (pa_cons pe_str (pa_cons pe_str pa_nil)))))))))))
    (pss_cons (ps_set (i := 3) nd rfl (Or.inl rfl) (pe_call GD hr rfl (T.g "_law_draw") FD.kp bD .nil pass0 (pa_cons (pv 0) (pa_cons pe_int pa_nil))))
    (pss_cons (ps_set (i := 4) nd rfl (Or.inl rfl) (pe_op op_add pe_int (pe_call GD hr rfl (T.g "_law_draw") FD.kp bD .nil pass0 (pa_cons (pv 0) (pa_cons pe_int pa_nil)))))
    (C8.pss_cut (ps_if (pt_cmpR op_eq (pe_call GD hr rfl (T.g "_law_draw") FD.kp bD .nil pass0 (pa_cons (pv 0) (pa_cons pe_int pa_nil))) pe_int (nomark _))
      (pss_one (ps_set (i := 4) nd rfl (Or.inl rfl) (pe_op op_add pe_int (pe_call GD hr rfl (T.g "_law_draw") FD.kp bD .nil pass0 (pa_cons (pv 0) (pa_cons pe_int pa_nil)))))) pss_nil)
    (pss_cons (ps_set (i := 5) nd rfl (Or.inl rfl) pe_str)
    (pss_cons (ps_for PassesOwn.never rfl (pi_range1 rfl (T.f "range") (pa_cons (pv 4) pa_nil)) (pg_name (i := 6) nd rfl (Or.inl rfl))
      (pss_one (ps_set (i := 5) nd rfl (Or.inl rfl) (pe_op op_add_str (pv 5) (pe_item_str (pv 1) (pe_call GD hr rfl (T.g "_law_draw") FD.kp bD .nil pass0 (pa_cons (pv 0) (pa_cons pe_int pa_nil))) (fun _ _ => rfl))))))
    (C8.pss_cut (ps_if (pt_cmpR op_lt (pv 3) pe_int (nomark _))
      (pss_one (ps_set (i := 5) nd rfl (Or.inl rfl) (pe_ix ix_list (pv 2) (pe_call GD hr rfl (T.g "_law_draw") FD.kp bD .nil pass0 (pa_cons (pv 0) (pa_cons pe_int pa_nil))) (fun _ _ => rfl)))) pss_nil)
    (C8.pss_cut (ps_if (pt_cmpR op_eq (pv 3) pe_int (nomark _))
      (pss_one (ps_set (i := 5) nd rfl (Or.inl rfl) (pe_op op_add_str (pv 5) (pe_item_str (pv 1) (pe_call GD hr rfl (T.g "_law_draw") FD.kp bD .nil pass0 (pa_cons (pv 0) (pa_cons pe_int pa_nil))) (fun _ _ => rfl))))) pss_nil)
    (C8.pss_cut (ps_if (pt_cmpR op_eq (pv 3) pe_int (nomark _))
      (pss_one (ps_set (i := 5) nd rfl (Or.inl rfl) (pe_slice sl_str (pv 5) po_none (po_some (pe_un un_neg pe_int))))) pss_nil)
    (C8.pss_cut (ps_if (pt_cmpR op_eq (pv 3) pe_int (nomark _))
      (pss_cons (ps_set (i := 7) nd rfl (Or.inl rfl) (pe_call GD hr rfl (T.g "_law_draw") FD.kp bD .nil pass0 (pa_cons (pv 0) (pa_cons (pe_callB call_len_str rfl (T.f "len") (by decide +kernel) (pa_cons (pv 5) pa_nil)) pa_nil))))
      (pss_one (ps_set (i := 5) nd rfl (Or.inl rfl) (pe_op op_add_str (pe_op op_add_str (pe_slice sl_str (pv 5) po_none (po_some (pv 7)))
        (pe_item_str pe_str (pe_call GD hr rfl (T.g "_law_draw") FD.kp bD .nil pass0 (pa_cons (pv 0) (pa_cons pe_int pa_nil))) (fun _ _ => rfl)))
        (pe_slice sl_str (pv 5) (po_some (pe_op op_add (pv 7) pe_int)) po_none))))) pss_nil)
    (pss_one (ps_ret (pv 5)))))))))))))), ?_⟩
  refine ⟨by show 9 ≤ sizeLine; rw [sizeLine_eq]; decide, fun L hL => ?_⟩
  have nL : L ≠ st := fun z => by
    obtain ⟨_, _, _, _, h1, _⟩ := S
    rw [z, h1] at hL
    cases hL
  generalize hX : upd H L _ = X
  have sX : Same H X := fun b o e => by rw [← hX, upd_ne (ne_of_none e hL)]; exact e
  have eL : X L = some (.lst (noNames.map V.str)) := by rw [← hX, upd_same]; rfl
  clear hX
  refine ⟨_, rfl, st, 6, ns, rfl, by decide, by decide, S.same sX, fun ch H1 c0 c1 S1 B1 => ?_⟩
  refine ⟨_, rfl, st, 8, ns, rfl, by decide, by decide, S1, fun r H2 r0 r1 S2 B2 => ?_⟩
  refine ⟨_, _, rfl, rfl, ?_⟩
  have BX2 := B1.trans B2
  -- the count
  refine ⟨fun σ H' => ∃ ct, σ = sg st L ch ct none none none ∧ 1 ≤ ct ∧ ct ≤ 10 ∧ StAt H' st ns ∧ SameBut st X H', ?_, ?_⟩
  · refine ⟨_, rfl, st, 3, ns, rfl, by decide, by decide, S2, fun r' H3 _ _ S3 B3 => ⟨rfl, _, rfl, ?_⟩⟩
    refine ite2 (fun _ => ?_) (fun _ => ?_)
    · refine ⟨_, rfl, st, 4, ns, rfl, by decide, by decide, S3, fun r2 H4 x0 x1 S4 B4 => ⟨_, _, rfl, rfl, _, rfl, by omega, by omega, S4, (BX2.trans B3).trans B4⟩⟩
    · exact ⟨_, rfl, by omega, by omega, S3, BX2.trans B3⟩
  rintro σ H3 ⟨ct, rfl, ct0, ct1, S3, B3⟩
  obtain ⟨n, rfl⟩ := Int.eq_ofNat_of_zero_le (show 0 ≤ ct by omega)
  -- the letters
  refine ⟨_, rfl, _, rfl, by omega, by omega, for_range (lo := 0) (n := ((n : Nat) : Int).toNat) (fun i σ H' => ∃ z kv, σ = sg st L ch (n : Nat) (some (.str z)) kv none ∧ z.length = i ∧ StAt H' st ns ∧ SameBut st X H') ⟨"", none, rfl, by decide +kernel, S3, B3⟩ ?_ ?_⟩
  · rintro i σ H' hi ⟨z, kv, rfl, hz, S', B'⟩
    refine ⟨_, rfl, _, rfl, _, rfl, st, 26, ns, rfl, by decide, by decide, S', fun r H4 x0 x1 S4 B4 => ?_⟩
    obtain ⟨c, hc⟩ := sign_at (z := LET) x0 (by rw [LET_len]; exact x1)
    refine ⟨LET, r, c, rfl, rfl, x0, by omega, (by rw [LET_len]; omega), hc, _, _, rfl, rfl, line_le (by show z.length + 1 ≤ 1000; omega), ?_⟩
    exact ⟨_, _, rfl, by rw [add_len, hz]; rfl, S4, B'.trans B4⟩
  rintro σ H4 ⟨z, kv, rfl, hz, S4, B4⟩
  have hz1 : z.length ≤ 10 := by omega
  have hz0 : 1 ≤ z.length := by omega
  clear hz
  -- one of the words that are no names
  refine ⟨fun σ H' => ∃ z, σ = sg st L ch (n : Nat) (some (.str z)) kv none ∧ z.length ≤ 10 ∧ (3 ≤ ch → 1 ≤ z.length) ∧ StAt H' st ns ∧ SameBut st X H', ?_, ?_⟩
  · refine ⟨_, rfl, _, _, rfl, rfl, _, rfl, ?_⟩
    refine ite2 (fun h => ?_) (fun h => ?_)
    · refine ⟨_, rfl, _, rfl, st, 9, ns, rfl, by decide, by decide, S4, fun r H5 x0 x1 S5 B5 => ?_⟩
      have hc3 : ch < 3 := of_decide_eq_true h
      obtain ⟨j, rfl⟩ := Int.eq_ofNat_of_zero_le x0
      have hj : j < noNames.length := by
        show j < 9
        omega
      have hw : (noNames.map V.str)[j]? = some (V.str noNames[j]) := by rw [List.getElem?_map, List.getElem?_eq_getElem hj]; rfl
      have all5 : ∀ y ∈ noNames, y.length ≤ 10 := by decide +kernel
      exact ⟨L, _, _, _, rfl, rfl, SqL.of ((B4.trans B5) _ _ nL eL), atI_nat hw, _, rfl, all5 _ (List.getElem_mem hj), fun q => by omega, S5, B4.trans B5⟩
    · exact ⟨z, rfl, hz1, fun _ => hz0, S4, B4⟩
  rintro σ H5 ⟨z1, rfl, l1, g1, S5, B5⟩
  -- a letter more
  refine ⟨fun σ H' => ∃ z, σ = sg st L ch (n : Nat) (some (.str z)) kv none ∧ z.length ≤ 11 ∧ (3 ≤ ch → 1 ≤ z.length) ∧ StAt H' st ns ∧ SameBut st X H', ?_, ?_⟩
  · refine ⟨_, rfl, rfl, _, rfl, ?_⟩
    refine ite2 (fun h => ?_) (fun h => ?_)
    · have hc1 : V.int ch = V.int 1 := of_decide_eq_true h
      cases hc1
      refine ⟨_, rfl, _, rfl, _, rfl, st, 26, ns, rfl, by decide, by decide, S5, fun r H6 x0 x1 S6 B6 => ?_⟩
      obtain ⟨c, hc⟩ := sign_at (z := LET) x0 (by rw [LET_len]; exact x1)
      refine ⟨LET, r, c, rfl, rfl, x0, by omega, (by rw [LET_len]; omega), hc, _, _, rfl, rfl, line_le (by show z1.length + 1 ≤ 1000; omega), ?_⟩
      exact ⟨_, rfl, by rw [add_len]; show z1.length + 1 ≤ 11; omega, fun q => by omega, S6, B5.trans B6⟩
    · exact ⟨z1, rfl, by omega, g1, S5, B5⟩
  rintro σ H6 ⟨z2, rfl, l2, g2, S6, B6⟩
  -- the last letter away
  refine ⟨fun σ H' => ∃ z, σ = sg st L ch (n : Nat) (some (.str z)) kv none ∧ z.length ≤ 11 ∧ (3 ≤ ch → 1 ≤ z.length) ∧ StAt H' st ns ∧ SameBut st X H', ?_, ?_⟩
  · refine ⟨_, rfl, rfl, _, rfl, ?_⟩
    refine ite2 (fun h => ?_) (fun h => ?_)
    · have hc1 : V.int ch = V.int 2 := of_decide_eq_true h
      cases hc1
      refine ⟨_, rfl, _, rfl, _, rfl, z2, rfl, line_le (by omega), ?_⟩
      exact ⟨_, rfl, Nat.le_trans (cutS_le _ _ _) l2, fun q => by omega, S6, B6⟩
    · exact ⟨z2, rfl, l2, g2, S6, B6⟩
  rintro σ H7 ⟨z3, rfl, l3, g3, S7, B7⟩
  -- one sign changed
  refine ⟨fun σ H' => ∃ z pl, σ = sg st L ch (n : Nat) (some (.str z)) kv pl ∧ z.length ≤ 100 ∧ StAt H' st ns ∧ SameBut st X H', ?_, ?_⟩
  · refine ⟨_, rfl, rfl, _, rfl, ?_⟩
    refine ite2 (fun h => ?_) (fun h => ?_)
    · have hc1 : V.int ch = V.int 3 := of_decide_eq_true h
      cases hc1
      have hg := g3 (by omega)
      refine ⟨_, rfl, _, rfl, z3, rfl, line_le (by omega), st, _, ns, rfl, by omega, by omega, S7, fun pl H8 p0 p1 S8 B8 => ?_⟩
      refine ⟨_, rfl, _, rfl, _, rfl, z3, rfl, line_le (by omega), ?_⟩
      refine ⟨_, rfl, st, 12, ns, rfl, by decide, by decide, S8, fun r H9 x0 x1 S9 B9 => ?_⟩
      obtain ⟨c, hc⟩ := sign_at (z := TAIL) x0 (by rw [TAIL_len]; exact x1)
      have la : (cutS z3 none (some pl)).length ≤ 11 := Nat.le_trans (cutS_le _ _ _) l3
      have lb : (cutS z3 (some (pl + 1)) none).length ≤ 11 := Nat.le_trans (cutS_le _ _ _) l3
      have lc : ((⟨#[c]⟩ : Str)).length = 1 := rfl
      refine ⟨TAIL, r, c, rfl, rfl, x0, by omega, (by rw [TAIL_len]; omega), hc, _, _, rfl, rfl, line_le (by omega), ?_⟩
      refine ⟨_, rfl, _, rfl, _, _, rfl, rfl, _, rfl, z3, rfl, line_le (by omega), ?_⟩
      have ld : (cutS z3 none (some pl) ++ (⟨#[c]⟩ : Str)).length ≤ 12 := by rw [add_len]; omega
      refine ⟨_, _, rfl, rfl, line_le (by omega), ?_⟩
      exact ⟨_, _, rfl, by rw [add_len]; omega, S9, (B7.trans B8).trans B9⟩
    · exact ⟨z3, none, rfl, by omega, S7, B7⟩
  rintro σ H9 ⟨z4, pl, rfl, l4, S9, B9⟩
  exact ⟨_, rfl, k z4 H9 l4 S9 ((SameBut.of sX).trans B9)⟩
end
end K0
set_option Elab.async false
set_option linter.all false
set_option maxRecDepth 100000
set_option maxHeartbeats 4000000
namespace Sw
open PySem PySem.Spec PyProof.Rows L2
/-- [f(c) for c in z if p(c)], neither changes anything -/
theorem lc_filtS {i : Nat} {z : Str} {f : Nat → V} {p : Nat → Bool} {tt : TT} {te : TE} {σ : L2.St} {H1 : Hp} {D : Addr} {Qd : Hp → Prop} (hz : z.length ≤ 1000)
    (hp : ∀ (c : Nat) (H : Hp) (Q : Bool → Hp → Prop), Q (p c) H → tt ((wipe σ [i]).set i (some (.str ⟨#[c]⟩))) H Q)
    (ht : ∀ (c : Nat) (H : Hp) (Q : VK), Q (f c) H → te ((wipe σ [i]).set i (some (.str ⟨#[c]⟩))) H Q) (hd : Qd (upd H1 D (.lst ((z.cps.toList.filter p).map f)))) :
    ∃ W : Nat → Nat → Hp → Prop, (∃ m, W 0 m (upd H1 D (.lst []))) ∧ ∀ j m H, W j m H →
      ((Its z).stop j H ∧ Qd H) ∨ ((Its z).go j H ∧ ∃ Nx : Hp → Prop, (∀ H', Nx H' → ∃ m', m' < m ∧ W (j + 1) m' H') ∧ ∀ x H', (Its z).yld j H x H' → gName i x (wipe σ [i]) H' fun σ2 H2 => wipe σ2 [i] = wipe σ [i] ∧ tt σ2 H2 fun b H3 =>
        if b = true then te σ2 H3 fun y H4 => ∃ acc, H4 D = some (.lst acc) ∧ acc.length < sizeLine ∧ Nx (upd H4 D (.lst (acc ++ [y]))) else Nx H3) := by
  have hsz : z.cps.size ≤ 1000 := hz
  have updd : ∀ (o o' : HO), upd (upd H1 D o) D o' = upd H1 D o' := fun o o' => by
    funext b
    by_cases hb : b = D
    · rw [hb, upd_same, upd_same]
    · rw [upd_ne hb, upd_ne hb, upd_ne hb]
  refine lc_it walk_str (fun j H => H = upd H1 D (.lst (((z.cps.toList.take j).filter p).map f))) (by simp) (fun _ _ _ _ => trivial) ?_ ?_
  · rintro j x H H' hj rfl ⟨rfl, c, hc, rfl⟩
    have hc2 : z.cps.toList[j]? = some c := by rw [Array.getElem?_toList]; exact hc
    refine ⟨by simp [wipe], hp c _ _ (ite2 (fun h => ht c _ _ ⟨_, upd_same, ?_, ?_⟩) fun h => ?_)⟩
    · rw [List.length_map, sizeLine_eq]
      have h1 : ((z.cps.toList.take j).filter p).length ≤ (z.cps.toList.take j).length := List.length_filter_le _ _
      rw [List.length_take] at h1
      omega
    · show upd (upd H1 D _) D _ = _
      rw [updd, List.take_add_one, hc2]
      simp [h]
    · show upd H1 D _ = _
      rw [List.take_add_one, hc2]
      simp [h]
  · rintro H rfl
    have e : z.cps.toList.take z.cps.size = z.cps.toList := List.take_of_length_le (by simp)
    rw [e]
    exact hd
end Sw
namespace K0
open PySem PySem.Spec PyProof.Rows L2 He Sw
section
variable {P : Program} {w : World} {K : PySem.W.Frag} {mg : Str → Option Value} {base : Heap}
/-! ### _law_equal, of a thing with itself -/
def spEqual : Sp := fun vs H Q _ => ∃ (v : V) (n : String), vs = [v, v] ∧ Th H v n ∧ Q (.bl true) H
theorem scEqual : FnScope ["_law_one", "_law_other"] ["_law_one", "_law_other"] (defScope sEqual) := ⟨rfl, rfl, rfl, by decide +kernel, rfl, by decide +kernel, by decide +kernel⟩
/-- a thing is equal to itself -/
theorem Th.eq {H : Hp} {v : V} {n : String} {Q : VK} (t : Th H v n) (q : Q (.bl true) H) : (rEq v v H Q ∨ rEqV K v v H Q) ∨ rEqD K v v H Q := by
  cases t with
  | non => exact .inl (.inl ⟨rfl, by rw [decide_eq_true rfl]; exact q⟩)
  | bl b => exact .inl (.inl ⟨rfl, by rw [decide_eq_true rfl]; exact q⟩)
  | int i => exact .inl (.inl ⟨rfl, by rw [decide_eq_true rfl]; exact q⟩)
  | str z h => exact .inl (.inl ⟨rfl, by rw [decide_eq_true rfl]; exact q⟩)
  | tup a e => exact .inr ⟨_, _, .tup (SqT.of e) (.cons (.str _) .nil), .tup (SqT.of e) (.cons (.str _) .nil), by decide +kernel, by decide +kernel, by
      rw [show PyData.eqv (.tuple [.str "x"]) (.tuple [.str "x"]) = true by decide +kernel]
      exact q⟩
  | lst a e => exact .inl (.inr ⟨1, by decide, .inl ⟨a, a, _, _, rfl, rfl, SqL.of e, SqL.of e, .cons (.inl ⟨rfl, rfl⟩) .nil⟩, q⟩)
  | dct a e => exact .inl (.inr ⟨1, by decide, .inr ⟨a, a, _, _, rfl, rfl, e, e, rfl, fun p hp => by
      have ep : p = (.inr "x", .int 1) := by simpa using hp
      subst ep
      exact ⟨_, rfl, .inl ⟨rfl, rfl⟩⟩⟩, q⟩)
theorem ok_equal {fd : FuncData} (T : Txt K mg) (F : FnG K "_law_equal" sEqual fd) : FnOk P w K mg base CX0 1 (ga K "_law_equal") fd ["_law_one", "_law_other"] spEqual := by
  refine F.ok scEqual (fun vs H Q E h => ?_) (fun cdv A outer s H vs Q E hr h => ?_)
  · obtain ⟨v, n, rfl, _⟩ := h
    rfl
  obtain ⟨v, n, rfl, t, k⟩ := h
  refine ⟨_, PSs.nox (pss_cons (ps_if (PW.pt (pw_or (pt_val (pe_callB call_isi rfl (T.f "isinstance") (by decide +kernel) (pa_cons (pv 0) (pa_cons (pe_bltn (v := .ty "bool") rfl (T.f "bool") (by decide +kernel) rfl) pa_nil))))
      (pw_or1 (pt_val (pe_callB call_isi rfl (T.f "isinstance") (by decide +kernel) (pa_cons (pv 1) (pa_cons (pe_bltn (v := .ty "bool") rfl (T.f "bool") (by decide +kernel) rfl) pa_nil)))))))
      (pss_one (ps_ret (pe_and (pe_callB call_isi rfl (T.f "isinstance") (by decide +kernel) (pa_cons (pv 0) (pa_cons (pe_bltn (v := .ty "bool") rfl (T.f "bool") (by decide +kernel) rfl) pa_nil)))
        (pe_and (pe_callB call_isi rfl (T.f "isinstance") (by decide +kernel) (pa_cons (pv 1) (pa_cons (pe_bltn (v := .ty "bool") rfl (T.f "bool") (by decide +kernel) rfl) pa_nil)))
          (pe_one (pe_cmpR ((op_eq.or (op_eqV hr.units)).or (op_eqD hr.units)) (pv 0) (pv 1) (nomark _))))))) pss_nil)
    (pss_one (ps_ret (pe_cmpR ((op_eq.or (op_eqV hr.units)).or (op_eqD hr.units)) (pv 0) (pv 1) (nomark _))))), ?_⟩
  have fin : ∀ {Q' : VK}, Q' (.bl true) H → (rEq v v H Q' ∨ rEqV K v v H Q') ∨ rEqD K v v H Q' := fun q => t.eq q
  refine ⟨_, rfl, v, .ty "bool", .type n, .type "bool", _, rfl, .ty _, t.ty, t.kBool, _, rfl, ?_⟩
  refine ite2 (fun h => ?_) (fun h => ?_)
  · refine ite2 (fun _ => ?_) (fun h2 => absurd rfl h2)
    refine ⟨_, rfl, v, .ty "bool", .type n, .type "bool", _, rfl, .ty _, t.ty, t.kBool, _, rfl, ?_⟩
    refine ite2 (fun _ => ?_) (fun h2 => absurd h h2)
    refine ⟨_, rfl, v, .ty "bool", .type n, .type "bool", _, rfl, .ty _, t.ty, t.kBool, _, rfl, ?_⟩
    refine ite2 (fun _ => ?_) (fun h2 => absurd h h2)
    exact ⟨_, rfl, _, rfl, fin k⟩
  · refine ⟨_, rfl, v, .ty "bool", .type n, .type "bool", _, rfl, .ty _, t.ty, t.kBool, _, rfl, ?_⟩
    refine ite2 (fun h2 => absurd h2 h) (fun _ => ?_)
    exact ⟨_, rfl, _, rfl, fin k⟩
end
end K0
set_option Elab.async false
set_option linter.all false
set_option maxRecDepth 100000
set_option maxHeartbeats 4000000
namespace K0
open PySem PySem.Spec PyProof.Rows L2 He Sw
section
variable {P : Program} {w : World} {K : PySem.W.Frag} {mg : Str → Option Value} {base : Heap}
/-! ### _law_good -/
def spGood : Sp := fun vs H Q _ => ∃ (v : V) (n : String) (b : Bool), vs = [v, .bl b] ∧ Th H v n ∧ ∀ H', Same H H' → Q (.bl (if b = true then goodN v else isNm v)) H'
theorem scGood : FnScope ["_law_thing", "_law_number", "_law_kept", "_law_one"] ["_law_thing", "_law_number"] (defScope sGood) := ⟨rfl, rfl, rfl, by decide +kernel, rfl, by decide +kernel, by decide +kernel⟩
theorem ok_good {fd fdI : FuncData} (T : Txt K mg) (F : FnG K "_law_good" sGood fd) (FI : FnG K "_law_is_integer" sLInt fdI) : FnOk P w K mg base CX0 2 (ga K "_law_good") fd ["_law_thing", "_law_number"] spGood := by
  have GI : FnOk P w K mg base CX0 1 (ga K "_law_is_integer") fdI ["_law_thing"] spIsInt := ok_lInt T FI
  have bI : Binds K fdI ["_law_thing"] [] := FI.bindsN fun _ _ _ _ _ _ us hl => match us, hl with | [_], _ => rfl
  refine F.ok scGood (fun vs H Q E h => ?_) (fun cdv A outer s H vs Q E hr h => ?_)
  · obtain ⟨v, n, b, rfl, _⟩ := h
    rfl
  obtain ⟨v, n, b, rfl, t, k⟩ := h
  have nd := scGood.nd
  refine ⟨_, PSs.nox (pss_cons (ps_if (pt_val (pv 1)) (pss_one (ps_ret (pe_and (pe_call GI hr rfl (T.g "_law_is_integer") FI.kp bI .nil pass0 (pa_cons (pv 0) pa_nil))
      (pe_one (pe_chain op_le op_lt pe_int (pv 0) (pe_op op_pow pe_int pe_int)))))) pss_nil)
    (pss_cons (ps_set (i := 2) nd rfl (Or.inl rfl) (pe_lst (pa_cons pe_str (pa_cons pe_str (pa_cons pe_str (pa_cons pe_str (pa_cons pe_str (pa_cons pe_str (pa_cons pe_str (pa_cons pe_str (pa_cons pe_str pa_nil)))))))))))
    (pss_cons (ps_if (PW.pt (pw_or (pt_not (pt_val (pe_callB call_isi rfl (T.f "isinstance") (by decide +kernel) (pa_cons (pv 0) (pa_cons (pe_bltn (v := .ty "str") rfl (T.f "str") (by decide +kernel) rfl) pa_nil)))))
      (pw_or (pt_cmpR op_in_seq (pv 0) (pv 2) rfl) (pw_or (pt_cmpR op_lt (pe_callB call_len_str rfl (T.f "len") (by decide +kernel) (pa_cons (pv 0) pa_nil)) pe_int (nomark _))
        (pw_or1 (pt_cmpR op_gt (pe_callB call_len_str rfl (T.f "len") (by decide +kernel) (pa_cons (pv 0) pa_nil)) pe_int (nomark _)))))))
      (pss_one (ps_ret pe_bl)) pss_nil)
    (pss_one (ps_ret (pe_cmpR op_eq (pe_callB call_len_seq rfl (T.f "len") (by decide +kernel) (pa_cons (pe_lc (own := [("_law_one", 3)]) (g := gName 3) rfl nd (pi_str (pv 0))
        (blkOk_by (N := ["_law_thing", "_law_number", "_law_kept", "_law_one"]) (sc := defScope sGood) (by decide +kernel)) (fun _ _ _ _ _ => pg_name (i := 3) nd rfl (Or.inl rfl)) (fun _ _ _ _ _ => pts_one (pt_cmpR op_notIn_sign (pv 3) pe_str rfl))
        (fun _ _ _ _ _ => pv 3)) pa_nil)) pe_int (nomark _))))))), ?_⟩
  refine ⟨_, rfl, b, rfl, ?_⟩
  refine ite2 (fun h => ?_) (fun h => ?_)
  · -- a number
    subst h
    have k : ∀ H', Same H H' → Q (.bl (goodN v)) H' := k
    refine ⟨_, rfl, v, n, rfl, t, _, rfl, ?_⟩
    refine ite2 (fun h => ?_) (fun h => ?_)
    · obtain ⟨i, rfl⟩ : ∃ i, v = .int i := by
        cases t <;> first | cases h | skip
        exact ⟨_, rfl⟩
      have fin : ∀ c, c = goodN (.int i) → Q (.bl c) H := fun c e => by
        rw [e]
        exact k H (Same.refl H)
      refine ⟨_, rfl, _, _, rfl, rfl, _, rfl, ?_⟩
      refine ite2 (fun h1 => ?_) (fun h1 => ?_)
      · refine ⟨_, _, rfl, rfl, ⟨by decide, by decide, by decide⟩, _, _, rfl, rfl, fin _ ?_⟩
        show decide (i < 10 ^ 30) = (decide (0 ≤ i) && decide (i < 10 ^ 30))
        rw [show decide (0 ≤ i) = true from h1, Bool.true_and]
      · refine fin _ ?_
        show false = (decide (0 ≤ i) && decide (i < 10 ^ 30))
        rw [show decide (0 ≤ i) = false from notE h1, Bool.false_and]
    · have e : goodN v = false := by
        cases t <;> first | rfl | exact absurd rfl h
      have q := k H (Same.refl H)
      rw [e] at q
      exact q
  have eb : b = false := notE h
  subst eb
  have k : ∀ H', Same H H' → Q (.bl (isNm v)) H' := k
  refine ⟨by show 9 ≤ sizeLine; rw [sizeLine_eq]; decide, fun L hL => ?_⟩
  generalize hX : upd H L _ = X
  have sX : Same H X := fun b o e => by rw [← hX, upd_ne (ne_of_none e hL)]; exact e
  have eL : X L = some (.lst (noNames.map V.str)) := by rw [← hX, upd_same]; rfl
  clear hX
  refine ⟨_, rfl, v, .ty "str", .type n, .type "str", _, rfl, .ty _, (t.same sX).ty, t.kStr, _, rfl, ?_⟩
  refine ite2 (fun h => ?_) (fun h => ?_)
  · refine ite2 (fun _ => ?_) (fun h2 => absurd rfl h2)
    have e : isNm v = false := by cases t <;> first | rfl | cases h
    have q := k X sX
    rw [e] at q
    exact q
  obtain ⟨z, rfl, hz⟩ : ∃ z, v = V.str z ∧ z.length ≤ 100 := by
    cases t <;> first | exact absurd rfl h | skip
    exact ⟨_, rfl, by assumption⟩
  have fin : ∀ c, c = isNmS z → ∀ H', Same X H' → Q (.bl c) H' := fun c e H' s' => by
    rw [e]
    exact k H' (sX.trans s')
  refine ⟨_, rfl, _, rfl, L, _, rfl, .inl (SqL.of eL), rfl, noN_flat, _, rfl, ?_⟩
  refine ite2 (fun h1 => ?_) (fun h1 => ?_)
  · refine ite2 (fun _ => ?_) (fun h2 => absurd rfl h2)
    refine fin false ?_ X (Same.refl X)
    have e : inV (.str z) (noNames.map V.str) = true := h1
    unfold isNmS
    rw [e]
    simp
  have e1 : inV (.str z) (noNames.map V.str) = false := notE h1
  refine ⟨_, rfl, z, rfl, line_le (by omega), _, _, rfl, rfl, _, rfl, ?_⟩
  refine ite2 (fun h2 => ?_) (fun h2 => ?_)
  · refine ite2 (fun _ => ?_) (fun h3 => absurd rfl h3)
    refine fin false ?_ X (Same.refl X)
    have e : (((z.length : Nat)) : Int) < 1 := of_decide_eq_true h2
    unfold isNmS
    rw [decide_eq_false (by omega : ¬ ((1 : Int) ≤ (z.length : Nat))), Bool.false_and]
  have e2 : ¬ ((((z.length : Nat)) : Int) < 1) := fun q => h2 (decide_eq_true q)
  refine ⟨_, rfl, z, rfl, line_le (by omega), _, _, rfl, rfl, _, rfl, ?_⟩
  refine ite2 (fun h3 => ?_) (fun h3 => ?_)
  · refine fin false ?_ X (Same.refl X)
    have e : (8 : Int) < (((z.length : Nat)) : Int) := of_decide_eq_true h3
    unfold isNmS
    rw [decide_eq_false (by omega : ¬ (((z.length : Nat) : Int) ≤ 8)), Bool.false_and, Bool.and_false]
  have e3 : ¬ ((8 : Int) < (((z.length : Nat)) : Int)) := fun q => h3 (decide_eq_true q)
  -- every sign is a small letter
  refine ⟨_, rfl, z, rfl, fun D hD => ?_⟩
  refine lc_filtS (f := fun c => V.str ⟨#[c]⟩) (p := fun c => !decide (c ∈ LET.cps.toList)) (by omega) (fun c H Q q => ⟨_, rfl, c, _, rfl, rfl, _, rfl, q⟩) (fun c H Q q => ⟨_, rfl, q⟩) ?_
  refine ⟨D, _, rfl, .inl (SqL.of upd_same), rfl, fin _ ?_ _ fun b o e => by rw [upd_ne (ne_of_none e hD)]; exact e⟩
  unfold isNmS
  rw [e1, decide_eq_true (by omega : (1 : Int) ≤ (z.length : Nat)), decide_eq_true (by omega : ((z.length : Nat) : Int) ≤ 8)]
  show decide (V.int _ = V.int 0) = (true && (true && (!false && low z)))
  rw [List.length_map]
  unfold low
  rw [Bool.eq_iff_iff]
  simp only [decide_eq_true_eq, V.int.injEq, Bool.true_and, Bool.not_false, List.all_eq_true]
  constructor
  · intro h c hc
    have h0 : (z.cps.toList.filter fun c => !decide (c ∈ LET.cps.toList)) = [] := List.eq_nil_of_length_eq_zero (by omega)
    have := List.filter_eq_nil_iff.mp h0 c hc
    simpa using this
  · intro h
    have h0 : (z.cps.toList.filter fun c => !decide (c ∈ LET.cps.toList)) = [] := List.filter_eq_nil_iff.mpr fun c hc => by simpa using h c hc
    rw [h0]
    rfl
end
end K0
set_option Elab.async false
set_option linter.all false
set_option maxRecDepth 100000
set_option maxHeartbeats 4000000
namespace K0
open PySem PySem.Spec PyProof.Rows L2 He Sw L2H
section
variable {P : Program} {w : World} {K : PySem.W.Frag} {mg : Str → Option Value} {base : Heap}
/-! ### _law_class, of an exception that is handled -/
def words : List Str := ["name", "width", "number", "bound", "formula", "value", "many", "long"]
def spClass (K : PySem.W.Frag) : Addr × Obj → Sp := fun p vs H Q _ => ∃ (D d : Addr) (fs : List (Str × V)) (idx : Nat) (wd : Str), vs = [.ref p.1] ∧ Zc (.ref D) (some d) p.2 ∧ (∃ ws, p.2.data = .fields ws) ∧ ExcC K D ∧ H d = some (.xd fs) ∧
  (∀ j y, kinds[j]? = some y → PySem.W.kitOne K (.ref D) (.ref (ga K y)) = some (decide (j = idx))) ∧ PySem.W.kitOne K (.ref D) (.type "ValueError") = some true ∧ words[idx]? = some wd ∧ ∀ H', Same H H' → Q (.str wd) H'
theorem scClass : FnScope ["_law_e", "_law_kinds", "_law_words", "_law_found", "_law_k"] ["_law_e"] (defScope sClass) := ⟨rfl, rfl, rfl, by decide +kernel, rfl, by decide +kernel, by decide +kernel⟩
theorem ok_class {fd : FuncData} (T : Txt K mg) (F : FnG K "_law_class" sClass fd) : FnE P w K mg base CX0 1 (ga K "_law_class") fd ["_law_e"] (spClass K) := by
  obtain ⟨oc, od, dV, kV, doc, pm, an, cdv, ct, osl, rfl, lk, hcd, _, _⟩ := F.ex
  refine fn_ofE lk hcd scClass (fun p vs H Q E h => ?_) (fun p A outer s H vs Q E hot hr h => ?_)
  · obtain ⟨D, d, fs, idx, wd, rfl, _⟩ := h
    rfl
  obtain ⟨D, d, fs, idx, wd, rfl, hz, hf, TD, hd, hk, hv, hw, k⟩ := h
  have nd := scClass.nd
  have hc : HotC (cxH CX0 P w K mg base ["_law_e", "_law_kinds", "_law_words", "_law_found", "_law_k"] "_law_class" (defScope sClass) (ga K "_law_class") cdv A outer s H E p).nox := ⟨p, ⟨hot.1, hot.2⟩, List.mem_cons_self⟩
  have hp : p ∈ (cxH CX0 P w K mg base ["_law_e", "_law_kinds", "_law_words", "_law_found", "_law_k"] "_law_class" (defScope sClass) (ga K "_law_class") cdv A outer s H E p).nox.pn := List.mem_cons_self
  refine ⟨_, PSs.nox (pss_cons (ps_set (i := 1) nd rfl (Or.inr rfl) (pe_lst (pa_cons (pe_callB (call_isX TD hp hz hf) rfl (T.f "isinstance") (by decide +kernel) (pa_cons (pv 0) (pa_cons (pe_glob (v := .ref (ga K "BadName")) rfl (T.g "BadName") rfl) pa_nil)))
      (pa_cons (pe_callB (call_isX TD hp hz hf) rfl (T.f "isinstance") (by decide +kernel) (pa_cons (pv 0) (pa_cons (pe_glob (v := .ref (ga K "BadWidth")) rfl (T.g "BadWidth") rfl) pa_nil)))
      (pa_cons (pe_callB (call_isX TD hp hz hf) rfl (T.f "isinstance") (by decide +kernel) (pa_cons (pv 0) (pa_cons (pe_glob (v := .ref (ga K "BadNumber")) rfl (T.g "BadNumber") rfl) pa_nil)))
      (pa_cons (pe_callB (call_isX TD hp hz hf) rfl (T.f "isinstance") (by decide +kernel) (pa_cons (pv 0) (pa_cons (pe_glob (v := .ref (ga K "BadBound")) rfl (T.g "BadBound") rfl) pa_nil))) pa_nil))))))
    (pss_cons (ps_set (i := 1) nd rfl (Or.inr rfl) (pe_op op_cat (pv 1) (pe_lst (pa_cons (pe_callB (call_isX TD hp hz hf) rfl (T.f "isinstance") (by decide +kernel) (pa_cons (pv 0) (pa_cons (pe_glob (v := .ref (ga K "BadFormula")) rfl (T.g "BadFormula") rfl) pa_nil)))
      (pa_cons (pe_callB (call_isX TD hp hz hf) rfl (T.f "isinstance") (by decide +kernel) (pa_cons (pv 0) (pa_cons (pe_glob (v := .ref (ga K "BadValue")) rfl (T.g "BadValue") rfl) pa_nil)))
      (pa_cons (pe_callB (call_isX TD hp hz hf) rfl (T.f "isinstance") (by decide +kernel) (pa_cons (pv 0) (pa_cons (pe_glob (v := .ref (ga K "TooMany")) rfl (T.g "TooMany") rfl) pa_nil)))
      (pa_cons (pe_callB (call_isX TD hp hz hf) rfl (T.f "isinstance") (by decide +kernel) (pa_cons (pv 0) (pa_cons (pe_glob (v := .ref (ga K "TooLong")) rfl (T.g "TooLong") rfl) pa_nil))) pa_nil)))))))
    (pss_cons (ps_set (i := 2) nd rfl (Or.inr rfl) (pe_lst (pa_cons pe_str (pa_cons pe_str (pa_cons pe_str (pa_cons pe_str (pa_cons pe_str (pa_cons pe_str (pa_cons pe_str (pa_cons pe_str pa_nil))))))))))
    (pss_cons (ps_setLcH (i := 3) (own := [("_law_k", 4)]) (n := 8) (lo := 0) (g := gName 4) (tt := tTest (tOp (rIxL K) (tVar 1) (tVar 4))) (te := tOp (rIxL K) (tVar 2) (tVar 4)) hc nd rfl rfl (sw_true rfl rfl rfl (by decide +kernel)) (pi_range1H rfl (T.f "range") (pa_cons pe_int pa_nil))
        (fun σ H R q => ⟨8, rfl, by decide, by decide, q⟩) (blkOk_by (N := ["_law_e", "_law_kinds", "_law_words", "_law_found", "_law_k"]) (sc := defScope sClass) (by decide +kernel)) (fun _ _ _ _ _ => pg_name (i := 4) nd rfl (Or.inl rfl))
        (fun _ _ _ _ _ => pts_one (pt_val (pe_ix ix_list (pv 1) (pv 4) (fun _ _ => rfl)))) (fun _ _ _ _ _ => pe_ix ix_list (pv 2) (pv 4) (fun _ _ => rfl)))
    (pss_cons (ps_if (PW.pt (pw_or (pt_cmpR op_ne (pe_callB call_len_seq rfl (T.f "len") (by decide +kernel) (pa_cons (pv 3) pa_nil)) pe_int (nomark _))
      (pw_or1 (pt_not (pt_val (pe_callB (call_isX TD hp hz hf) rfl (T.f "isinstance") (by decide +kernel) (pa_cons (pv 0) (pa_cons (pe_bltn (v := .ty "ValueError") rfl (T.f "ValueError") (by decide +kernel) rfl) pa_nil))))))))
      (pss_one (ps_ret pe_str)) pss_nil)
    (pss_one (ps_ret (pe_ix ix_list (pv 3) pe_int (fun _ _ => rfl))))))))), ?_⟩
  have idx8 : idx < 8 := (List.getElem?_eq_some_iff.mp hw).1
  have HS : ∀ {H' : Hp}, Same H H' → H' d = some (.xd fs) := fun s' => s' _ _ hd
  -- the first kinds
  refine ⟨_, rfl, V.ref (ga K "BadName"), .ref (ga K "BadName"), _, fs, rfl, fun _ h => h, hk 0 "BadName" rfl, hd, ?_⟩
  refine ⟨_, rfl, V.ref (ga K "BadWidth"), .ref (ga K "BadWidth"), _, fs, rfl, fun _ h => h, hk 1 "BadWidth" rfl, hd, ?_⟩
  refine ⟨_, rfl, V.ref (ga K "BadNumber"), .ref (ga K "BadNumber"), _, fs, rfl, fun _ h => h, hk 2 "BadNumber" rfl, hd, ?_⟩
  refine ⟨_, rfl, V.ref (ga K "BadBound"), .ref (ga K "BadBound"), _, fs, rfl, fun _ h => h, hk 3 "BadBound" rfl, hd, ?_⟩
  refine ⟨by show 4 ≤ sizeLine; rw [sizeLine_eq]; decide, fun A1 f1 => ?_⟩
  generalize hX1 : upd H A1 _ = H1
  have s1 : Same H H1 := fun b o e => by rw [← hX1, upd_ne (ne_of_none e f1)]; exact e
  have e1 : H1 A1 = some (.lst [.bl (decide (0 = idx)), .bl (decide (1 = idx)), .bl (decide (2 = idx)), .bl (decide (3 = idx))]) := by rw [← hX1, upd_same]
  clear hX1
  -- the others
  refine ⟨_, rfl, ?_⟩
  refine ⟨_, rfl, V.ref (ga K "BadFormula"), .ref (ga K "BadFormula"), _, fs, rfl, fun _ h => h, hk 4 "BadFormula" rfl, HS s1, ?_⟩
  refine ⟨_, rfl, V.ref (ga K "BadValue"), .ref (ga K "BadValue"), _, fs, rfl, fun _ h => h, hk 5 "BadValue" rfl, HS s1, ?_⟩
  refine ⟨_, rfl, V.ref (ga K "TooMany"), .ref (ga K "TooMany"), _, fs, rfl, fun _ h => h, hk 6 "TooMany" rfl, HS s1, ?_⟩
  refine ⟨_, rfl, V.ref (ga K "TooLong"), .ref (ga K "TooLong"), _, fs, rfl, fun _ h => h, hk 7 "TooLong" rfl, HS s1, ?_⟩
  refine ⟨by show 4 ≤ sizeLine; rw [sizeLine_eq]; decide, fun A2 f2 => ?_⟩
  generalize hX2 : upd H1 A2 _ = H2
  have s2 : Same H1 H2 := fun b o e => by rw [← hX2, upd_ne (ne_of_none e f2)]; exact e
  have e2 : H2 A2 = some (.lst [.bl (decide (4 = idx)), .bl (decide (5 = idx)), .bl (decide (6 = idx)), .bl (decide (7 = idx))]) := by rw [← hX2, upd_same]
  clear hX2
  refine ⟨A1, A2, _, _, rfl, rfl, s2 _ _ e1, e2, by show 8 ≤ sizeLine; rw [sizeLine_eq]; decide, fun A3 f3 => ?_⟩
  generalize hX3 : upd H2 A3 _ = H3
  have s3 : Same H2 H3 := fun b o e => by rw [← hX3, upd_ne (ne_of_none e f3)]; exact e
  have e3 : H3 A3 = some (.lst [.bl (decide (0 = idx)), .bl (decide (1 = idx)), .bl (decide (2 = idx)), .bl (decide (3 = idx)), .bl (decide (4 = idx)), .bl (decide (5 = idx)), .bl (decide (6 = idx)), .bl (decide (7 = idx))]) := by rw [← hX3, upd_same]; rfl
  clear hX3
  refine ⟨by show 8 ≤ sizeLine; rw [sizeLine_eq]; decide, fun A4 f4 => ?_⟩
  generalize hX4 : upd H3 A4 _ = H4
  have s4 : Same H3 H4 := fun b o e => by rw [← hX4, upd_ne (ne_of_none e f4)]; exact e
  have e4 : H4 A4 = some (.lst (words.map V.str)) := by rw [← hX4, upd_same]; rfl
  clear hX4
  have e3' := s4 _ _ e3
  have s04 : Same H H4 := ((s1.trans s2).trans s3).trans s4
  clear e1 e2 e3 f1 f2 f3 f4
  have hat : ∀ i, i < 8 → atI [V.bl (decide (0 = idx)), .bl (decide (1 = idx)), .bl (decide (2 = idx)), .bl (decide (3 = idx)), .bl (decide (4 = idx)), .bl (decide (5 = idx)), .bl (decide (6 = idx)), .bl (decide (7 = idx))] (0 + (i : Nat)) = some (.bl (decide (i = idx))) := fun i hi =>
    match i, hi with
    | 0, _ | 1, _ | 2, _ | 3, _ | 4, _ | 5, _ | 6, _ | 7, _ => rfl
    | n + 8, h => absurd h (by omega)
  have hwd : atI (words.map V.str) (0 + (idx : Nat)) = some (V.str wd) := by
    rw [Int.zero_add]
    exact atI_nat (by rw [List.getElem?_map, hw]; rfl)
  -- the word
  intro D5 f5
  have up5 : ∀ {H' : Hp} {o : HO}, Same H4 H' → Same H4 (upd H' D5 o) := fun {H' o} s' b o' e => by rw [upd_ne (ne_of_none e f5)]; exact s' _ _ e
  refine ⟨fun i H' => H' D5 = some (.lst (if i ≤ idx then [] else [.str wd])) ∧ Same H4 H', ⟨by rw [upd_same, if_pos (Nat.zero_le _)], up5 (Same.refl H4)⟩, fun i H' hi ⟨hD, sD⟩ => ?_, fun H5 ⟨hD, s5⟩ => ?_⟩
  · refine ⟨rfl, _, rfl, _, rfl, A3, _, _, _, rfl, rfl, SqL.of (sD _ _ e3'), hat i hi, _, rfl, ?_⟩
    refine ite2 (fun h => ?_) (fun h => ?_)
    · have e : i = idx := of_decide_eq_true h
      subst e
      refine ⟨_, rfl, _, rfl, A4, _, _, _, rfl, rfl, SqL.of (sD _ _ e4), hwd, [], ?_, ?_, ?_, up5 sD⟩
      · rw [hD, if_pos (Nat.le_refl _)]
      · show 0 < sizeLine
        rw [sizeLine_eq]
        decide
      · rw [upd_same, if_neg (by omega)]
        rfl
    · have ne : i ≠ idx := fun e => h (decide_eq_true e)
      refine ⟨?_, sD⟩
      rw [hD]
      by_cases c : i ≤ idx
      · rw [if_pos c, if_pos (by omega)]
      · rw [if_neg c, if_neg (by omega)]
  rw [if_neg (by omega)] at hD
  refine ⟨_, rfl, D5, _, rfl, .inl (SqL.of hD), rfl, _, rfl, ?_⟩
  refine ⟨_, rfl, V.ty "ValueError", .type "ValueError", _, fs, rfl, fun _ h => h, hv, HS (s04.trans s5), _, rfl, ?_⟩
  refine ⟨_, rfl, D5, _, _, _, rfl, rfl, SqL.of hD, rfl, k H5 (s04.trans s5)⟩
end
end K0
set_option Elab.async false
set_option linter.all false
set_option maxRecDepth 100000
set_option maxHeartbeats 4000000
namespace Sw
open PySem PySem.Spec PyProof.Rows L2 L2H
/-- e.f of the exception that is handled, its class being told by the reading -/
def tXfE (K : PySem.W.Frag) (a : Addr) (cls : Value) (d : Option Addr) (f : Str) (te : TE) : TE := fun σ H Q => te σ H fun x H1 => x = .ref a ∧ ∃ (C dd : Addr) (fs : List (Str × V)) (v : V), cls = .ref C ∧ XfC K C ∧ PySem.W.findIn K (.ref C) f = some none ∧ d = some dd ∧ H1 dd = some (.xd fs) ∧ fs.lookup f = some v ∧ Q v H1
theorem pe_xfE {X : Cx} {a : Addr} {oe : Obj} {cls : Value} {d : Option Addr} {pn : List (Addr × Obj)} {e : Expr} {te : TE} {pos : Pos} {n : Str}
    (hz : Zc cls d oe) (hf : ∃ vs, oe.data = .fields vs) (he : PE (X.suite a ((a, oe) :: pn)) e te) (hb : attributeBase e n X.env (eval e X.env) = eval e X.env := by rfl) :
    PE (X.suite a ((a, oe) :: pn)) (.Attribute e n pos) (tXfE X.K a cls d n te) := by
  refine ⟨fun pins s σ H Q I h => ?_⟩
  refine attr_of hb (thn (he.run pins s σ H _ I h) fun u s1 hh => ?_)
  obtain ⟨x, H1, I1, rx, ex, C, dd, fs, v, ec, T, hno, ed, ea, l, q⟩ := hh
  subst ex
  obtain rfl : u = Value.ref a := rx
  subst ec
  subst ed
  obtain ⟨ha, _⟩ := I1.pin (a, oe) (List.mem_append_left _ List.mem_cons_self)
  obtain ⟨vs, hd⟩ := hf
  have hx : ObjOk X.prog X.w H1 s1.heap dd (.xd fs) := I1.hok dd _ ea
  obtain ⟨mA, hns, hr⟩ := hx
  obtain ⟨od, ho, hl⟩ := lookIn_ns hns
  obtain ⟨u, hu, ru⟩ := RelO.some_of (v := v) (o := mA n) (by rw [← l]; exact hr n)
  have J : PySem.W.InstAt s1.heap a oe C (some od) := ⟨ha, hz.1, by unfold PySem.W.notCls; rw [hd] <;> rfl, by rw [hz.2]; exact ho⟩
  exact HandSPX.exc_get I1.kIn J T.ga T.gg T.exC (PySem.W.findObj_own T.hdC hno rfl (by rw [hl, hu])) (handed_of ru) ⟨v, H1, I1.tok _, ru, q⟩
end Sw
namespace K0
open PySem PySem.Spec PyProof.Rows L2 He Sw L2H
section
variable {P : Program} {w : World} {K : PySem.W.Frag} {mg : Str → Option Value} {base : Heap}
/-! ### _law_tried -/
def gd (b : Bool) (v : V) : Bool := if b = true then goodN v else isNm v
def knd (b : Bool) : Str := if b = true then "number" else "name"
def cln (b : Bool) : Str := if b = true then "Number" else "Name"
def spTried (K : PySem.W.Frag) : Sp := fun vs H Q _ => ∃ (v : V) (n : String) (b : Bool), vs = [v, .bl b] ∧ Th H v n ∧
  (gd b v = true → ∀ H' r a dx t, Same H H' → H' r = some (.tup [.str "made", .ref a, .non]) → H' a = some (.ins (ga K (cln b)) dx (flds (.str (knd b)) (.ref t))) → H' t = some (.tup [v]) → Q (.ref r) H') ∧
  (gd b v = false → ∀ H' r, Same H H' → H' r = some (.tup [.str "refused", .str (knd b), v]) → Q (.ref r) H')
theorem ix_BadNumber : ∀ j : _root_.Fin kinds.length, decide (("BadNumber" : Str) = kinds[j]) = decide (j.val = 2) := by decide +kernel
theorem ix_BadName : ∀ j : _root_.Fin kinds.length, decide (("BadName" : Str) = kinds[j]) = decide (j.val = 0) := by decide +kernel
theorem scTried : FnScope ["_law_thing", "_law_number", "_law_found", "_law_e"] ["_law_thing", "_law_number"] (defScope sTried) := ⟨rfl, rfl, rfl, by decide +kernel, rfl, by decide +kernel, by decide +kernel⟩
theorem ok_tried {fd fdC fdNu fdNa : FuncData} (T : Txt K mg) (F : FnG K "_law_tried" sTried fd) (FC : FnG K "_law_class" sClass fdC)
    (FNu : FnM K "Number" "Number.__init__" sNum [] fdNu) (FNa : FnM K "Name" "Name.__init__" sName [] fdNa)
    (GNu : FnOk P w K mg base (L2N.CX P w) 4 (ma K (ga K "Number") "__init__") fdNu ["self", "n"] (spMk "number" goodN "BadNumber" K))
    (GNa : FnOk P w K mg base (L2N.CX P w) 5 (ma K (ga K "Name") "__init__") fdNa ["self", "name"] (spMk "name" isNm "BadName" K)) :
    FnOk P w K mg base CX0 7 (ga K "_law_tried") fd ["_law_thing", "_law_number"] (spTried K) := by
  have GC : FnE P w K mg base CX0 1 (ga K "_law_class") fdC ["_law_e"] (spClass K) := ok_class T FC
  have bC : Binds K fdC ["_law_e"] [] := FC.bindsN fun _ _ _ _ _ _ us hl => match us, hl with | [_], _ => rfl
  have bNu : Binds K fdNu ["self", "n"] [] := FNu.bindsN fun _ _ _ _ _ _ us hl => match us, hl with | [_, _], _ => rfl
  have bNa : Binds K fdNa ["self", "name"] [] := FNa.bindsN fun _ _ _ _ _ _ us hl => match us, hl with | [_, _], _ => rfl
  have INu := T.ins "Number" (by decide +kernel)
  have INa := T.ins "Name" (by decide +kernel)
  refine F.ok scTried (fun vs H Q E h => ?_) (fun cdv A outer s H vs Q E hr h => ?_)
  · obtain ⟨v, n, b, rfl, _⟩ := h
    rfl
  obtain ⟨v, n, b, rfl, t, k1, k2⟩ := h
  have nd := scTried.nd
  refine ⟨_, pss_cons (ps_set (i := 2) nd rfl (Or.inl rfl) pe_non)
    (pss_cons (L2N.ps_try_as (i := 3) (x := "SameError") (c := .ref (ga K "SameError")) (Wout := fun _ _ _ _ => False) rfl rfl nd rfl rfl ⟨rfl, by decide, .inl (T.g "SameError")⟩ (fun _ _ ⟨_, _, _, _, _, _, _, _, _, _, _, _, _, _, _, _, w⟩ => w.elim)
      (fun W pn xe tkW po => pss_one (ps_if (pt_val (pv 1))
        (pss_one (ps_set (i := 2) nd rfl (Or.inl rfl) (pe_tup (pa_cons pe_str (pa_cons (pe_makeS (E := L2.WE W) INu.mkr GNu (hr.mono (by decide)) rfl (T.g "Number") bNu .nil (fun σ => L2N.passAt tkW σ) (pa_cons (pv 0) pa_nil)) (pa_cons pe_non pa_nil))))))
        (pss_one (ps_set (i := 2) nd rfl (Or.inl rfl) (pe_tup (pa_cons pe_str (pa_cons (pe_makeS (E := L2.WE W) INa.mkr GNa (hr.mono (by decide)) rfl (T.g "Name") bNa .nil (fun σ => L2N.passAt tkW σ) (pa_cons (pv 0) pa_nil)) (pa_cons pe_non pa_nil))))))))
      (fun a oe cls d pn hz hf => pss_one (ps_set (i := 2) nd rfl (Or.inl rfl) (pe_tup (pa_cons pe_str
        (pa_cons (pe_callE (E := fun _ _ _ _ => False) (p := (a, oe)) (Z := fun p => p.1 = a ∧ Zc cls d p.2 ∧ ∃ ws, p.2.data = .fields ws) ⟨rfl, hz.zc, hf⟩ GC (roomH_mark (hr.mono (by decide)) _) ⟨rfl, by obtain ⟨ws, e⟩ := hf; exact ⟨ws, e, hz.2.2 ws e⟩⟩ List.mem_cons_self rfl (T.g "_law_class") FC.kp bC (fun _ _ _ _ _ _ _ h => h.elim) (pa_cons (pv 3) pa_nil))
        (pa_cons (pe_xfE hz.zc hf (pv 3)) pa_nil)))))))
    (pss_one (ps_ret (pv 2)))), ?_⟩
  refine ⟨_, rfl, b, rfl, ?_⟩
  refine ite2 (fun h => ?_) (fun h => ?_)
  · subst h
    have k1 : goodN v = true → ∀ H' r a dx t, Same H H' → H' r = some (.tup [.str "made", .ref a, .non]) → H' a = some (.ins (ga K "Number") dx (flds (.str "number") (.ref t))) → H' t = some (.tup [v]) → Q (.ref r) H' := k1
    have k2 : goodN v = false → ∀ H' r, Same H H' → H' r = some (.tup [.str "refused", .str "number", v]) → Q (.ref r) H' := k2
    refine ⟨_, rfl, fun x dx hx hdx hne => ⟨x, ga K "Number", dx, v, n, rfl, t.same (fun b o e => ?_), upd_same, INu, fun g H' tt sb ht et ea => ⟨rfl, ?_⟩, fun g H' d s' hd ed => ?_⟩⟩
    · rw [upd_ne (ne_of_none e hx), upd_ne (ne_of_none e hdx)]
      exact e
    · refine ⟨by show 3 ≤ sizeLine; rw [sizeLine_eq]; decide, fun r hr => ?_⟩
      have s' : Same H H' := fun b o e => sb b o (ne_of_none e hx) (by rw [upd_ne (ne_of_none e hx), upd_ne (ne_of_none e hdx)]; exact e)
      have up : ∀ {o}, Same H' (upd H' r o) := fun {o} b u e => by rw [upd_ne (ne_of_none e hr)]; exact e
      exact ⟨_, rfl, k1 g _ r x dx tt (s'.trans up) upd_same (up _ _ ea) (up _ _ et)⟩
    · have TB := T.err "BadNumber" (by decide +kernel)
      refine ⟨true, T.exm "BadNumber" (by decide +kernel), fun _ a ha => ?_, fun z => nomatch z⟩
      have s0 : Same H H' := fun b o e => s' b o (by rw [upd_ne (ne_of_none e hx), upd_ne (ne_of_none e hdx)]; exact e)
      refine ⟨_, rfl, fun p ⟨pa, hz, hf⟩ => ⟨ga K "BadNumber", d, [("value", v)], 2, "number", by rw [pa], hz, hf, TB.e, ed, fun j y hj => ?_, T.kve "BadNumber" (by decide +kernel), by decide +kernel, fun H1 s1 => ?_⟩⟩
      · have hy : y ∈ kinds := List.mem_of_getElem? hj
        have hl : j < kinds.length := (List.getElem?_eq_some_iff.mp hj).1
        obtain ⟨_, hyj⟩ := List.getElem?_eq_some_iff.mp hj
        rw [T.kit "BadNumber" (by decide +kernel) y hy, ← hyj]
        exact congrArg some (ix_BadNumber ⟨j, hl⟩)
      · refine ⟨_, rfl, rfl, ga K "BadNumber", d, [("value", v)], v, rfl, TB.xf, TB.nv, rfl, s1 _ _ ed, rfl, ?_⟩
        refine ⟨by show 3 ≤ sizeLine; rw [sizeLine_eq]; decide, fun r hr => ?_⟩
        have up : ∀ {o}, Same H1 (upd H1 r o) := fun {o} b u e => by rw [upd_ne (ne_of_none e hr)]; exact e
        exact ⟨_, rfl, k2 g _ r ((s0.trans s1).trans up) upd_same⟩
  · have eb : b = false := notE h
    subst eb
    have k1 : isNm v = true → ∀ H' r a dx t, Same H H' → H' r = some (.tup [.str "made", .ref a, .non]) → H' a = some (.ins (ga K "Name") dx (flds (.str "name") (.ref t))) → H' t = some (.tup [v]) → Q (.ref r) H' := k1
    have k2 : isNm v = false → ∀ H' r, Same H H' → H' r = some (.tup [.str "refused", .str "name", v]) → Q (.ref r) H' := k2
    refine ⟨_, rfl, fun x dx hx hdx hne => ⟨x, ga K "Name", dx, v, n, rfl, t.same (fun b o e => ?_), upd_same, INa, fun g H' tt sb ht et ea => ⟨rfl, ?_⟩, fun g H' d s' hd ed => ?_⟩⟩
    · rw [upd_ne (ne_of_none e hx), upd_ne (ne_of_none e hdx)]
      exact e
    · refine ⟨by show 3 ≤ sizeLine; rw [sizeLine_eq]; decide, fun r hr => ?_⟩
      have s' : Same H H' := fun b o e => sb b o (ne_of_none e hx) (by rw [upd_ne (ne_of_none e hx), upd_ne (ne_of_none e hdx)]; exact e)
      have up : ∀ {o}, Same H' (upd H' r o) := fun {o} b u e => by rw [upd_ne (ne_of_none e hr)]; exact e
      exact ⟨_, rfl, k1 g _ r x dx tt (s'.trans up) upd_same (up _ _ ea) (up _ _ et)⟩
    · have TB := T.err "BadName" (by decide +kernel)
      refine ⟨true, T.exm "BadName" (by decide +kernel), fun _ a ha => ?_, fun z => nomatch z⟩
      have s0 : Same H H' := fun b o e => s' b o (by rw [upd_ne (ne_of_none e hx), upd_ne (ne_of_none e hdx)]; exact e)
      refine ⟨_, rfl, fun p ⟨pa, hz, hf⟩ => ⟨ga K "BadName", d, [("value", v)], 0, "name", by rw [pa], hz, hf, TB.e, ed, fun j y hj => ?_, T.kve "BadName" (by decide +kernel), by decide +kernel, fun H1 s1 => ?_⟩⟩
      · have hy : y ∈ kinds := List.mem_of_getElem? hj
        have hl : j < kinds.length := (List.getElem?_eq_some_iff.mp hj).1
        obtain ⟨_, hyj⟩ := List.getElem?_eq_some_iff.mp hj
        rw [T.kit "BadName" (by decide +kernel) y hy, ← hyj]
        exact congrArg some (ix_BadName ⟨j, hl⟩)
      · refine ⟨_, rfl, rfl, ga K "BadName", d, [("value", v)], v, rfl, TB.xf, TB.nv, rfl, s1 _ _ ed, rfl, ?_⟩
        refine ⟨by show 3 ≤ sizeLine; rw [sizeLine_eq]; decide, fun r hr => ?_⟩
        have up : ∀ {o}, Same H1 (upd H1 r o) := fun {o} b u e => by rw [upd_ne (ne_of_none e hr)]; exact e
        exact ⟨_, rfl, k2 g _ r ((s0.trans s1).trans up) upd_same⟩
end
end K0
set_option Elab.async false
set_option linter.all false
set_option maxRecDepth 100000
set_option maxHeartbeats 4000000
namespace K0
open PySem PySem.Spec PyProof.Rows L2 He Sw L2H
section
variable {P : Program} {w : World} {K : PySem.W.Frag} {mg : Str → Option Value} {base : Heap}
/-! ### _law_holds -/
def spHolds : Sp := fun vs H Q _ => ∃ (v : V) (n : String) (b : Bool), vs = [v, .bl b] ∧ Th H v n ∧ ∀ H', Same H H' → Q (.bl true) H'
theorem scHolds : FnScope ["_law_thing", "_law_number", "_law_found", "_law_due", "_law_made", "_law_things", "_law_sizes"] ["_law_thing", "_law_number"] (defScope sHolds) := ⟨rfl, rfl, rfl, by decide +kernel, rfl, by decide +kernel, by decide +kernel⟩
theorem ok_holds {fd fdT fdG fdE fdI : FuncData} (T : Txt K mg) (F : FnG K "_law_holds" sHolds fd) (FT : FnG K "_law_tried" sTried fdT) (FG : FnG K "_law_good" sGood fdG) (FE : FnG K "_law_equal" sEqual fdE) (FI : FnG K "_law_is_integer" sLInt fdI)
    (GT : FnOk P w K mg base CX0 7 (ga K "_law_tried") fdT ["_law_thing", "_law_number"] (spTried K)) :
    FnOk P w K mg base CX0 8 (ga K "_law_holds") fd ["_law_thing", "_law_number"] spHolds := by
  have GG : FnOk P w K mg base CX0 2 (ga K "_law_good") fdG ["_law_thing", "_law_number"] spGood := ok_good T FG FI
  have GE : FnOk P w K mg base CX0 1 (ga K "_law_equal") fdE ["_law_one", "_law_other"] spEqual := ok_equal T FE
  have GI : FnOk P w K mg base CX0 1 (ga K "_law_is_integer") fdI ["_law_thing"] spIsInt := ok_lInt T FI
  have bT : Binds K fdT ["_law_thing", "_law_number"] [] := FT.bindsN fun _ _ _ _ _ _ us hl => match us, hl with | [_, _], _ => rfl
  have bG : Binds K fdG ["_law_thing", "_law_number"] [] := FG.bindsN fun _ _ _ _ _ _ us hl => match us, hl with | [_, _], _ => rfl
  have bE : Binds K fdE ["_law_one", "_law_other"] [] := FE.bindsN fun _ _ _ _ _ _ us hl => match us, hl with | [_, _], _ => rfl
  have bI : Binds K fdI ["_law_thing"] [] := FI.bindsN fun _ _ _ _ _ _ us hl => match us, hl with | [_], _ => rfl
  refine F.ok scHolds (fun vs H Q E h => ?_) (fun cdv A outer s H vs Q E hr h => ?_)
  · obtain ⟨v, n, b, rfl, _⟩ := h
    rfl
  obtain ⟨v, n, b, rfl, t, k⟩ := h
  have nd := scHolds.nd
  have hr1 : Room 1 _ := hr.mono (by decide)
  have hr2 : Room 2 _ := hr.mono (by decide)
  refine ⟨_, PSs.nox (pss_cons (ps_set (i := 2) nd rfl (Or.inl rfl) (pe_call GT hr rfl (T.g "_law_tried") FT.kp bT .nil pass0 (pa_cons (pv 0) (pa_cons (pv 1) pa_nil))))
    (pss_cons (ps_if (pt_not (pt_val (pe_call GG hr2 rfl (T.g "_law_good") FG.kp bG .nil pass0 (pa_cons (pv 0) (pa_cons (pv 1) pa_nil)))))
      (pss_cons (ps_set (i := 3) nd rfl (Or.inl rfl) (pe_ix ix_list (pe_lst (pa_cons pe_str (pa_cons pe_str pa_nil))) (pe_callTy call_int1 rfl (T.f "int") (by decide +kernel) (pa_cons (pv 1) pa_nil)) (fun _ _ => rfl)))
      (pss_one (ps_ret (pe_and (pe_cmpR op_eq (pe_ix ix_tup (pv 2) pe_int (fun _ _ => rfl)) pe_str (nomark _))
        (pe_and (pe_cmpR op_eq (pe_ix ix_tup (pv 2) pe_int (fun _ _ => rfl)) (pv 3) (nomark _))
          (pe_one (pe_call GE hr1 rfl (T.g "_law_equal") FE.kp bE .nil pass0 (pa_cons (pe_ix ix_tup (pv 2) pe_int (fun _ _ => rfl)) (pa_cons (pv 0) pa_nil))))))))) pss_nil)
    (pss_cons (ps_if (pt_cmpR op_ne (pe_ix ix_tup (pv 2) pe_int (fun _ _ => rfl)) pe_str (nomark _)) (pss_one (ps_ret pe_bl)) pss_nil)
    (pss_cons (ps_set (i := 4) nd rfl (Or.inl rfl) (pe_ix ix_tup (pv 2) pe_int (fun _ _ => rfl)))
    (pss_cons (ps_if (PW.pt (pw_or (pt_not (pt_val (pe_callB call_isi rfl (T.f "isinstance") (by decide +kernel) (pa_cons (pv 4) (pa_cons (pe_glob (v := .ref (ga K "Formula")) rfl (T.g "Formula") rfl) pa_nil)))))
      (pw_or (pt_cmpR op_ne (pe_callB call_isi rfl (T.f "isinstance") (by decide +kernel) (pa_cons (pv 4) (pa_cons (pe_glob (v := .ref (ga K "Number")) rfl (T.g "Number") rfl) pa_nil))) (pv 1) (nomark _))
        (pw_or1 (pt_cmpR op_eq (pe_callB call_isi rfl (T.f "isinstance") (by decide +kernel) (pa_cons (pv 4) (pa_cons (pe_glob (v := .ref (ga K "Name")) rfl (T.g "Name") rfl) pa_nil))) (pv 1) (nomark _))))))
      (pss_one (ps_ret pe_bl)) pss_nil)
    (pss_cons (ps_set (i := 5) nd rfl (Or.inl rfl) (pe_fld (pv 4) rfl))
    (pss_cons (ps_if (PW.pt (pw_or (pt_cmpR op_ne (pe_fld (pv 4) rfl) (pe_ix ix_list (pe_lst (pa_cons pe_str (pa_cons pe_str pa_nil))) (pe_callTy call_int1 rfl (T.f "int") (by decide +kernel) (pa_cons (pv 1) pa_nil)) (fun _ _ => rfl)) (nomark _))
      (pw_or (pt_not (pt_val (pe_callB call_isi rfl (T.f "isinstance") (by decide +kernel) (pa_cons (pv 5) (pa_cons (pe_bltn (v := .ty "tuple") rfl (T.f "tuple") (by decide +kernel) rfl) pa_nil)))))
        (pw_or1 (pt_cmpR op_ne (pe_callB call_len_seq rfl (T.f "len") (by decide +kernel) (pa_cons (pv 5) pa_nil)) pe_int (nomark _))))))
      (pss_one (ps_ret pe_bl)) pss_nil)
    (pss_cons (ps_if (pt_not (pt_val (pe_call GE hr1 rfl (T.g "_law_equal") FE.kp bE .nil pass0 (pa_cons (pe_ix ix_tup (pv 5) pe_int (fun _ _ => rfl)) (pa_cons (pv 0) pa_nil))))) (pss_one (ps_ret pe_bl)) pss_nil)
    (pss_cons (ps_set (i := 6) nd rfl (Or.inl rfl) (pe_lst (pa_cons (pe_fld (pv 4) rfl) (pa_cons (pe_fld (pv 4) rfl) pa_nil))))
    (pss_one (ps_ret (pe_and (pe_cmpR (op_eqV hr.units) (pv 6) (pe_lst (pa_cons pe_int (pa_cons pe_int pa_nil))) (nomark _))
      (pe_and (pe_call GI hr1 rfl (T.g "_law_is_integer") FI.kp bI .nil pass0 (pa_cons (pe_ix ix_list (pv 6) pe_int (fun _ _ => rfl)) pa_nil))
        (pe_one (pe_call GI hr1 rfl (T.g "_law_is_integer") FI.kp bI .nil pass0 (pa_cons (pe_ix ix_list (pv 6) pe_int (fun _ _ => rfl)) pa_nil)))))))))))))))), ?_⟩
  refine ⟨_, rfl, _, rfl, v, n, b, rfl, t, fun g H1 r a dx tt s1 er ea et => ?_, fun g H1 r s1 er => ?_⟩
  · -- it is made
    have hF : PySem.W.kitOne K (.ref (ga K (cln b))) (.ref (ga K "Formula")) = some true := by
      cases b
      · exact T.kF "Name" (by decide +kernel)
      · exact T.kF "Number" (by decide +kernel)
    have hNu : PySem.W.kitOne K (.ref (ga K (cln b))) (.ref (ga K "Number")) = some b := by
      cases b
      · exact T.kNu "Name" (by decide +kernel)
      · exact T.kNu "Number" (by decide +kernel)
    have hNa : PySem.W.kitOne K (.ref (ga K (cln b))) (.ref (ga K "Name")) = some (!b) := by
      cases b
      · exact T.kNa "Name" (by decide +kernel)
      · exact T.kNa "Number" (by decide +kernel)
    have I : InsT K (ga K (cln b)) := by
      cases b
      · exact T.ins "Name" (by decide +kernel)
      · exact T.ins "Number" (by decide +kernel)
    refine ⟨_, rfl, _, rfl, v, n, b, rfl, t.same s1, fun H2 s2 => ?_⟩
    have ea2 := s2 _ _ ea
    have er2 := s2 _ _ er
    have et2 := s2 _ _ et
    have s02 := s1.trans s2
    have ty : TyX K H2 (.ref a) (.ref (ga K (cln b))) := .base (.ins ea2 I.cl I.ha I.hn I.ht I.hm)
    refine ⟨_, rfl, ?_⟩
    refine ite2 (fun h => ?_) (fun _ => ?_)
    · have h : (!(gd b v)) = true := h
      rw [g] at h
      cases h
    refine ⟨_, rfl, r, _, _, _, rfl, rfl, SqT.of er2, rfl, rfl, _, rfl, ?_⟩
    refine ite2 (fun h => ?_) (fun _ => ?_)
    · exact absurd h (by decide +kernel)
    refine ⟨_, rfl, r, _, _, _, rfl, rfl, SqT.of er2, rfl, ?_⟩
    refine ⟨_, rfl, .ref a, _, _, _, _, rfl, .own _, ty, hF, _, rfl, ?_⟩
    refine ite2 (fun h => absurd h (by decide)) (fun _ => ?_)
    refine ⟨_, rfl, .ref a, _, _, _, _, rfl, .own _, ty, hNu, _, rfl, rfl, _, rfl, ?_⟩
    refine ite2 (fun h => ?_) (fun _ => ?_)
    · have h : (!decide (V.bl b = V.bl b)) = true := h
      rw [decide_eq_true rfl] at h
      cases h
    refine ⟨_, rfl, .ref a, _, _, _, _, rfl, .own _, ty, hNa, _, rfl, rfl, _, rfl, ?_⟩
    refine ite2 (fun h => ?_) (fun _ => ?_)
    · have h : V.bl (!b) = V.bl b := of_decide_eq_true h
      cases b <;> cases h
    refine ⟨_, rfl, a, _, dx, _, .ref tt, rfl, ea2, I.cl, I.no "things" (by decide +kernel), rfl, ?_⟩
    refine ⟨_, rfl, a, _, dx, _, .str (knd b), rfl, ea2, I.cl, I.no "kind" (by decide +kernel), rfl, ?_⟩
    refine ⟨by show 2 ≤ sizeLine; rw [sizeLine_eq]; decide, fun L hL => ?_⟩
    generalize hX : upd H2 L _ = H3
    have s3 : Same H2 H3 := fun b o e => by rw [← hX, upd_ne (ne_of_none e hL)]; exact e
    have eL : H3 L = some (.lst [.str "name", .str "number"]) := by rw [← hX, upd_same]
    clear hX
    refine ⟨_, rfl, .inr ⟨b, rfl, L, _, _, .str (knd b), rfl, rfl, SqL.of eL, by cases b <;> rfl, rfl, _, rfl, ?_⟩⟩
    refine ite2 (fun h => ?_) (fun _ => ?_)
    · have h : (!decide (V.str (knd b) = V.str (knd b))) = true := h
      rw [decide_eq_true rfl] at h
      cases h
    refine ⟨_, rfl, .ref tt, .ty "tuple", .type "tuple", .type "tuple", true, rfl, .ty _, .base (.tup (s3 _ _ et2)), kit_ty (show kitB _ _ = some true by decide +kernel), _, rfl, ?_⟩
    refine ite2 (fun h => absurd h (by decide)) (fun _ => ?_)
    refine ⟨_, rfl, tt, _, rfl, .inr (SqT.of (s3 _ _ et2)), rfl, _, rfl, ?_⟩
    refine ite2 (fun h => ?_) (fun _ => ?_)
    · have h : (!decide (V.int 1 = V.int 1)) = true := h
      rw [decide_eq_true rfl] at h
      cases h
    refine ⟨_, rfl, tt, _, _, _, rfl, rfl, SqT.of (s3 _ _ et2), rfl, _, rfl, v, n, rfl, t.same (s02.trans s3), _, rfl, ?_⟩
    refine ite2 (fun h => absurd h (by decide)) (fun _ => ?_)
    refine ⟨_, rfl, a, _, dx, _, .int 1, rfl, s3 _ _ ea2, I.cl, I.no "parts" (by decide +kernel), rfl, ?_⟩
    refine ⟨_, rfl, a, _, dx, _, .int 1, rfl, s3 _ _ ea2, I.cl, I.no "depth" (by decide +kernel), rfl, ?_⟩
    refine ⟨by show 2 ≤ sizeLine; rw [sizeLine_eq]; decide, fun Z hZ => ?_⟩
    generalize hX : upd H3 Z _ = H4
    have s4 : Same H3 H4 := fun b o e => by rw [← hX, upd_ne (ne_of_none e hZ)]; exact e
    have eZ : H4 Z = some (.lst [.int 1, .int 1]) := by rw [← hX, upd_same]
    clear hX
    refine ⟨_, rfl, ?_⟩
    refine ⟨by show 2 ≤ sizeLine; rw [sizeLine_eq]; decide, fun Y hY => ?_⟩
    generalize hX : upd H4 Y _ = H5
    have s5 : Same H4 H5 := fun b o e => by rw [← hX, upd_ne (ne_of_none e hY)]; exact e
    have eY : H5 Y = some (.lst [.int 1, .int 1]) := by rw [← hX, upd_same]
    clear hX
    refine ⟨1, by decide, .inl ⟨Z, Y, _, _, rfl, rfl, SqL.of (s5 _ _ eZ), SqL.of eY, .cons (.inl ⟨rfl, rfl⟩) (.cons (.inl ⟨rfl, rfl⟩) .nil)⟩, _, rfl, ?_⟩
    refine ite2 (fun _ => ?_) (fun h => absurd rfl h)
    refine ⟨_, rfl, Z, _, _, _, rfl, rfl, SqL.of (s5 _ _ eZ), rfl, _, _, rfl, .int 1, _, rfl, ?_⟩
    refine ite2 (fun _ => ?_) (fun h => absurd rfl h)
    refine ⟨_, rfl, Z, _, _, _, rfl, rfl, SqL.of (s5 _ _ eZ), rfl, _, _, rfl, .int 1, k H5 (((s02.trans s3).trans s4).trans s5)⟩
  · -- it is refused
    refine ⟨_, rfl, _, rfl, v, n, b, rfl, t.same s1, fun H2 s2 => ?_⟩
    have er2 := s2 _ _ er
    refine ⟨_, rfl, ?_⟩
    refine ite2 (fun _ => ?_) (fun h => ?_)
    · refine ⟨by show 2 ≤ sizeLine; rw [sizeLine_eq]; decide, fun L hL => ?_⟩
      generalize hX : upd H2 L _ = H3
      have s3 : Same H2 H3 := fun b o e => by rw [← hX, upd_ne (ne_of_none e hL)]; exact e
      have eL : H3 L = some (.lst [.str "name", .str "number"]) := by rw [← hX, upd_same]
      clear hX
      have er3 := s3 _ _ er2
      refine ⟨_, rfl, .inr ⟨b, rfl, L, _, _, .str (knd b), rfl, rfl, SqL.of eL, by cases b <;> rfl, ?_⟩⟩
      refine ⟨_, rfl, r, _, _, _, rfl, rfl, SqT.of er3, rfl, rfl, _, rfl, ?_⟩
      refine ite2 (fun _ => ?_) (fun h => absurd (by decide +kernel) h)
      refine ⟨_, rfl, r, _, _, .str (knd b), rfl, rfl, SqT.of er3, rfl, _, rfl, rfl, _, rfl, ?_⟩
      refine ite2 (fun _ => ?_) (fun h => absurd (decide_eq_true rfl) h)
      exact ⟨_, rfl, r, _, _, v, rfl, rfl, SqT.of er3, rfl, _, rfl, v, n, rfl, t.same ((s1.trans s2).trans s3), k H3 ((s1.trans s2).trans s3)⟩
    · have h : ¬ ((!(gd b v)) = true) := h
      rw [g] at h
      exact absurd rfl h
end
end K0
set_option Elab.async false
set_option linter.all false
set_option maxRecDepth 100000
set_option maxHeartbeats 4000000
namespace K0
open PySem PySem.Spec PyProof.Rows L2 He Sw L2H
section
variable {P : Program} {w : World} {K : PySem.W.Frag} {mg : Str → Option Value} {base : Heap}
/-! ### the law -/
def spLaw (K : PySem.W.Frag) : Sp := fun vs H Q _ => ∃ (a : Addr) (ns : List Int), vs = [.ref a] ∧ SqL K H a (ns.map V.int) ∧ ∀ H', Q (.bl true) H'
theorem scLaw : FnScope ["_law_script", "_law_state", "_law_k", "_law_choice", "_law_thing"] ["_law_script"] (defScope sLaw) := ⟨rfl, rfl, rfl, by decide +kernel, rfl, by decide +kernel, by decide +kernel⟩
abbrev lg (a st : Addr) (kv ch th : Option V) : L2.St := [some (.ref a), some (.ref st), kv, ch, th]
theorem ok_law {fd fdD fdX fdI fdL fdB fdH : FuncData} (T : Txt K mg) (F : FnG K "law" sLaw fd) (FD : FnG K "_law_draw" sDraw fdD) (FX : FnG K "_law_text" sText fdX) (FI : FnG K "_law_integer" sInteger fdI) (FL : FnG K "_law_large" sLarge fdL)
    (FB : FnG K "_law_bad" sBad fdB) (FH : FnG K "_law_holds" sHolds fdH) (GH : FnOk P w K mg base CX0 8 (ga K "_law_holds") fdH ["_law_thing", "_law_number"] spHolds) :
    FnOk P w K mg base CX0 9 (ga K "law") fd ["_law_script"] (spLaw K) := by
  have GD : DrawOk P w K mg base fdD := ok_draw T FD
  have GX : FnOk P w K mg base CX0 2 (ga K "_law_text") fdX ["_law_state"] spText := ok_text T FX FD
  have GI : FnOk P w K mg base CX0 3 (ga K "_law_integer") fdI ["_law_state"] spInteger := ok_integer T FI FD FL
  have GB : FnOk P w K mg base CX0 2 (ga K "_law_bad") fdB ["_law_state"] spBad := ok_bad T FB FD
  have bD : Binds K fdD ["_law_state", "_law_many"] [] := FD.bindsN fun _ _ _ _ _ _ us hl => match us, hl with | [_, _], _ => rfl
  have bX : Binds K fdX ["_law_state"] [] := FX.bindsN fun _ _ _ _ _ _ us hl => match us, hl with | [_], _ => rfl
  have bI : Binds K fdI ["_law_state"] [] := FI.bindsN fun _ _ _ _ _ _ us hl => match us, hl with | [_], _ => rfl
  have bB : Binds K fdB ["_law_state"] [] := FB.bindsN fun _ _ _ _ _ _ us hl => match us, hl with | [_], _ => rfl
  have bH : Binds K fdH ["_law_thing", "_law_number"] [] := FH.bindsN fun _ _ _ _ _ _ us hl => match us, hl with | [_, _], _ => rfl
  refine F.ok scLaw (fun vs H Q E h => ?_) (fun cdv A outer s H vs Q E hr h => ?_)
  · obtain ⟨a, ns, rfl, _⟩ := h
    rfl
  obtain ⟨a, ns, rfl, hS, k⟩ := h
  have nd := scLaw.nd
  have hr1 : Room 1 _ := hr.mono (by decide)
  have hr2 : Room 2 _ := hr.mono (by decide)
  have hr3 : Room 3 _ := hr.mono (by decide)
  refine ⟨_, PSs.nox (pss_cons (ps_set (i := 1) nd rfl (Or.inl rfl) (pe_lst (pa_cons (pe_callTy call_list_of rfl (T.f "list") (by decide +kernel) (pa_cons (pv 0) pa_nil)) (pa_cons pe_int (pa_cons pe_int (pa_cons pe_int pa_nil))))))
    (pss_cons (ps_for PassesOwn.never rfl (pi_range1 rfl (T.f "range") (pa_cons pe_int pa_nil)) (pg_name (i := 2) nd rfl (Or.inl rfl))
      (pss_cons (ps_set (i := 3) nd rfl (Or.inl rfl) (pe_call GD hr1 rfl (T.g "_law_draw") FD.kp bD .nil pass0 (pa_cons (pv 1) (pa_cons pe_int pa_nil))))
      (pss_cons (ps_set (i := 4) nd rfl (Or.inl rfl) (pe_call GX hr2 rfl (T.g "_law_text") FX.kp bX .nil pass0 (pa_cons (pv 1) pa_nil)))
      (C8.pss_cut (ps_if (pt_cmpR op_gt (pv 3) pe_int (nomark _)) (pss_one (ps_set (i := 4) nd rfl (Or.inl rfl) (pe_call GI hr3 rfl (T.g "_law_integer") FI.kp bI .nil pass0 (pa_cons (pv 1) pa_nil)))) pss_nil)
      (C8.pss_cut (ps_if (pt_cmpR op_eq (pv 3) pe_int (nomark _)) (pss_one (ps_set (i := 4) nd rfl (Or.inl rfl) (pe_call GB hr2 rfl (T.g "_law_bad") FB.kp bB .nil pass0 (pa_cons (pv 1) pa_nil)))) pss_nil)
      (pss_one (ps_if (PW.pt (pw_or (pt_not (pt_val (pe_call GH hr rfl (T.g "_law_holds") FH.kp bH .nil pass0 (pa_cons (pv 4) (pa_cons pe_bl pa_nil)))))
        (pw_or1 (pt_not (pt_val (pe_call GH hr rfl (T.g "_law_holds") FH.kp bH .nil pass0 (pa_cons (pv 4) (pa_cons pe_bl pa_nil))))))))
        (pss_one (ps_ret pe_bl)) pss_nil)))))))
    (pss_one (ps_ret pe_bl)))), ?_⟩
  refine ⟨_, rfl, a, _, rfl, .inl hS, fun l hl => ⟨by show 4 ≤ sizeLine; rw [sizeLine_eq]; decide, fun st hst => ?_⟩⟩
  have nls : l ≠ st := fun e => by
    rw [← e, upd_same] at hst
    cases hst
  generalize hX : upd (upd H l _) st _ = H1
  have S1 : StAt H1 st ns := ⟨l, 0, 0, 0, by rw [← hX, upd_same], by rw [← hX, upd_ne nls, upd_same], by decide, by decide, by decide, by decide⟩
  clear hX hst
  refine ⟨_, rfl, by decide, by decide, for_range (lo := 0) (n := 6) (fun _ σ H' => ∃ kv ch th, σ = lg a st kv ch th ∧ StAt H' st ns) ⟨none, none, none, rfl, S1⟩ ?_ (fun _ _ _ => k _)⟩
  rintro i σ H2 hi ⟨kv, ch, th, rfl, S2⟩
  refine ⟨_, rfl, st, 7, ns, rfl, by decide, by decide, S2, fun c H3 _ _ S3 _ => ?_⟩
  refine ⟨_, rfl, st, ns, rfl, S3, fun z H4 hz S4 _ => ?_⟩
  refine ⟨fun σ H' => ∃ kv v n, σ = lg a st kv (some (.int c)) (some v) ∧ Th H' v n ∧ StAt H' st ns, ?_, ?_⟩
  · refine ⟨_, rfl, _, _, rfl, rfl, _, rfl, ?_⟩
    refine ite2 (fun _ => ?_) (fun _ => ?_)
    · exact ⟨_, rfl, st, ns, rfl, S4, fun i H5 S5 _ => ⟨_, _, _, rfl, .int i, S5⟩⟩
    · exact ⟨_, _, _, rfl, .str z hz, S4⟩
  rintro σ H5 ⟨kv5, v5, n5, rfl, t5, S5⟩
  refine ⟨fun σ H' => ∃ kv v n, σ = lg a st kv (some (.int c)) (some v) ∧ Th H' v n ∧ StAt H' st ns, ?_, ?_⟩
  · refine ⟨_, rfl, rfl, _, rfl, ?_⟩
    refine ite2 (fun _ => ?_) (fun _ => ?_)
    · exact ⟨_, rfl, st, ns, rfl, S5, fun v n H6 t6 S6 _ => ⟨_, _, _, rfl, t6, S6⟩⟩
    · exact ⟨_, _, _, rfl, t5, S5⟩
  rintro σ H6 ⟨kv6, v, n, rfl, t6, S6⟩
  refine ⟨_, rfl, v, n, false, rfl, t6, fun H7 s7 => ⟨_, rfl, ?_⟩⟩
  refine ite2 (fun h => absurd h (by decide)) (fun _ => ?_)
  refine ⟨_, rfl, v, n, true, rfl, t6.same s7, fun H8 s8 => ⟨_, rfl, ?_⟩⟩
  refine ite2 (fun h => absurd h (by decide)) (fun _ => ?_)
  exact ⟨_, _, _, rfl, S6.same (s7.trans s8)⟩
end
end K0
set_option Elab.async false
set_option linter.all false
set_option maxRecDepth 100000
set_option maxHeartbeats 4000000
namespace K0
open PySem PySem.Spec PyProof.Rows L2 He Sw L2H
theorem allOf {α : Type} {l : List α} {p : α → Bool} (h : l.all p = true) : ∀ x ∈ l, p x = true := List.all_eq_true.mp h
theorem two {p : String → Bool} (h : ["Number", "Name"].all p = true) : p "Number" = true ∧ p "Name" = true := ⟨List.all_eq_true.mp h _ (by simp), List.all_eq_true.mp h _ (by simp)⟩
theorem strMem {l : List String} {p : Str → Bool} (h : (l.all fun x => p (Str.ofString x)) = true) : ∀ x ∈ l.map Str.ofString, p x = true := fun x hx => by
  obtain ⟨y, hy, rfl⟩ := List.mem_map.mp hx
  exact List.all_eq_true.mp h y hy
theorem twoStr {x : Str} (hx : x ∈ (["Number", "Name"] : List Str)) : x = "Number" ∨ x = "Name" := by simpa using hx
theorem noAll {K : PySem.W.Frag} (c : SaysF fa fn K) (x : Str) (hx : x ∈ (["Number", "Name"] : List Str)) (f : Str) (hf : f ∈ (["kind", "things", "parts", "depth"] : List Str)) : (Fa.noat x f).ok K = true := by
  have h := strMem (l := ["Number", "Name"]) (p := fun x => (["kind", "things", "parts", "depth"] : List String).all fun f => (Fa.noat x f).ok K) (c.fact 16) x hx
  exact strMem (l := ["kind", "things", "parts", "depth"]) (p := fun f => (Fa.noat x f).ok K) h f hf
theorem clsAll {K : PySem.W.Frag} (c : SaysF fa fn K) (x : Str) (hx : x ∈ (["Number", "Name"] : List Str)) : ((Fa.cls x).ok K && ((Fa.mkr x).ok K && insB K (ga K x))) = true :=
  strMem (l := ["Number", "Name"]) (p := fun x => (Fa.cls x).ok K && ((Fa.mkr x).ok K && insB K (ga K x))) (c.fact 15) x hx
theorem kAll {K : PySem.W.Frag} (c : SaysF fa fn K) (x : Str) (hx : x ∈ (["Number", "Name"] : List Str)) : (kitB2 K x "Formula" true && (kitB2 K x "Number" (decide (x = "Number")) && kitB2 K x "Name" (decide (x = "Name")))) = true := by
  obtain ⟨h1, h2⟩ := two (p := fun x => kitB2 K x "Formula" true && (kitB2 K x "Number" (decide (x = "Number")) && kitB2 K x "Name" (decide (x = "Name")))) (c.fact 17)
  rcases twoStr hx with rfl | rfl
  · exact h1
  · exact h2
theorem txt {K : PySem.W.Frag} {h : Heap} {mg : Str → Option Value} (X : K.In h) (G : h.Ns mainGlobals mg) (c : SaysF fa fn K) : Txt K mg where
  glo := fun x hx => glo_ok X G (allOf (c.fact 0) x hx)
  fre := fun x hx => free_ok X G (allOf (c.fact 1) x hx)
  err := fun x hx => errB_ok (allOf (c.fact 2) x hx)
  kit := fun x hx y hy => of_decide_eq_true (allOf (allOf (c.fact 3) x hx) y hy)
  exm := fun x hx => exm_ok (allOf (c.fact 4) x hx)
  kve := fun x hx => of_decide_eq_true (allOf (c.fact 5) x hx)
  seI := clfnB_ok (c.fact 6)
  foI := clfnB_ok (c.fact 7)
  ve := veinB_ok (c.fact 8)
  let_ := str_ok X G (c.fact 9)
  mLet := int_ok X G (c.fact 10)
  mPar := int_ok X G (c.fact 11)
  mDep := int_ok X G (c.fact 12)
  nEnd := int_ok X G (c.fact 13)
  noN := fun H => tupB_ok (c.fact 14) H
  ins := fun x hx => by
    have q := clsAll c x hx
    obtain ⟨h1, h⟩ := ba q
    obtain ⟨h2, h⟩ := ba h
    obtain ⟨h3, h⟩ := ba h
    obtain ⟨h4, h⟩ := ba h
    obtain ⟨h5, h6⟩ := ba h
    exact ⟨cls_ok h1, mkr_ok h2, eqO_ok h3, eqO_ok h4, of_decide_eq_true h5, of_decide_eq_true h6, fun f hf => noat_ok (noAll c x hx f hf)⟩
  kF := fun x hx => of_decide_eq_true (ba (kAll c x hx)).1
  kNu := fun x hx => of_decide_eq_true (ba (ba (kAll c x hx)).2).1
  kNa := fun x hx => of_decide_eq_true (ba (ba (kAll c x hx)).2).2
theorem facts {P : Program} {w : World} {K : PySem.W.Frag} {h : Heap} {mg : Str → Option Value} {f : Addr} (X : K.In h) (G : h.Ns mainGlobals mg) (hfa : mg ("law" : Str) = some (.ref f)) (c : SaysF fa fn K) :
    ∃ fd : FuncData, (∀ (s : Shared) (v : Value), BindsTo s fd ⟨[v], []⟩ [("_law_script", v)]) ∧ ∀ base : Heap, FnOk P w K mg base CX0 9 f fd ["_law_script"] (spLaw K) := by
  have T := txt X G c
  obtain ⟨fdSE, FSE⟩ := c.def_ 0 (d := dM "SameError" "SameError.__init__" sSE [.non]) rfl
  obtain ⟨fdBN, FBN⟩ := c.def_ 1 (d := dM "BadName" "BadName.__init__" sBName []) rfl
  obtain ⟨fdBU, FBU⟩ := c.def_ 2 (d := dM "BadNumber" "BadNumber.__init__" sBNum []) rfl
  obtain ⟨fdII, FII⟩ := c.def_ 3 (d := dF "is_integer" sIsInt) rfl
  obtain ⟨fdIN, FIN⟩ := c.def_ 4 (d := dF "is_name" sIsName) rfl
  obtain ⟨fdCN, FCN⟩ := c.def_ 5 (d := dF "check_name" sCkName) rfl
  obtain ⟨fdFo, FFo⟩ := c.def_ 6 (d := dM "Formula" "Formula.__init__" sForm []) rfl
  obtain ⟨fdNu, FNu⟩ := c.def_ 7 (d := dM "Number" "Number.__init__" sNum []) rfl
  obtain ⟨fdNa, FNa⟩ := c.def_ 8 (d := dM "Name" "Name.__init__" sName []) rfl
  obtain ⟨fdLI, FLI⟩ := c.def_ 9 (d := dF "_law_is_integer" sLInt) rfl
  obtain ⟨fdD, FD⟩ := c.def_ 10 (d := dF "_law_draw" sDraw) rfl
  obtain ⟨fdL, FL⟩ := c.def_ 11 (d := dF "_law_large" sLarge) rfl
  obtain ⟨fdB, FB⟩ := c.def_ 12 (d := dF "_law_bad" sBad) rfl
  obtain ⟨fdE, FE⟩ := c.def_ 13 (d := dF "_law_equal" sEqual) rfl
  obtain ⟨fdC, FC⟩ := c.def_ 14 (d := dF "_law_class" sClass) rfl
  obtain ⟨fdX, FX⟩ := c.def_ 15 (d := dF "_law_text" sText) rfl
  obtain ⟨fdI, FI⟩ := c.def_ 16 (d := dF "_law_integer" sInteger) rfl
  obtain ⟨fdG, FG⟩ := c.def_ 17 (d := dF "_law_good" sGood) rfl
  obtain ⟨fdT, FT⟩ := c.def_ 18 (d := dF "_law_tried" sTried) rfl
  obtain ⟨fdH, FH⟩ := c.def_ 19 (d := dF "_law_holds" sHolds) rfl
  obtain ⟨fd, F⟩ := c.def_ 20 (d := dF "law" sLaw) rfl
  have e := hfa.symm.trans (T.g "law")
  cases e
  have b := FunD.bindsA (ps := ["_law_script"]) F fun _ _ _ _ _ _ us hl => match us, hl with | [_], _ => rfl
  refine ⟨fd, fun s v => b s [v] rfl, fun base => ?_⟩
  have GNu := ok_num (P := P) (w := w) (base := base) T FNu FII FBU FSE FFo
  have GNa := ok_name (P := P) (w := w) (base := base) T FNa FCN FIN FBN FSE FFo
  have GT := ok_tried T FT FC FNu FNa GNu GNa
  have GH := ok_holds T FH FT FG FE FLI GT
  exact ok_law T F FD FX FI FL FB FH GH
end K0
set_option Elab.async false
set_option linter.all false
set_option maxRecDepth 100000
set_option maxHeartbeats 0
open PySem PySem.W PySem.Calls PyProof.Rows
theorem PySem.Challenge.cw_samewords_k00_names_and_numbers_holds : PySem.Challenge.rw_samewords_k00_names_and_numbers.Holds := by
  w_on; o_law
  refine HandSHeadRun.head_any (r := OpenLaw.row PySem.Challenge.rw_samewords_k00_names_and_numbers) (q := view (OpenLaw.row PySem.Challenge.rw_samewords_k00_names_and_numbers).prog [41]) (H := K0.hk) (ob := K0.ob) (M := 4000) (loose := K0.loose1 ++ K0.loose2) (d := HandSHeadRun.topDef (OpenLaw.row PySem.Challenge.rw_samewords_k00_names_and_numbers).prog 41) (kwd := []) K0.ob_eq
    (by kernel_rfl) (fun s => by kernel_rfl) K0.run (by kernel_rfl) (by kernel_rfl) (by kernel_rfl) (by rfl) (by first | assumption | decide +kernel) (by decide +kernel) ⟨rfl, rfl, rfl, rfl, rfl, by decide +kernel⟩ ?hw ?hc
  case hw => w_witness2
  case hc =>
    refine L2.walk_ofE (l := PySem.Challenge.rw_samewords_k00_names_and_numbers) (n := 63) (k := 9) (x := "_law_script") (CX := L2.CX0) rfl (by decide) (by kernel_rfl) ⟨rfl, by decide, by decide⟩ ?F (fun _ _ _ _ z => z)
    intro w mg fa h Y G hmg0
    obtain ⟨K, KX, c⟩ := Y
    have hmg : mg ("law" : PySem.Str) = some (.ref fa) := by
      have e : (HandSHeadRun.topDef (OpenLaw.row PySem.Challenge.rw_samewords_k00_names_and_numbers).prog 41).name = ("law" : PySem.Str) := by kernel_rfl
      rw [← e]
      exact hmg0
    obtain ⟨fd, hb, hF⟩ := K0.facts (P := (PySem.Challenge.rw_samewords_k00_names_and_numbers).prog) (w := w) KX G hmg c
    exact ⟨K, fd, K0.spLaw K, KX, hb, fun H a ns hl _ hS => ⟨a, ns, rfl, hS, fun _ => rfl⟩, fun base _ _ => hF base⟩
