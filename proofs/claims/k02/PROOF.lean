import PyProof.Rows.All
import Wide.All
import OpenK.AllK
import Wide.FinOn
import KE.KTypeName
import HandS.Base
import HandS.Call
import HandS.List
import HandS.Ends
import HandS.Exc
import HandS.ExcOwn
import HandS.ExcCtx
import HandS.Hot
import HandS.HotCalls
import HandS.ExcInit
import HandS.ExcInitHot
import HandS.ExcIs
import HandS.ClsMeth
import HandS.Comp
import KE.KExcIs
import HandS.ExcField
import HandS.SortKw
import KE.KMinKey
import KE.KStateDown
import Lean
import HandS.More
import HandS.Words
import HandS.WordsExc
import HandS.Defaults
import HandS.Head0
import HandS.Head1
import HandS.Head2
import HandS.HeadEnd
import HandS.HeadHook1
import HandS.HeadHook2
import PyProof.AttrMiss
import OpenK.KCls
import KE.KOpsOwn
import PySem.Challenge.RW_samewords_k02_sizes_and_too_many
import HandS.WordsList
import HandS.IsInst
import HandS.Wide
import HandS.Iter
import HandS.Text
import HandS.StrMore
import HandS.Flow
import HandS.Walk
import HandS.DeepEq
import HandS.Codes
set_option Elab.async false
set_option linter.all false
set_option maxRecDepth 100000
set_option maxHeartbeats 2000000
/-! Rules of my own: functions read off an own class, the class's name, classes made in a try. -/
namespace Sw
open PySem PySem.Spec PyProof.Rows L2

/-! ### C.m(e, ..), m a plain def of the class at C -/
structure ClFn (K : PySem.W.Frag) (C : Addr) (m : Str) (f : Addr) : Prop where
  rd : PySem.W.readsIn K C (.type "type") = true
  ga : PySem.W.specialIn K (.ref C) "__getattribute__" = some (some (.builtin "type.__getattribute__"))
  at_ : PySem.W.findCls K (.ref C) (.type "type") m = some (.val (.ref f))
section
variable {X : Cx} {CX : CXT} {k : Nat} {f C : Addr} {fd : FuncData} {ps : List Str} {sp : Sp} {dvs : List V} {ds : List Value} {E : XK} {x m : Str} {p pos apos : Pos} {e : Expr} {es : List Expr} {t : TA}
theorem getmeth_cls {pins : List (Addr × Obj)} {σ : L2.St} {H : Hp} {s : Shared} {A : Around} {E : Value → Shared → Prop} {pl : Sem Bool} {Q : Value × List Value → Shared → Prop} (I : Inv X pins σ H s) (c : ClFn X.K C m f)
    (h : ∀ s', Inv X pins σ H s' → Q (.ref f, []) s') : wpAny (model X.prog X.w) A (getMethod (.ref C) m pl) Q E s :=
  PySem.W.method_cls I.kIn c.ga (PySem.W.cls_value I.kIn c.rd c.at_ (handed_of (v := V.ref f) rfl) (h _ (I.tok _)))
theorem pe_clfn {pl : Sem Bool} (hg : Gl X x) (hm : X.mg x = some (.ref C)) (c : ClFn X.K C m f) (F : FnOk X.prog X.w X.K X.mg X.base CX k f fd ps sp) (hr : Room k X.A) (hk : PySem.W.keepIn X.K (.ref f) = true) (hb : Binds X.K fd ps ds) (hd : Vals dvs ds)
    (hx : Passes CX X E) (ha : PA X (e :: es) t)
    (hdb : (x == ("__debug__" : Str)) = false := by decide) (hst : starEach (e :: es) X.env = (false, eval e X.env) :: starEach es X.env := by rfl) (hpl : (backTo pos (starEach es X.env)).any (·.1) = false := by rfl)
    (ht : eval (.Call (.Attribute (.Name x p) m apos) (e :: es) [] pos) X.env = (do
      let ov ← eval (.Name x p) X.env
      standAt apos.atName
      let (f, first) ← holding [ov] (getMethod ov m pl)
      callWith pos f first (backTo pos (starEach (e :: es) X.env)) (backToKw pos (keywordEach [] X.env))) := by rfl) :
    PE X (.Call (.Attribute (.Name x p) m apos) (e :: es) [] pos) (tCall sp dvs E t) := by
  refine ⟨fun pins s σ H Q I h => ?_⟩
  refine PySem.W.methodCall_KW (pl := pl) (thn ((pe_glob (v := V.ref C) hg hm rfl hdb).run pins s σ H _ I (show (tC (V.ref C)) σ H (fun v H1 => v = .ref C ∧ H1 = H) from ⟨rfl, rfl⟩)) fun u s1 ⟨y, H1, I1, rx, ex, eh⟩ => ?_) ht
  subst ex eh
  obtain rfl : u = Value.ref C := rx
  refine getmeth_cls I1 c fun s2 I2 => ?_
  refine PySem.W.callWith_K (first := []) (h₀ := X.base) I2.ok.mod.kin hk (thn (ha.run pos pins s2 σ _ _ I2 h) fun us s3 ⟨vs, H3, I3, r, q3⟩ => ⟨I3.kIn, ?_⟩) hst hpl
  exact run_fn F hr hb hd hx I3 r q3
end

/-! ### C(e, ..) in a try: what follows a raise hangs on the slots -/
section
variable {X : Cx} {CX : CXT} {k : Nat} {f C : Addr} {fd : FuncData} {ps : List Str} {sp : Sp} {dvs : List V} {ds : List Value} {E : L2.St → XK} {x : Str} {p pos : Pos} {e : Expr} {es : List Expr} {t : TA}
def tMakeS (C : Addr) (sp : Sp) (dvs : List V) (E : L2.St → XK) (t : TA) : TE := fun σ H Q => t σ H fun vs H1 => ∀ x dx, H1 x = none → H1 dx = none → dx ≠ x →
  sp (.ref x :: (vs ++ dvs)) (upd (upd H1 dx (.own x)) x (.ins C dx [])) (fun v H2 => v = .non ∧ Q (.ref x) H2) (E σ)
theorem run_makeS {pins : List (Addr × Obj)} {σ : L2.St} {H : Hp} {s : Shared} {Q : VK} {us : List Value} {vs : List V} (M : Mk X.K C f) (F : FnOk X.prog X.w X.K X.mg X.base CX k f fd ps sp) (hr : Room (k + 1) X.A) (hb : Binds X.K fd ps ds) (hd : Vals dvs ds)
    (hx : PassesAt CX X σ (E σ)) (I : Inv X pins σ H s) (r : Vals vs us)
    (h : ∀ x dx, H x = none → H dx = none → dx ≠ x → sp (.ref x :: (vs ++ dvs)) (upd (upd H dx (.own x)) x (.ins C dx [])) (fun v H2 => v = .non ∧ Q (.ref x) H2) (E σ)) :
    wpAny (model X.prog X.w) X.A (call (.ref C) us) (EP X pins σ Q) X.xe s := by
  have hq := h (s.heap.objs.size + 1) s.heap.objs.size (I.hok.fresh (Nat.le_succ _)) (I.hok.fresh (Nat.le_refl _)) (Nat.ne_of_lt (Nat.lt_succ_self _))
  have I2 := Inv.made (C := C) I
  have r2 : Vals (V.ref (s.heap.objs.size + 1) :: (vs ++ dvs)) (Value.ref (s.heap.objs.size + 1) :: (us ++ ds)) := .cons rfl (r.append hd)
  have hl : (Value.ref (s.heap.objs.size + 1) :: us ++ ds).length = ps.length := by
    have e := r2.length
    rw [F.len _ _ _ _ hq] at e
    exact e.symm
  refine wpAny_call (make_map (f := f) I.kIn M.makes M.init (beq_iff_eq.mp M.fn) (codeAny_mono (F.run _ X.stack _ _ ⟨Value.ref (s.heap.objs.size + 1) :: us, []⟩ (Value.ref (s.heap.objs.size + 1) :: (us ++ ds)) _ _ (E σ) (hr.make C us [])
    (I2.env0.make C us []) (hb _ (Value.ref (s.heap.objs.size + 1) :: us) I2.kIn hl) r2 hq) fun r s' hq' => ?_))
  cases r with
  | error e => exact hx pins _ _ e s' I2 hq'
  | ok fl =>
    cases fl with
    | ret u =>
      obtain ⟨v, H', I3, rv, ev, q3⟩ := I2.after hq'
      subst ev
      exact ⟨rv, ⟨V.ref (s.heap.objs.size + 1), H', I3, rfl, q3⟩⟩
    | next => exact False.elim hq'
    | brk => exact False.elim hq'
    | cont => exact False.elim hq'
theorem pe_makeS (M : Mk X.K C f) (F : FnOk X.prog X.w X.K X.mg X.base CX k f fd ps sp) (hr : Room (k + 1) X.A) (hg : Gl X x) (hm : X.mg x = some (.ref C)) (hb : Binds X.K fd ps ds) (hd : Vals dvs ds) (hx : ∀ σ, PassesAt CX X σ (E σ))
    (ha : PA X (e :: es) t) (hdb : (x == ("__debug__" : Str)) = false := by decide) (he : starEach (e :: es) X.env = (false, eval e X.env) :: starEach es X.env := by rfl) (hpl : (backTo pos (starEach es X.env)).any (·.1) = false := by rfl) :
    PE X (.Call (.Name x p) (e :: es) [] pos) (tMakeS C sp dvs E t) := by
  refine ⟨fun pins s σ H Q I h => ?_⟩
  refine wpAny_Call_Name_kw (ld_glob I hg hm ?_ hdb)
  refine PySem.W.callWith_K (h₀ := X.base) I.ok.mod.kin M.kp (thn (ha.run pos pins s σ H _ I h) fun us s1 ⟨vs, H1, I1, r, q⟩ => ⟨I1.kIn, ?_⟩) he hpl
  exact run_makeS M F hr hb hd (hx σ) I1 r q
end
end Sw

/-! ### C.__name__, e.__class__ of an exception in the making -/
namespace Sw
open PySem PySem.W PySem.Calls PyProof.Rows Builtin Builtin.ObjectAttr Builtin.Getset_descriptor
section
variable {prog : Program} {w : World} {A : Around} {E : Value → Shared → Prop} {s : Shared} {K : Frag} {R : Result → Shared → Prop} {C : Addr} {o : Obj} {z : PySem.Str} {tk : Tok}
theorem cnm_dga (d tp : Value) (C : Addr) : descrGetArgs ⟨[d, .ref C, tp], []⟩ = pure (d, some (.ref C), given tp) := by kernel_rfl
theorem cnm_get {tp : Value} (hC : s.heap.get? C = some o) (hcls : o.cls = .type "type") (hsl : o.slots[2]? = some (some (.str z tk))) (h : R (.ok (.ret (.str z tk))) s) :
    codeAny (model prog w) A (.call (.builtin "getset_descriptor.__get__") ⟨[.builtin "type.__name__", .ref C, tp], []⟩) R s := by
  obtain ⟨hh, g, dr, t, os⟩ := s
  have L0 : Looks (model prog w) hh (typeOf (.ref C)) (.type "type") := by
    have q := (Looks.ld (M := model prog w) (part := some .none) hC).andThen (f := fun o => pure o.cls) .now
    rw [hcls] at q
    exact q
  have L1 : Looks (model prog w) hh (isSubtype (.type "type") (.type "type")) true := Looks.of_pure (by rw [isSubtype_type]; kernel_rfl)
  refine codeAny_call_builtin KF.slot_gs.plain KF.entry_gs (KF.slot_gs.check _ _ _ _ _ _ _ _ ktyn_type (KF.args_gs _ _ _) ?_)
  unfold Builtin.«getset_descriptor.__get__» descrGet
  rw [cnm_dga]
  refine wpAny_bind (wpAny_pure ?_)
  unfold descrGetter descrCheckInstance descrNameAndClass isInstance
  simp only [ktyn_owner]
  repeat lk
  refine ⟨Code.quiet_builtin _ (by decide +kernel), codeAny_builtin ktyn_entry ?_⟩
  unfold Builtin.«type.__name__» keptObject slotAt
  dsimp only
  refine wpAny_bind (wpAny_bind (wpAny_loadPart_at hC (wpAny_pure ?_)))
  rw [hsl]
  exact wpAny_pure h
/-- C.__name__ -/
theorem cnm_attr {expr : Bool} {Q : Value → Shared → Prop} (X : K.In s.heap) (rd : readsIn K C (.type "type") = true) (hf : findCls K (.ref C) (.type "type") "__name__" = some (.get (.builtin "getset_descriptor.__get__") (.builtin "type.__name__") (.ref C) (.type "type")))
    (hC : K.lookup C = some o) (hcls : o.cls = .type "type") (hsl : o.slots[2]? = some (some (.str z tk))) (h : Q (.str z tk) { s with toks := s.toks + 1 }) : wpAny (model prog w) A (getAttr (.ref C) "__name__" expr) Q E s := by
  refine cls_bind X rd hf (wpAny_call (cnm_get (s := { s with toks := s.toks + 1 }) (X _ _ hC) hcls hsl ?_))
  exact handed_on rfl h
/-- e.__class__, e an exception without a dict as yet -/
theorem exc_class {x : Addr} {ox : Obj} {expr : Bool} {Q : Value → Shared → Prop} {gt : Option Value}
    (X : K.In s.heap) (I : InstAt s.heap x ox C none) (hga : findIn K (.ref C) "__getattribute__" = some (some (.builtin "BaseException.__getattribute__"))) (hgt : findIn K (.ref C) "__getattr__" = some gt)
    (hsub : subIn K (.ref C) (.type "BaseException") = some true) (hdct : hasDictIn K C = true) (ha : findIn K (.ref C) "__class__" = some (some (.builtin "object.__class__")))
    (hn : specialIn K (.builtin "object.__class__") "__get__" = some (some (.builtin "getset_descriptor.__get__"))) (htk : takesIn K (.builtin "object.__class__") = some true) (hm : mroIn K C (.type "object") = some true)
    (h : Q (.ref C) { s with toks := s.toks + 1 }) : wpAny (model prog w) A (getAttr (.ref x) "__class__" expr) Q E s := by
  have hf : findObj K C none "__class__" = some (.bind (.builtin "getset_descriptor.__get__") (.builtin "object.__class__")) := findObj_dataN (by obtain ⟨cd, hc, _⟩ := any_some hdct; rw [hc]; rfl) ha hn htk
  obtain ⟨hp, g, d, t, os⟩ := s
  have L0 := I.type (M := model prog w)
  have L1 := looks_findIn (M := model prog w) X hga
  have L2 := looks_findIn (M := model prog w) X hgt
  have L3 := looks_find (M := model prog w) X I hf
  have sub : Looks (model prog w) hp (isInstance (.ref x) (.type "BaseException")) true := L0.andThen (looks_subIn X hsub)
  have hx0 : (expr && onTheHeap (Value.builtin "BaseException.__getattribute__")) = false := by cases expr <;> rfl
  have hx2 : (Value.builtin "BaseException.__getattribute__" == Value.builtin "object.__getattribute__") = false := by decide +kernel
  have hx1 : (onTheHeap (Value.ref C) && Value.builtin "BaseException.__getattribute__" == Value.builtin "object.__getattribute__") = false := by rw [hx2]; rfl
  unfold getAttr getAttrBy
  refine wpAny_bind (wpAny_mkText (wpAny_holding (wpAny_bind (L0.at (wpAny_bind (L1.at ?_))))))
  show wpAny _ _ (if (onTheHeap (Value.ref C) && Value.builtin "BaseException.__getattribute__" == Value.builtin "object.__getattribute__") = true then _ else _) _ _ _
  rw [hx1, if_neg Bool.false_ne_true]
  unfold getAttrByItsOwn hookBefore
  refine wpAny_bind ?_
  rw [if_pos (show onTheHeap (Value.ref C) = true from rfl)]
  refine L2.at ?_
  refine wpAny_bind (wpAny_attempt (wpAny_holding ?_))
  unfold callGetattribute
  rw [hx0, if_neg Bool.false_ne_true]
  unfold boundAndCalled
  rw [PySem.F.excAttr_ValueError.ga.bind (.ref x)]
  refine wpAny_bind (wpAny_pure ?_)
  show wpAny _ _ (call (.builtin "BaseException.__getattribute__") [.ref x, .str "__class__" t]) _ _ _
  refine wpAny_call (codeAny_call_builtin PySem.F.excAttr_ValueError.ga.plain PySem.F.entry_bexc_ga ?_)
  refine @check_slot (model prog w) _ _ ⟨hp, g, d, t + 1, os⟩ "BaseException.__getattribute__" "BaseException" "__getattribute__" (.ref x) [.str "__class__" t] [] _ (by decide +kernel) (by decide +kernel) sub (PySem.F.args_bexc_ga (.ref x) (.str "__class__" t)) ?_
  unfold Builtin.«object.__getattribute__»
  refine wpAny_bind (wpAny_of_eq (a := ((Value.ref x : Value), [Value.str "__class__" t])) (by first | rfl | (simp only [slotArgs]; rfl)) ?_)
  refine wpAny_bind (wpAny_pure (wpAny_bind (L0.at (wpAny_bind (L3.at ?_)))))
  show wpAny _ _ (holding [Value.builtin "object.__class__"] (call (.builtin "getset_descriptor.__get__") [.builtin "object.__class__", .ref x, .ref C]) >>= ret) _ _ _
  refine wpAny_bind (wpAny_holding (wpAny_call (class_get (s := ⟨hp, g, d, t + 1, os⟩) (ox := ox) (od := none) X I hm ?_)))
  refine wpAny_pure ?_
  show wpAny _ _ (handedOut (.ref C)) _ _ _
  rw [handedOut_of (v := .ref C) rfl]
  exact wpAny_pure h
end
end Sw
namespace Sw
open PySem PySem.Spec PyProof.Rows L2
/-- what a class must be for its name to be read -/
structure NamC (K : PySem.W.Frag) (C : Addr) (z : Str) : Prop where
  rd : PySem.W.readsIn K C (.type "type") = true
  fc : PySem.W.findCls K (.ref C) (.type "type") "__name__" = some (.get (.builtin "getset_descriptor.__get__") (.builtin "type.__name__") (.ref C) (.type "type"))
  lk : ∃ (o : Obj) (tk : Tok), K.lookup C = some o ∧ o.cls = .type "type" ∧ o.slots[2]? = some (some (.str z tk))
/-- e.__class__.__name__, e an exception in the making -/
def tExN (K : PySem.W.Frag) (te : TE) : TE := fun σ H Q => te σ H fun x H1 => ∃ (a C : Addr) (z : Str), x = .ref a ∧ H1 a = some (exo a C none) ∧ ExcC K C ∧ NamC K C z ∧ Q (.str z) H1
theorem pe_exn {X : Cx} {e : Expr} {p1 p2 : Pos} {te : TE} (he : PE X e te) (hb : attributeBase e "__class__" X.env (eval e X.env) = eval e X.env := by rfl)
    (hb2 : attributeBase (.Attribute e "__class__" p1) "__name__" X.env (eval (.Attribute e "__class__" p1) X.env) = eval (.Attribute e "__class__" p1) X.env := by rfl) :
    PE X (.Attribute (.Attribute e "__class__" p1) "__name__" p2) (tExN X.K te) := by
  refine ⟨fun pins s σ H Q I h => ?_⟩
  refine attr_of hb2 (attr_of hb (thn (he.run pins s σ H _ I h) fun u s1 ⟨x, H1, I1, rx, a, C, z, ex, ea, T, N, q⟩ => ?_))
  subst ex
  obtain rfl : u = Value.ref a := rx
  obtain ⟨t1, ho⟩ := exo_at I1.hok ea
  obtain ⟨o, tk, hC, hcls, hsl⟩ := N.lk
  refine exc_class I1.kIn (ox := _) ⟨ho, rfl, rfl, trivial⟩ T.hg T.hk T.hs T.hd T.ha T.hn T.ht T.hm ?_
  have I2 := I1.tok (s1.toks + 1)
  refine cnm_attr (s := { s1 with toks := s1.toks + 1 }) I2.kIn N.rd N.fc hC hcls hsl ?_
  exact ⟨.str z, H1, I2.tok _, ⟨tk, rfl⟩, q⟩
end Sw
set_option Elab.async false
set_option linter.all false
set_option maxRecDepth 100000
set_option maxHeartbeats 2000000
/-! Rules of my own: within an except suite: a def that is handed the caught exception, isinstance of it, a comprehension over a range. -/
namespace Sw
open PySem PySem.Spec PyProof.Rows L2 L2H HotX

/-! ### a def called while p's exception is handled, its promise speaks of p -/
structure FnE (P : Program) (w : World) (K : PySem.W.Frag) (mg : Str → Option Value) (base : Heap) (CX : CXT) (k : Nat) (f : Addr) (fd : FuncData) (ps : List Str) (sp : Addr × Obj → Sp) : Prop where
  len : ∀ p vs H Q E, sp p vs H Q E → vs.length = ps.length
  run : ∀ (p : Addr × Obj) (A : Around) (outer : List Env) (s : Shared) (H : Hp) (args : Args) (us : List Value) (vs : List V) (Q : VK) (E : XK), RoomH k A → Hot1 A p → PinOk outer H s p → Env0 P w K mg base A outer s H →
    BindsTo s fd args (ps.zip us) → Vals vs us → sp p vs H Q E → codeAny (model P w) A (.call (.ref f) args) (CR CX outer P w H s Q E) s
/-- for one exception it is a def of the hot kind; what a hot def's promise may lean on is put into it -/
def atP (p : Addr × Obj) (A : Around) (sp : Sp) : Sp := fun vs H Q E => Hot1 A p ∧ sp vs H Q E
theorem fn_ofE {CX : CXT} {P : Program} {w : World} {K : PySem.W.Frag} {mg : Str → Option Value} {base : Heap} {k : Nat} {f : Addr} {name qual : Str} {params : Arguments} {body : List Stmt} {scope : Scope} {dV kV doc pm cdv ct oc : Value} {an od : Option Addr}
    {osl : Array (Option Value)} {N ps : List Str} {sp : Addr × Obj → Sp} (lk : K.lookup f = some ⟨oc, od, .func (PySem.W.fnOf name qual params body scope dV kV doc pm an cdv ct), osl⟩) (hcd : PySem.W.codeIn K cdv qual = true) (S : FnScope N ps scope)
    (len : ∀ p vs H Q E, sp p vs H Q E → vs.length = ps.length)
    (hbody : ∀ (p : Addr × Obj) (A : Around) (outer : List Env) (s : Shared) (H : Hp) (vs : List V) (Q : VK) (E : XK), Hot1 A p → RoomH k (A.deeper (envOfC qual scope s.heap.objs.size f cdv)) → sp p vs H Q E →
      ∃ t, PSs (cxH CX P w K mg base N qual scope f cdv A outer s H E p) body t ∧ t { nx := fun _ H' => Q .non H', rt := Q } (L2.start N vs) H) :
    FnE P w K mg base CX (k + 1) f (PySem.W.fnOf name qual params body scope dV kV doc pm an cdv ct) ps sp := by
  refine ⟨len, fun p A outer s H args us vs Q E hr hot hpin e0 hb r hsp => ?_⟩
  have KX : K.In s.heap := e0.mod.kin.keeps fun b o e => (e0.bs b o e).1
  have lim := e0.mod.nolimit.keeps fun b o e => (e0.bs b o e).1
  have hl := len p _ _ _ _ hsp
  have names : ∀ y ∈ ps.zip us, scope.names.lookup y.1 = some .local ∨ (scope.names.lookup y.1 = some .cell ∧ ((cellsFrom (s.heap.objs.size + 1) scope.names []).lookup y.1).isSome = true) := by
    rintro ⟨n, v⟩ hy
    exact (S.par n (List.of_mem_zip hy).1).imp id fun q => ⟨q, PySem.W.cellsFrom_some _ _ _ (.inl q)⟩
  refine codeAny_call_function hr.depth (KX _ _ lk) rfl S.co S.gen rfl (PySem.W.codeRec_of KX hcd) (hb _ _ _ _ (wpAny_newFunctionEnv_cells S.kind names fun env he s1 x => ?_))
  subst he
  refine ⟨lim.keeps x.toInCall.keep, codeAny_func ?_⟩
  obtain ⟨t, ht, hq⟩ := hbody p A outer s H vs Q E hot (hr.deeper _) hsp
  refine wpAny_mono (ht.run [] s1 (L2.start N vs) H _ (inv_startH S hpin e0 hl r x) hq) (fun fl s' hs => ?_) fun _ _ z => z
  cases fl with
  | ret u =>
    obtain ⟨v, _, H', J, rv, q⟩ := hs
    exact ⟨v, H', J.os, J.bare, J.base, J.hok, rv, q⟩
  | next =>
    obtain ⟨_, H', J, q⟩ := hs
    exact ⟨V.non, H', J.os, J.bare, J.base, J.hok, rfl, q⟩
  | brk =>
    obtain ⟨_, _, _, q⟩ := hs
    exact False.elim q
  | cont =>
    obtain ⟨_, _, _, q⟩ := hs
    exact False.elim q
/-- f(e, ..), f being handed the exception: what its promise asks is shown of any object that Z holds of -/
def tCallX (Z : Addr × Obj → Prop) (sp : Addr × Obj → Sp) (E : L2.St → XK) (t : TA) : TE := fun σ H Q => t σ H fun vs H1 => ∀ p, Z p → sp p vs H1 Q (E σ)
section
variable {X : Cx} {CX : CXT} {k : Nat} {f : Addr} {fd : FuncData} {ps : List Str} {sp : Addr × Obj → Sp} {E : L2.St → XK} {x : Str} {q pos : Pos} {e : Expr} {es : List Expr} {t : TA} {p : Addr × Obj}
theorem pe_callE {Z : Addr × Obj → Prop} (hz : Z p) (F : FnE X.prog X.w X.K X.mg X.base CX k f fd ps sp) (hr : RoomH k X.A) (hot : Hot1 X.A p) (hp : p ∈ X.pn) (hg : Gl X x) (hm : X.mg x = some (.ref f)) (hk : PySem.W.keepIn X.K (.ref f) = true) (hb : Binds X.K fd ps []) (hx : ∀ σ, PassesAt CX X σ (E σ))
    (ha : PA X (e :: es) t) (hdb : (x == ("__debug__" : Str)) = false := by decide) (he : starEach (e :: es) X.env = (false, eval e X.env) :: starEach es X.env := by rfl) (hpl : (backTo pos (starEach es X.env)).any (·.1) = false := by rfl) :
    PE X (.Call (.Name x q) (e :: es) [] pos) (tCallX Z sp E t) := by
  refine ⟨fun pins s σ H Q I h => wpAny_Call_Name_kw (ld_glob I hg hm ?_ hdb)⟩
  refine PySem.W.callWith_K (h₀ := X.base) I.ok.mod.kin hk (thn (ha.run pos pins s σ H _ I h) fun us s1 ⟨vs, H1, I1, r, all⟩ => ⟨I1.kIn, ?_⟩) he hpl
  have hsp := all p hz
  have hl : us.length = ps.length := r.length.symm.trans (F.len p _ _ _ _ hsp)
  have b := hb s1 us I1.kIn (by rw [List.append_nil]; exact hl)
  rw [List.append_nil] at b
  have P1 := I1.pin p (List.mem_append_left _ hp)
  have hpin : PinOk X.stack H1 s1 p := ⟨P1.1, P1.2.1, fun hm => (List.mem_cons.mp (I1.stkSub p.1 hm)).elim P1.2.2.1 P1.2.2.2.1, P1.2.2.2.2⟩
  refine wpAny_call (codeAny_mono (F.run p X.A X.stack s1 H1 ⟨us, []⟩ us vs Q (E σ) hr hot hpin I1.env0 b r hsp) fun r s' hq => ?_)
  cases r with
  | error e => exact hx σ pins H1 s1 e s' I1 hq
  | ok fl =>
    cases fl with
    | ret u => exact I1.after hq
    | _ => exact hq.elim
end

/-! ### isinstance(e, C), e the exception that is handled, with a dict of its own -/
/-- isinstance(e, c): a the exception, D its class, d its dict -/
def rIsX (K : PySem.W.Frag) (D a d : Addr) : List V → Hp → VK → Prop := fun xs H Q => ∃ (c : V) (cv : Value) (b : Bool) (fs : List (Str × V)), xs = [.ref a, c] ∧ (∀ u, RelV c u → u = cv) ∧ PySem.W.kitOne K (.ref D) cv = some b ∧ H d = some (.xd fs) ∧ Q (.bl b) H
theorem call_isX {X : Cx} {D d : Addr} {p : Addr × Obj} (T : ExcC X.K D) (hp : p ∈ X.pn) (hz : Zc (.ref D) (some d) p.2) (hf : ∃ vs, p.2.data = .fields vs) : CallR X (.builtin "isinstance") (rIsX X.K D p.1 d) := by
  intro pins s σ H xs us Q I r h
  obtain ⟨c, cv, b, fs, rfl, hcv, e, hd, q⟩ := h
  obtain ⟨u1, u2, rfl, r1, r2⟩ := vals2 r
  obtain rfl : u1 = Value.ref p.1 := r1
  obtain rfl := hcv _ r2
  obtain ⟨vs, hv⟩ := hf
  obtain ⟨mA, hns, _⟩ := (show ObjOk X.prog X.w H s.heap d (.xd fs) from I.hok d _ hd)
  obtain ⟨od, ho, _⟩ := lookIn_ns hns
  have J : PySem.W.InstAt s.heap p.1 p.2 D (some od) := ⟨(I.pin p (List.mem_append_left _ hp)).1, hz.1, by unfold PySem.W.notCls; rw [hv] <;> rfl, by rw [hz.2]; exact ho⟩
  exact PySem.W.kia_one (PySem.W.kitx_exc (by obtain ⟨cd, hc, _⟩ := PySem.W.any_some T.hd; rw [hc]; rfl) T.hg T.hk T.hs T.ha T.hn T.ht T.hm) I.kIn J e (fun z => nomatch z) fun tk => ⟨.bl b, H, I.kept (t' := tk) fun _ _ z => z, rfl, q⟩

/-! ### [e for i in range(n) if t] within a suite -/
/-- a comprehension's block there: the handled exception is kept -/
abbrev hBlk (X : Cx) (s : Shared) (H : Hp) (scope : Scope) (cenv : Env) (fp : List Addr) : Cx := { X.blk s H scope cenv fp with pn := X.pn }
theorem hBlk_start {X : Cx} {pins : List (Addr × Obj)} {σ : L2.St} {H : Hp} {s : Shared} {scope : Scope} {own : List (Str × Nat)} {fp : List Addr} (I : Inv X pins σ H s) (ok : BlkOk X.N X.env.scope scope own) (hN : X.N.Nodup) (hfp : ∀ b ∈ fp, FpOk X pins H b ∧ b < s.heap.objs.size) :
    Inv (hBlk X s H scope (compEnvC scope (cellsFrom (s.heap.objs.size + 1) scope.names (cloFrom X.env.cells scope.names [])) s.heap.objs.size X.env) fp) [] (wipe σ (own.map (·.2))) H { s with heap := pushCells (s.heap.push { cls := .type "dict", data := .dict #[] }) scope.names } := by
  have J := block_start I ok hN hfp
  refine ⟨⟨J.ok.mod, J.ok.kind, J.ok.glob, J.ok.blt, J.ok.above, J.ok.inj, J.ok.has, J.ok.cab, J.ok.hd, J.ok.frames, J.ok.stk, J.ok.exf, J.ok.bs, J.ok.bsz, J.ok.noex, J.ok.exfs, J.ok.funs, J.ok.frf⟩, J.os, J.bare, J.base, J.loc, J.cell, J.free, J.freeC, fun p hp => ?_, J.hok, J.len⟩
  have hp2 : p ∈ X.pn := by simpa using hp
  obtain ⟨g1, g2, g3, g4, g5⟩ := I.pin p (List.mem_append_left _ hp2)
  refine ⟨pushCells_keeps _ _ _ _ (Heap.get?_push_of_some _ g1), g2, Nat.ne_of_lt (Heap.lt_size g1), fun hm => ?_, g5⟩
  exact (List.mem_cons.mp (I.stkSub p.1 hm)).elim g3 g4
def tLcH (lo : Int) (n : Nat) (g : TG) (tt : TT) (te : TE) (vs : List Nat) : TE := fun σ H Q => ∀ D, H D = none → ∃ Pv : Nat → Hp → Prop, Pv 0 (upd H D (.lst [])) ∧
  (∀ i H1, i < n → Pv i H1 → g (.int (lo + i)) (wipe σ vs) H1 fun σ2 H2 => wipe σ2 vs = wipe σ vs ∧ tt σ2 H2 fun b H3 =>
    if b = true then te σ2 H3 fun y H4 => ∃ acc, H4 D = some (.lst acc) ∧ acc.length < sizeLine ∧ Pv (i + 1) (upd H4 D (.lst (acc ++ [y]))) else Pv (i + 1) H3) ∧ ∀ H1, Pv n H1 → Q (.ref D) H1
section
variable {X : Cx}
theorem lc_coreH {pins : List (Addr × Obj)} {s : Shared} {σ : L2.St} {H : Hp} {Q : VK} {elt tg iter : Expr} {ifs : List Expr} {scope : Scope} {own : List (Str × Nat)} {pos pos' : Pos} {wi : TI} {g : TG} {tt : TT} {te : TE} {n : Nat} {lo : Int} {use : Option (Value → Sem Unit)} {Qf : Value → Shared → Prop}
    (hc : HotC X) (hN : X.N.Nodup) (I : Inv X pins σ H s) (hi : PIH X tg iter wi) (hw : ∀ σ H (R : It → Hp → Prop), R (Itr lo n) H → wi σ H R)
    (ok : BlkOk X.N X.env.scope scope own)
    (hg : ∀ (s : Shared) (H : Hp) (C : Addr) (cl : List (Str × Addr)) (fp : List Addr), PG (hBlk X s H scope (compEnvC scope cl C X.env) fp) tg g) (ht : ∀ (s : Shared) (H : Hp) (C : Addr) (cl : List (Str × Addr)) (fp : List Addr), PTs (hBlk X s H scope (compEnvC scope cl C X.env) fp) ifs tt)
    (he : ∀ (s : Shared) (H : Hp) (C : Addr) (cl : List (Str × Addr)) (fp : List Addr), PE (hBlk X s H scope (compEnvC scope cl C X.env) fp) elt te) (hs : ∀ x, foldedSetIterable iter X.env x = pure x)
    (h : tLcH lo n g tt te (own.map (·.2)) σ H Q)
    (hRR : ∀ D C s' m H', Inv X pins σ H' s' → Q (.ref D) H' → s'.heap.Ns C m → FpOk X pins H' C → compPost (model X.prog X.w) X.A X.xe use Qf (.ref D) C (.ok .next) s') :
    wpAny (model X.prog X.w) X.A (comprehension (.ListComp elt [⟨tg, iter, ifs, 0⟩] scope pos) scope X.env pos' (newList []) false (eval iter X.env) use) Qf X.xe s := by
  have caps : ∀ y ∈ scope.names, y.2 = .free → ∃ c, X.env.cells.lookup y.1 = some c := fun y hy e => I.ok.has _ ((ok.free y hy e).imp id id)
  refine wpAny_comprehension_free (use := use) rfl hs (closure_ok caps) ok.kind (fun y hy e => (ok.uniq y hy).trans (congrArg some e))
    (thn (hi.run pins s σ H (fun J H' => J = Itr lo n ∧ H' = H) I (hw _ _ _ ⟨rfl, rfl⟩)) fun xv s1 hx => thn hx fun itv s2 h2 => ?_)
  obtain ⟨it, fp, tn, J, H2, rfl, I2, T, st2, f2, eJ, eH⟩ := h2
  subst eJ eH
  refine wpAny_newObj_type (newEnv_comp ?_) (Nat.zero_le _)
  -- the list that is filled stands at D
  generalize hD : s2.heap.objs.size = D
  have freeD : H2 D = none := I2.hok.fresh (Nat.le_of_eq hD)
  obtain ⟨Pv, p0, turn, fin⟩ := h D freeD
  generalize hs3 : ({ s2 with heap := s2.heap.push { cls := .type "list", data := .seq ([] : List Value).toArray } } : Shared) = s3
  have heap3 : s3.heap = s2.heap.push { cls := .type "list", data := .seq ([] : List Value).toArray } := by rw [← hs3]
  have I3 : Inv X pins σ (upd H2 D (.lst [])) s3 := by
    rw [← hs3]
    exact I2.laid (t' := s2.toks) (fun b o e => Heap.get?_push_of_some _ e) (Nat.le_of_eq hD) ⟨Nat.zero_le _, [], 0, .nil, by rw [← hD]; exact Heap.get?_push_size _ rfl⟩
  have f3 : ∀ b ∈ fp, FpOk X pins (upd H2 D (.lst [])) b ∧ b < s3.heap.objs.size := fun b hb => by
    obtain ⟨o, e, _⟩ := T.obj _ _ st2 b hb
    have lt := Heap.lt_size e
    exact ⟨⟨by rw [upd_ne (by rw [← hD]; exact Nat.ne_of_lt lt)]; exact (f2 b hb).1, (f2 b hb).2⟩, by rw [heap3, Heap.size_push]; exact Nat.lt_succ_of_lt lt⟩
  have I4 := hBlk_start I3 ok hN f3
  have pg := hg s3 (upd H2 D (.lst [])) s3.heap.objs.size (cellsFrom (s3.heap.objs.size + 1) scope.names (cloFrom X.env.cells scope.names [])) fp
  have pt := ht s3 (upd H2 D (.lst [])) s3.heap.objs.size (cellsFrom (s3.heap.objs.size + 1) scope.names (cloFrom X.env.cells scope.names [])) fp
  have pe := he s3 (upd H2 D (.lst [])) s3.heap.objs.size (cellsFrom (s3.heap.objs.size + 1) scope.names (cloFrom X.env.cells scope.names [])) fp
  show codeAny _ _ (.compStart (.ListComp elt [⟨tg, iter, ifs, 0⟩] scope pos) 0 (.ref it) (.ref D) (compEnvC scope (cellsFrom (s3.heap.objs.size + 1) scope.names (cloFrom X.env.cells scope.names [])) s3.heap.objs.size X.env))
    (compPost (model X.prog X.w) X.A X.xe use Qf (.ref D) s3.heap.objs.size) { s3 with heap := pushCells (s3.heap.push { cls := .type "dict", data := .dict #[] }) scope.names }
  generalize hce : compEnvC scope (cellsFrom (s3.heap.objs.size + 1) scope.names (cloFrom X.env.cells scope.names [])) s3.heap.objs.size X.env = ce at I4 pg pt pe ⊢
  have cL : ce.locals = s3.heap.objs.size := by subst hce; rfl
  have nf3 : ∀ b ∈ fp, (upd H2 D (.lst [])) b = none := fun b hb => (f3 b hb).1.1
  generalize upd H2 D (.lst []) = H3 at I3 I4 pg pt pe p0 f3 nf3
  have hcB : HotC (hBlk X s3 H3 scope ce fp) := hc
  have st4 : tn 0 (pushCells (s3.heap.push { cls := .type "dict", data := .dict #[] }) scope.names) := T.keep _ _ _ st2 fun b _ o e => pushCells_keeps _ _ _ _ (Heap.get?_push_of_some _ (by rw [heap3]; exact Heap.get?_push_of_some _ e))
  generalize hs4 : ({ s3 with heap := pushCells (s3.heap.push { cls := .type "dict", data := .dict #[] }) scope.names } : Shared) = s4 at I4 ⊢
  have st4 : tn 0 s4.heap := by
    rw [← hs4]
    exact st4
  have stat : ∀ {σ' : L2.St} {H' : Hp} {s' : Shared}, Inv (hBlk X s3 H3 scope ce fp) [] σ' H' s' → (∀ b ∈ fp, H' b = none) → ∀ b ∈ fp, FpOk (hBlk X s3 H3 scope ce fp) [] H' b := fun {_ _ _} I' hn b hb =>
    ⟨hn b hb, (I'.ok.exf b hb).1, I'.ok.exfs b hb, .inl hb, fun x c e => (I'.ok.exf b hb).2 x c e, fun p hp => (f3 b hb).1.2.2.2.2.2 p (List.mem_append_left _ (by simpa using hp))⟩
  suffices loop : codeAny (model X.prog X.w) X.A (.compLoop (.ListComp elt [⟨tg, iter, ifs, 0⟩] scope pos) 0 (.ref it) (.ref D) ce) (compPost (model X.prog X.w) X.A X.xe use Qf (.ref D) s3.heap.objs.size) s4 from codeAny_compStart_list loop (T.self X.A 0 _ _ _ st4 loop)
  refine (compLoop_any (fun m s' => ∃ i H', m = n - i ∧ i ≤ n ∧ Inv (hBlk X s3 H3 scope ce fp) [] (wipe σ (own.map (·.2))) H' s' ∧ tn i s'.heap ∧ (∀ b ∈ fp, H' b = none) ∧ Pv i H') ?_ n ⟨0, H3, by simp, Nat.zero_le _, I4, st4, nf3, p0⟩)
  rintro m s5 ⟨i, H5, rfl, hle, I5, st5, n5, p5⟩
  by_cases hlt : i < n
  · -- one more turn
    refine thnF (T.item (hBlk X s3 H3 scope ce fp) rfl rfl rfl hcB i [] s5 _ H5 (fun _ _ => False) I5 (stat I5 n5) st5 hlt) fun r s6 ⟨u, hr, h6⟩ => ?_
    subst hr
    refine thnF h6 fun _ s7 ⟨x, H7, I7, r7, y7, st7, n7⟩ => ?_
    obtain ⟨e7, ex⟩ := y7
    subst e7 ex
    refine thnF (pg.run _ s7 _ H7 _ u _ (I7.pinned (stat I7 n7) (T.obj _ _ st7)) r7 (turn i H7 hlt p5)) fun _ s8 ⟨σ8, H8, I8, w8, q8⟩ => ?_
    refine thnF (pt.run _ s8 σ8 H8 _ I8 q8) fun b s9 ⟨H9, I9, q9⟩ => ?_
    have next : ∀ {s' : Shared} {H' : Hp}, Inv (hBlk X s3 H3 scope ce fp) ([] ++ pinsAt fp s7.heap) σ8 H' s' → Pv (i + 1) H' →
        ∃ m, m < n - i ∧ ∃ i H', m = n - i ∧ i ≤ n ∧ Inv (hBlk X s3 H3 scope ce fp) [] (wipe σ (own.map (·.2))) H' s' ∧ tn i s'.heap ∧ (∀ b ∈ fp, H' b = none) ∧ Pv i H' := fun {s' H'} I' p' => by
      have still : ∀ b ∈ fp, ∀ o, s7.heap.get? b = some o → s'.heap.get? b = some o ∧ H' b = none := fun b hb o e =>
        let z := I'.pin (b, o) (List.mem_append_right _ (List.mem_append_right _ (mem_pinsAt hb e)))
        ⟨z.1, z.2.1⟩
      refine ⟨n - (i + 1), by omega, i + 1, H', rfl, hlt, (I'.unpinned (pins := [])).weak (by rw [← w8, wipe_length]) (fun j v e => ?_), T.keep _ _ _ st7 fun b hb o e => (still b hb o e).1, fun b hb => ?_, p'⟩
      · rw [← w8] at e
        exact (wipe_some e).1
      · obtain ⟨o, e, _⟩ := T.obj _ _ st7 b hb
        exact (still b hb o e).2
    cases b with
    | false => exact next I9 q9
    | true =>
      refine thnF (pe.run _ s9 σ8 H9 _ I9 q9) fun z s10 ⟨yv, H10, I10, r10, acc, hD10, hz10, nx⟩ => ?_
      exact app_ok (X := hBlk X s3 H3 scope ce fp) I10 hD10 hz10 r10 fun s11 I11 => next I11 nx
  · -- the range is at its end
    have e : i = n := by omega
    subst e
    refine thnF (T.done (hBlk X s3 H3 scope ce fp) rfl rfl rfl hcB i [] s5 _ H5 (fun _ _ => False) I5 (stat I5 n5) st5 (Nat.le_refl i)) fun r s6 ⟨hr, I6⟩ => ?_
    subst hr
    have I7 : Inv X pins σ H5 s6 := I3.call' (ch := fp) I6.os I6.base I6.hok I6.bare fun b hb => ⟨(f3 b hb).1.2.2.2.1, (f3 b hb).1.2.1, (f3 b hb).1.2.2.2.2.1, (f3 b hb).1.2.2.2.2.2⟩
    have noC : H5 s3.heap.objs.size = none := cL ▸ I6.free
    obtain ⟨m, hn, _⟩ := I6.loc
    have hn : s6.heap.Ns s3.heap.objs.size m := cL ▸ hn
    exact hRR D s3.heap.objs.size s6 m H5 I7 (fin H5 p5) hn (I3.fpOk (Nat.le_refl _) noC)
variable {elt tg iter : Expr} {ifs : List Expr} {scope : Scope} {own : List (Str × Nat)} {pos : Pos} {wi : TI} {g : TG} {tt : TT} {te : TE} {n : Nat} {lo : Int}
theorem pe_lcH (hc : HotC X) (hN : X.N.Nodup) (hi : PIH X tg iter wi) (hw : ∀ σ H (R : It → Hp → Prop), R (Itr lo n) H → wi σ H R) (ok : BlkOk X.N X.env.scope scope own)
    (hg : ∀ (s : Shared) (H : Hp) (C : Addr) (cl : List (Str × Addr)) (fp : List Addr), PG (hBlk X s H scope (compEnvC scope cl C X.env) fp) tg g) (ht : ∀ (s : Shared) (H : Hp) (C : Addr) (cl : List (Str × Addr)) (fp : List Addr), PTs (hBlk X s H scope (compEnvC scope cl C X.env) fp) ifs tt)
    (he : ∀ (s : Shared) (H : Hp) (C : Addr) (cl : List (Str × Addr)) (fp : List Addr), PE (hBlk X s H scope (compEnvC scope cl C X.env) fp) elt te) (hs : ∀ x, foldedSetIterable iter X.env x = pure x := by intro _; rfl) :
    PE X (.ListComp elt [⟨tg, iter, ifs, 0⟩] scope pos) (tLcH lo n g tt te (own.map (·.2))) := by
  refine ⟨fun pins s σ H Q I h => ?_⟩
  rw [eval_ListComp]
  refine lc_coreH hc hN I hi hw ok hg ht he hs h fun D C s' m H' I' q hn ⟨z0, z1, z2, z3, z4, z5⟩ => ⟨m, hn, fun h'' sb => ?_⟩
  exact ⟨.ref D, H', I'.turned (t' := s'.toks) (fun b o hb e => (sb.2 b hb).trans e) z0 z1 z3 z4 z5, rfl, q⟩
/-- y = [..], y a local, written within the block's frame -/
theorem ps_setLcH {i : Nat} {y : Str} {py spos : Pos} (hc : HotC X) (hN : X.N.Nodup) (hy : X.N[i]? = some y) (hyl : X.env.scope.names.lookup y = some .local)
    (hsw : swapsWith (.ListComp elt [⟨tg, iter, ifs, 0⟩] scope pos) (some (.Name y py)) spos.line X.env = pure true) (hi : PIH X tg iter wi) (hw : ∀ σ H (R : It → Hp → Prop), R (Itr lo n) H → wi σ H R) (ok : BlkOk X.N X.env.scope scope own)
    (hg : ∀ (s : Shared) (H : Hp) (C : Addr) (cl : List (Str × Addr)) (fp : List Addr), PG (hBlk X s H scope (compEnvC scope cl C X.env) fp) tg g) (ht : ∀ (s : Shared) (H : Hp) (C : Addr) (cl : List (Str × Addr)) (fp : List Addr), PTs (hBlk X s H scope (compEnvC scope cl C X.env) fp) ifs tt)
    (he : ∀ (s : Shared) (H : Hp) (C : Addr) (cl : List (Str × Addr)) (fp : List Addr), PE (hBlk X s H scope (compEnvC scope cl C X.env) fp) elt te) (hs : ∀ x, foldedSetIterable iter X.env x = pure x := by intro _; rfl) :
    PS X (.Assign [.Name y py] (.ListComp elt [⟨tg, iter, ifs, 0⟩] scope pos) spos) (tAsg (tLcH lo n g tt te (own.map (·.2))) (gName i)) := by
  refine ⟨fun pins s σ H D I h => ?_⟩
  rw [exec_Assign_Name_used _ _ _ _ hsw]
  have h : tLcH lo n g tt te (own.map (·.2)) σ H (fun x H1 => gName i x σ H1 D.nx) := h
  refine wpAny_bind (wpAny_standAt (wpAny_bind ?_))
  refine wpAny_bind (thn (lc_coreH (use := some (assign (.Name y py) X.env)) (Qf := fun _ s' => SP X pins D .next s') hc hN I hi hw ok hg ht he hs h fun L C s' m H' I' q hn f => ?_) fun _ _ z => wpAny_pure (wpAny_pure z))
  obtain ⟨z0, z1, z2, z3, z4, z5⟩ := f
  refine wpAny_assign_Name (store_ok2 (v := V.ref L) I' hN hy (.inl hyl) rfl (fun s2 I2 ⟨a, sb, ha⟩ => ?_) (.inr hyl))
  have ne : C ≠ a := ha.elim (fun z => z ▸ z1) (fun z e => z4 y a z e.symm)
  refine ⟨m, hn.sameBut sb ne, fun h3 sb3 => ?_⟩
  exact ⟨_, H', I2.turned (t' := s2.toks) (fun b o hb e => (sb3.2 b hb).trans e) z0 z1 z3 z4 z5, q⟩
end
end Sw
set_option Elab.async false
set_option linter.all false
set_option maxRecDepth 100000
set_option maxHeartbeats 2000000
/-! Rules of my own: max(xs, default=d), xs a list of ints that may be empty. -/
namespace Sw
open PySem
section
variable {prog : Program} {w : World} {A : Around} {R : Result → Shared → Prop} {I S : Addr} {fp wr : List Addr} {n : Nat} {P : Nat → Value → Prop} {St : Nat → Heap → Prop} {d : Value}
abbrev dkw (d : Value) : List (Str × Value) := [(Str.ofString "default", d)]
/-- what stands in the list of the best so far -/
def bestSeq : Option Value → Array Value
  | none => #[]
  | some v => #[v, v]
theorem mxd_loop (W : Walks prog w A.in1 I fp wr n P St) (bt : Nat → Nat → Bool) (hcmp : CmpOf prog w A.in1 .Gt P bt) (hSf : S ∉ fp) : ∀ (k j : Nat) (s : Shared) (c : Nat) (best : Option Value), n - j = k → j ≤ n → St j s.heap →
    (best = none → j = 0) → (∀ v, best = some v → 0 < j ∧ P (argBest bt (j - 1)) v) → s.heap.get? S = some { cls := .type "list", dict := none, data := .seq (bestSeq best) c, slots := #[] } →
    (∀ u h' tk, (n = 0 → u = d) → (0 < n → P (argBest bt (n - 1)) u) → (∀ b o, b ∉ wr → b ≠ S → s.heap.get? b = some o → h'.get? b = some o) → R (.ok (.ret u)) { s with heap := h', toks := tk }) →
    codeAny (model prog w) A (.builtin "max.loop" ⟨[.ref I, .none, .ref S], dkw d⟩) R s := by
  have nameL : (toString "max" ++ toString ".loop" : String) = "max.loop" := by decide
  have hSw : S ∉ wr := fun h => hSf (W.sub _ h)
  intro k
  induction k with
  | zero =>
    intro j s c best hk hj hst h0 h1 hS hR
    have ej : j = n := by omega
    subst ej
    refine codeAny_builtin F.entry_max_loop ?_
    rw [Around.under_plainId F.plain_max_loop _]
    refine wpAny_bind (wpAny_seqItems hS rfl ?_)
    refine wpAny_bind (wpAny_tryCatch (W.done s _ _ hst fun h' tk hk' => ?_))
    have hS' := hk' S _ hSw hS
    cases best with
    | none =>
      have z := h0 rfl
      refine wpAny_bind (wpAny_rule ?_)
      refine wpAny_pure (hR d h' tk (fun _ => rfl) (fun y => absurd y (by omega)) fun b o hbw _ e => hk' b o hbw e)
    | some v =>
      obtain ⟨z1, z2⟩ := h1 v rfl
      have hS2 : h'.get? S = some { cls := .type "list", dict := none, data := .seq #[v, v] c, slots := #[] } := hS'
      refine wpAny_bind (wpAny_updateSeq hS2 rfl (wpAny_bind (wpAny_letGo (wpAny_pure ?_))))
      exact hR v _ tk (fun y => absurd y (by omega)) (fun _ => z2) fun b o hbw hbS e => (Heap.get?_update_other _ _ (Ne.symm hbS)).trans (hk' b o hbw e)
  | succ k ih =>
    intro j s c best hk hj hst h0 h1 hS hR
    have hlt : j < n := by omega
    refine codeAny_builtin F.entry_max_loop ?_
    rw [Around.under_plainId F.plain_max_loop _]
    refine wpAny_bind (wpAny_seqItems hS rfl ?_)
    refine wpAny_bind (wpAny_tryCatch (W.item j s _ _ hlt hst fun v h' tk hP hst' hk' => ?_))
    have hS' := hk' S _ hSw hS
    have put : ∀ (u : Value) (old : Array Value), h'.get? S = some { cls := .type "list", dict := none, data := .seq old c, slots := #[] } → P (argBest bt j) u →
        codeAny (model prog w) A (.builtin "max.loop" ⟨[.ref I, .none, .ref S], dkw d⟩) R { s with heap := h'.update S (Obj.mapSeq fun _ => #[u, u]), toks := tk } := fun u old hS2 hu => by
      have other : ∀ b, b ≠ S → (h'.update S (Obj.mapSeq fun _ => #[u, u])).get? b = h'.get? b := fun b hb => Heap.get?_update_other _ _ (Ne.symm hb)
      refine ih (j + 1) _ _ (some u) (by omega) hlt (W.frame _ _ _ hst' fun b hbf o e => (other b fun z => hSf (by rw [← z]; exact hbf)).trans e) (fun z => nomatch z) (fun v' e => ?_) (Heap.get?_update_self _ hS2 rfl) fun u' h'' tk'' e0 e1 hk'' => ?_
      · cases e
        exact ⟨by omega, hu⟩
      · exact hR u' h'' tk'' e0 e1 fun b o hbw hbS e => hk'' b o hbw hbS ((other b hbS).trans (hk' b o hbw e))
    cases best with
    | none =>
      have z := h0 rfl
      subst z
      have hS2 : h'.get? S = some { cls := .type "list", dict := none, data := .seq #[] c, slots := #[] } := hS'
      refine wpAny_bind (wpAny_pure (wpAny_bind (wpAny_updateSeq hS2 rfl ?_)))
      rw [nameL]
      exact wpAny_pure ⟨plainId_quiet F.plain_max_loop _, put v _ hS2 hP⟩
    | some vb =>
      obtain ⟨z1, z2⟩ := h1 vb rfl
      have hS2 : h'.get? S = some { cls := .type "list", dict := none, data := .seq #[vb, vb] c, slots := #[] } := hS'
      have ej : j - 1 + 1 = j := by omega
      have ab : argBest bt j = if bt j (argBest bt (j - 1)) = true then j else argBest bt (j - 1) := by
        have q : argBest bt (j - 1 + 1) = if bt (j - 1 + 1) (argBest bt (j - 1)) = true then j - 1 + 1 else argBest bt (j - 1) := rfl
        rw [ej] at q
        exact q
      refine wpAny_bind (wpAny_pure (wpAny_bind (wpAny_tryCatch (wpAny_holding (wpAny_bind (hcmp j (argBest bt (j - 1)) v vb _ _ _ hP z2 ?_))))))
      refine wpAny_bind (wpAny_holding (wpAny_truthy_bool (wpAny_bind (wpAny_letGo (wpAny_pure ?_)))))
      cases hb : bt j (argBest bt (j - 1)) with
      | true =>
        rw [hb, if_pos rfl] at ab
        refine wpAny_bind (wpAny_updateSeq hS2 rfl (wpAny_bind (wpAny_letGo ?_)))
        rw [nameL]
        exact wpAny_pure ⟨plainId_quiet F.plain_max_loop _, put v _ hS2 (by rw [ab]; exact hP)⟩
      | false =>
        rw [hb, if_neg (by decide)] at ab
        refine wpAny_bind (wpAny_letGo ?_)
        rw [nameL]
        refine wpAny_pure ⟨plainId_quiet F.plain_max_loop _, ih (j + 1) _ c (some vb) (by omega) hlt hst' (fun z => nomatch z) (fun v' e => ?_) hS2 fun u' h'' tk'' e0 e1 hk'' => ?_⟩
        · cases e
          exact ⟨by omega, by show P (argBest bt j) vb; rw [ab]; exact z2⟩
        · exact hR u' h'' tk'' e0 e1 fun b o hbw hbS e => hk'' b o hbw hbS (hk' b o hbw e)
end
section
variable {prog : Program} {w : World} {A : Around} {E : Value → Shared → Prop} {s : Shared} {l : Addr} {xs : Array (Int × Tok)} {d : Value}
theorem mxd_args (a v : Value) : argsOk "max" ⟨[a], dkw v⟩ := by unfold argsOk; kernel_rfl
theorem mxd_ints {Q : Value → Shared → Prop} (hh : A.handled = none) (hl : s.heap.IsList l (intItems xs))
    (h : ∀ v h' tk, (xs.size = 0 → v = d) → (0 < xs.size → (intItems xs)[argBest (fun i j => decide (numAt xs i > numAt xs j)) (xs.size - 1)]? = some v) → (∀ b o, s.heap.get? b = some o → h'.get? b = some o) → Q v { s with heap := h', toks := tk }) :
    wpAny (model prog w) A (call (.builtin "max") [.ref l] (dkw d)) Q E s := by
  have nameL : (toString "max" ++ toString ".loop" : String) = "max.loop" := by decide
  have hsz : (intItems xs).size = xs.size := by simp [intItems]
  refine PyProof.Rows.kmk_tree F.kind_max F.plain_max F.entry_max (mxd_args _ _) ?_
  refine wpAny_bind (wpAny_of_eq (show Builtin.Builtins.bindParams "max" ["key", "default"] 0 ⟨[], dkw d⟩ = pure [none, some d] from rfl) ?_)
  refine wpAny_bind (wpAny_pure ?_)
  refine wpAny_bind (iter_intList hl fun s2 e st hfp hlI => ?_)
  subst e
  refine wpAny_bind (wpAny_newObj_type ?_)
  rw [nameL]
  refine wpAny_pure ⟨plainId_quiet F.plain_max_loop _, ?_⟩
  have W := Walks.list (prog := prog) (w := w) (A := A.in1) hh s.heap.objs.size l hlI (intItems xs)
  refine mxd_loop W _ (CmpOf.ints_gt (numAt xs) (fun _ _ => intItems_at)) (fun hm => Nat.lt_irrefl _ (hfp _ hm)) _ 0 _ _ none rfl (Nat.zero_le _) (W.frame _ _ _ st fun b _ o e => Heap.get?_push_of_some _ e) (fun _ => rfl) (fun _ z => nomatch z)
    (Heap.get?_push_size _ rfl) fun u h' tk e0 e1 hk => ?_
  refine h u h' tk (fun z => e0 (hsz.trans z)) (fun z => ?_) fun b o e => ?_
  · have q := e1 (by rw [hsz]; exact z)
    rw [hsz] at q
    exact q
  · have lt := Heap.lt_size e
    refine hk b o (fun hm => ?_) (fun z => ?_) (Heap.get?_push_of_some _ (Heap.get?_push_of_some _ e))
    · have z : b = s.heap.objs.size := by simpa using hm
      exact absurd lt (by rw [z]; exact Nat.lt_irrefl _)
    · rw [z, Heap.size_push] at lt
      exact absurd lt (Nat.not_lt.mpr (Nat.le_succ _))
end
end Sw
namespace Sw
open PySem PySem.Spec PyProof.Rows L2
/-- max(xs, default=d) of a list of ints -/
def rMaxD (K : PySem.W.Frag) : List V → List V → Hp → VK → Prop := fun vs zs H Q => ∃ (a : Addr) (ns : List Int) (d : V), vs = [V.ref a] ∧ zs = [d] ∧ SqL K H a (ns.map V.int) ∧ (ns = [] → Q d H) ∧ ∀ m, m ∈ ns → (∀ y, y ∈ ns → y ≤ m) → Q (.int m) H
theorem crk_max {X : Cx} (hc : X.calm = true) : CallRK X (.builtin "max") ["default"] (rMaxD X.K) := by
  intro pins s σ H vs zs us ws Q I r rz h
  obtain ⟨a, ns, d, rfl, rfl, hs, q0, q1⟩ := h
  obtain ⟨its, rv, hl, _⟩ := I.list hs
  rw [Vals.ref1 r]
  cases rz with
  | @cons _ du _ _ rd rz =>
    cases rz
    obtain ⟨xs, e⟩ := rv.ints.allInts.items
    have hn : numsOf (intItems xs).toList = ns := by rw [← e]; exact rv.ints.numsOf
    rw [nums_intItems] at hn
    have hl2 := hl.isList
    rw [e] at hl2
    subst hn
    refine mxd_ints (d := du) (I.ok.hd hc) hl2 fun v h' tk e0 e1 hk => ?_
    cases hz : xs.size with
    | zero =>
      rw [e0 hz]
      refine ⟨d, H, I.kept hk, rd, q0 ?_⟩
      have : xs = #[] := Array.eq_empty_of_size_eq_zero hz
      rw [this]
      rfl
    | succ k =>
      have hv := e1 (by omega)
      obtain ⟨t, rfl⟩ := intItems_at hv
      obtain ⟨h1, h2⟩ := argBest_gt (numAt xs) (xs.size - 1)
      refine ⟨.int _, H, I.kept hk, ⟨t, rfl⟩, q1 _ ?_ fun y hy => ?_⟩
      · rw [numAt_eq]
        exact PySem.getD_mem (by rw [List.length_map, Array.length_toList]; omega)
      · obtain ⟨j, hj, rfl⟩ := mem_getD hy
        rw [List.length_map, Array.length_toList] at hj
        rw [← numAt_eq]
        exact h2 j (by omega)
end Sw
set_option Elab.async false
set_option linter.all false
set_option maxRecDepth 100000
set_option maxHeartbeats 2000000
/-! The head's facts: any closed test of the written part. -/
namespace Sw
open PySem PySem.Spec PyProof.Rows L2 He
abbrev Fb : Type := PySem.W.Frag → Bool
def asR (g : Addr → Option Obj) (roots : List Addr) : Nat → List Addr
  | 0 => roots
  | n + 1 => growD g (asR g roots n)
def obsF (fa : List Fb) (fn : List DefD) (K : PySem.W.Frag) : AlD := ((fa.all fun f => f K) && fn.all fun d => d.ok K, fn.map fun d => fnW K d.at_)
def SaysF (fa : List Fb) (fn : List DefD) (K : PySem.W.Frag) : Prop := obsF fa fn K = valD fn
abbrev roots : List Addr := [mainGlobals, cStatics]
def obsFG (n : Nat) (fa : List Fb) (fn : List DefD) (g : Addr → Option Obj) : AlD := obsF fa fn (frG g (asR g roots n))
def hookF (n : Nat) (fa : List Fb) (fn : List DefD) : PySem.W.Hook where
  α := AlD
  obs := fun s => obsFG n fa fn s.heap.get?
  val := fun _ => valD fn
  says := fun _ h => ∃ K : PySem.W.Frag, K.In h ∧ SaysF fa fn K
  of := fun _ _ e => ⟨_, frG_in, e⟩
  keeps := fun _ _ _ ⟨K, hK, c⟩ k => ⟨K, PySem.W.Frag.In.keeps hK k, c⟩
theorem obsFG_eq {n : Nat} {fa : List Fb} {fn : List DefD} {g : Addr → Option Obj} {s : Shared} (h : ∀ a, g a = s.heap.get? a) : obsFG n fa fn g = (hookF n fa fn).obs s := by
  have e : g = s.heap.get? := funext h
  rw [e] <;> rfl
section
variable {fa : List Fb} {fn : List DefD} {K : PySem.W.Frag}
theorem SaysF.fact (c : SaysF fa fn K) (i : Nat) {f : Fb} (h : fa[i]? = some f := by rfl) : f K = true :=
  List.all_eq_true.mp (ba (show ((fa.all fun f => f K) && fn.all fun d => d.ok K) = true from congrArg (fun z : AlD => z.1) c)).1 f (List.mem_of_getElem? h)
theorem SaysF.def_ (c : SaysF fa fn K) (i : Nat) {d : DefD} (h : fn[i]? = some d := by rfl) : ∃ fd, FunD K d.name d.qual d.params d.body d.scope (d.dvs K) (d.kws K) (fAd K d.at_) fd := by
  have e2 : (fn.map fun d => fnW K d.at_)[i]? = (fn.map DefD.val)[i]? := congrArg (fun z : AlD => z.2[i]?) c
  rw [List.getElem?_map, List.getElem?_map, h] at e2
  exact DefD.funD (Option.some.inj e2) (List.all_eq_true.mp (ba (show ((fa.all fun f => f K) && fn.all fun d => d.ok K) = true from congrArg (fun z : AlD => z.1) c)).2 d (List.mem_of_getElem? h))
end
end Sw
set_option Elab.async false
set_option linter.all false
set_option maxRecDepth 100000
set_option maxHeartbeats 2000000
/-! Own error classes over ValueError whose __init__ hands on to a base's: what the written part says, the promises, raise. -/
namespace Sw
open PySem PySem.Spec PyProof.Rows L2 He

/-! ### tests of the written part -/
def oexB (K : PySem.W.Frag) (C : Addr) : Bool := (match K.lookup C with
  | some ⟨.type c, _, .cls cd, sl⟩ => decide (c = "type") && (match cd.mro, sl.toList with
    | .ref C' :: bm, [_, _, _, _, some (.builtin n), _] => decide (C' = C) && (decide (n = "ValueError.__new__") && (cd.hasDict && (!cd.hasDel && PySem.HandSPX.refsVE bm)))
    | _, _ => false)
  | _ => false) && (eqO (PySem.W.findIn K (.ref C) "__setattr__") (some (some (.builtin "object.__setattr__"))) && (decide (PySem.W.subIn K (.ref C) (.type "BaseException") = some true) && (decide (PySem.W.typeIn K (.ref C) = some (.type "type")) && PySem.W.keepIn K (.ref C))))
theorem oexB_ok {K : PySem.W.Frag} {C : Addr} (h : oexB K C = true) : OexC K C := by
  obtain ⟨h1, h⟩ := ba h
  obtain ⟨h2, h⟩ := ba h
  obtain ⟨h3, h⟩ := ba h
  obtain ⟨h4, h5⟩ := ba h
  refine ⟨?_, eqO_ok h2, of_decide_eq_true h3, of_decide_eq_true h4, h5⟩
  split at h1
  · rename_i c dd cd sl lk
    obtain ⟨hc, h1⟩ := ba h1
    split at h1
    · rename_i C' bm k0 k1 k2 k3 n k5 hm hs
      obtain ⟨e1, h1⟩ := ba h1
      obtain ⟨e2, h1⟩ := ba h1
      obtain ⟨e3, h1⟩ := ba h1
      obtain ⟨e4, e5⟩ := ba h1
      obtain ⟨nm, bs, mro, ns, qn, hd, sn, sub, ab, col, del⟩ := cd
      obtain rfl := of_decide_eq_true hc
      obtain rfl := of_decide_eq_true e1
      obtain rfl := of_decide_eq_true e2
      have hsl : sl = #[k0, k1, k2, k3, some (.builtin "ValueError.__new__"), k5] := by
        obtain ⟨l⟩ := sl
        exact congrArg Array.mk hs
      have hm : mro = Value.ref C' :: bm := hm
      have hhd : hd = true := e3
      have hdl : del = false := by
        cases del with
        | false => rfl
        | true => cases e4
      subst hm hhd hdl hsl
      exact ⟨nm, qn, ns, bs, bm, sn, sub, ab, col, dd, k0, k1, k2, k3, k5, lk, e5⟩
    · cases h1
  · cases h1
def excB (K : PySem.W.Frag) (D : Addr) : Bool := eqO (PySem.W.findIn K (.ref D) "__getattribute__") (some (some (.builtin "BaseException.__getattribute__"))) && (eqO (PySem.W.findIn K (.ref D) "__getattr__") (some none) &&
  (PySem.W.hasDictIn K D && (eqO (PySem.W.findIn K (.ref D) "__class__") (some (some (.builtin "object.__class__"))) && (eqO (PySem.W.specialIn K (.builtin "object.__class__") "__get__") (some (some (.builtin "getset_descriptor.__get__"))) &&
  (decide (PySem.W.takesIn K (.builtin "object.__class__") = some true) && decide (PySem.W.mroIn K D (.type "object") = some true))))))
theorem excB_ok {K : PySem.W.Frag} {D : Addr} (o : OexC K D) (h : excB K D = true) : ExcC K D := by
  obtain ⟨h1, h⟩ := ba h
  obtain ⟨h2, h⟩ := ba h
  obtain ⟨h3, h⟩ := ba h
  obtain ⟨h4, h⟩ := ba h
  obtain ⟨h5, h⟩ := ba h
  obtain ⟨h6, h7⟩ := ba h
  exact ⟨eqO_ok h1, eqO_ok h2, o.exC, h3, eqO_ok h4, eqO_ok h5, of_decide_eq_true h6, of_decide_eq_true h7⟩
def clsRd (K : PySem.W.Frag) (C : Addr) : Bool := PySem.W.readsIn K C (.type "type") && eqO (PySem.W.specialIn K (.ref C) "__getattribute__") (some (some (.builtin "type.__getattribute__")))
def slStr (sl : Array (Option Value)) : Bool := match sl[2]? with
  | some (some (Value.str _ _)) => true
  | _ => false
theorem slStr_ok {sl : Array (Option Value)} (h : slStr sl = true) : ∃ z tk, sl[2]? = some (some (Value.str z tk)) := by
  unfold slStr at h
  split at h
  · rename_i z tk e
    exact ⟨z, tk, e⟩
  · cases h
def namB (K : PySem.W.Frag) (C : Addr) : Bool := (match PySem.W.findCls K (.ref C) (.type "type") "__name__" with
  | some (.get (.builtin g) (.builtin a) (.ref C') (.type t)) => decide (g = "getset_descriptor.__get__") && (decide (a = "type.__name__") && (decide (C' = C) && decide (t = "type")))
  | _ => false) && (match K.lookup C with
  | some ⟨.type c, _, _, sl⟩ => decide (c = "type") && slStr sl
  | _ => false)
theorem namB_ok {K : PySem.W.Frag} {C : Addr} (r : clsRd K C = true) (h : namB K C = true) : ∃ z, NamC K C z := by
  obtain ⟨h1, h2⟩ := ba h
  obtain ⟨r1, _⟩ := ba r
  split at h1
  · rename_i g a C' t e
    obtain ⟨e1, h1⟩ := ba h1
    obtain ⟨e2, h1⟩ := ba h1
    obtain ⟨e3, e4⟩ := ba h1
    obtain rfl := of_decide_eq_true e1
    obtain rfl := of_decide_eq_true e2
    obtain rfl := of_decide_eq_true e3
    obtain rfl := of_decide_eq_true e4
    split at h2
    · rename_i c dd dt sl lk
      obtain ⟨hc, h2⟩ := ba h2
      obtain rfl := of_decide_eq_true hc
      obtain ⟨z, tk, hz⟩ := slStr_ok h2
      exact ⟨z, r1, e, _, tk, lk, rfl, hz⟩
    · cases h2
  · cases h1
def clfnB (K : PySem.W.Frag) (C : Addr) (m : Str) : Bool := clsRd K C && (match PySem.W.findCls K (.ref C) (.type "type") m with
  | some (.val (.ref f)) => decide (f = ma K C m)
  | _ => false)
theorem clfnB_ok {K : PySem.W.Frag} {C : Addr} {m : Str} (h : clfnB K C m = true) : ClFn K C m (ma K C m) := by
  obtain ⟨h1, h2⟩ := ba h
  obtain ⟨r1, r2⟩ := ba h1
  split at h2
  · rename_i f e
    obtain rfl := of_decide_eq_true h2
    exact ⟨r1, eqO_ok r2, e⟩
  · cases h2
def veinB (K : PySem.W.Frag) : Bool := match PySem.W.findCls K (.type "ValueError") (.type "type") "__init__" with
  | some (.val (.builtin b)) => decide (b = "ValueError.__init__")
  | _ => false
theorem veinB_ok {K : PySem.W.Frag} (h : veinB K = true) : PySem.W.findCls K (.type "ValueError") (.type "type") "__init__" = some (.val (.builtin "ValueError.__init__")) := by
  unfold veinB at h
  split at h
  · rename_i b e
    obtain rfl := of_decide_eq_true h
    exact e
  · cases h
/-- an own error class, its __init__ a def -/
def errB (K : PySem.W.Frag) (C : Addr) : Bool := oexB K C && (excB K C && (clsRd K C && (namB K C && (eqO (PySem.W.findIn K (.ref C) "value") (some none) &&
  (eqO (PySem.W.findIn K (.ref C) "__init__") (some (some (.ref (ma K C "__init__")))) && decide (PySem.W.typeIn K (.ref (ma K C "__init__")) = some (.type "function")))))))
structure ErrC (K : PySem.W.Frag) (C : Addr) : Prop where
  o : OexC K C
  e : ExcC K C
  n : ∃ z, NamC K C z
  nv : PySem.W.findIn K (.ref C) "value" = some none
  ini : PySem.W.findIn K (.ref C) "__init__" = some (some (.ref (ma K C "__init__")))
  inT : PySem.W.typeIn K (.ref (ma K C "__init__")) = some (.type "function")
theorem errB_ok {K : PySem.W.Frag} {C : Addr} (h : errB K C = true) : ErrC K C := by
  obtain ⟨h1, h⟩ := ba h
  obtain ⟨h2, h⟩ := ba h
  obtain ⟨h3, h⟩ := ba h
  obtain ⟨h4, h⟩ := ba h
  obtain ⟨h5, h⟩ := ba h
  obtain ⟨h6, h7⟩ := ba h
  have o := oexB_ok h1
  exact ⟨o, excB_ok o h2, namB_ok h3 h4, eqO_ok h5, eqO_ok h6, of_decide_eq_true h7⟩
theorem ErrC.xf {K : PySem.W.Frag} {C : Addr} (T : ErrC K C) : XfC K C := ⟨T.e.hg, T.e.hk, T.o.exC, T.e.hd⟩

/-! ### the promise of such an __init__(self, value) -/
def spEInit (K : PySem.W.Frag) : Sp := fun vs H Q _ => ∃ (a C : Addr) (v : V), vs = [.ref a, v] ∧ H a = some (exo a C none) ∧ ErrC K C ∧ ∀ dx, H dx = none → dx ≠ a → Q .non (upd (upd H dx (exd dx [("value", v)])) a (exo a C (some dx)))
theorem spEInit_len {K : PySem.W.Frag} : ∀ vs H Q E, spEInit K vs H Q E → vs.length = ["self", "value"].length := fun vs H Q E h => by
  obtain ⟨a, C, v, rfl, _⟩ := h
  rfl

/-! ### C(e, ..) as what is raised, nothing being handled: its context is None -/
theorem pmkN_oex {X : Cx} {CX : CXT} {x : Str} {e : Expr} {es : List Expr} {ta : TA} {p pos : Pos} {C fI : Addr} {k : Nat} {fd : FuncData} {ps : List Str} {sp : Sp} {ds : List Value} {dvs : List V} (T : OexC X.K C) (iC : PySem.W.findIn X.K (.ref C) "__init__" = some (some (.ref fI)))
    (tI : PySem.W.typeIn X.K (.ref fI) = some (.type "function")) (F1 : FnOk X.prog X.w X.K X.mg X.base CX k fI fd ps sp) (hr : Room (k + 1) X.A) (hb : Binds X.K fd ps ds) (hd : Vals dvs ds) (hx : Passes CX X (fun _ _ _ => False)) (hg : Gl X x) (hm : X.mg x = some (.ref C)) (ha : PA X (e :: es) ta)
    (hdb : (x == ("__debug__" : Str)) = false := by decide) (he : starEach (e :: es) X.env = (false, eval e X.env) :: starEach es X.env := by rfl) (hpl : (backTo pos (starEach es X.env)).any (·.1) = false := by rfl) :
    L2N.PMk X (.Call (.Name x p) (e :: es) [] pos) (tMkO C sp dvs ta) := by
  intro pins s σ H Q I h
  obtain ⟨nm, q, N, bs, bm, sn, sub, ab, col, dd, k0, k1, k2, k3, k5, hC, hbm⟩ := T.cls
  refine wpAny_Call_Name_kw (ld_glob I hg hm ?_ hdb)
  refine PySem.W.callWith_K (h₀ := X.base) I.ok.mod.kin T.kC (thn (ha.run pos pins s σ H _ I h) fun us s1 ⟨vs, H1, I1, r1, hz, q1⟩ => ⟨I1.kIn, ?_⟩) he hpl
  obtain ⟨hp, g, dr, tk, os⟩ := s1
  -- the new exception stands behind its tuple of arguments
  generalize ea0 : hp.objs.size + 1 = a0
  have le0 : hp.objs.size ≤ a0 := by omega
  have free0 : H1 a0 = none := I1.hok.fresh le0
  have hq := q1 a0 free0
  have keep0 : ∀ b o, hp.get? b = some o → ((hp.push (PySem.W.kdv_tup us)).push (PySem.HandSPX.excO C hp.objs.size)).get? b = some o := fun b o e => Heap.get?_push_of_some _ (Heap.get?_push_of_some _ e)
  have get0 : ((hp.push (PySem.W.kdv_tup us)).push (PySem.HandSPX.excO C hp.objs.size)).get? a0 = some (PySem.HandSPX.excO C hp.objs.size) := by
    rw [← ea0]
    heap_get
  have I2 := I1.laid (t' := tk) (a := a0) (o := exo a0 C none) keep0 le0 (exo_ok get0)
  have r2 : Vals (V.ref a0 :: (vs ++ dvs)) (Value.ref a0 :: (us ++ ds)) := .cons rfl (r1.append hd)
  have hl : (Value.ref a0 :: us ++ ds).length = ps.length := (r2.length).symm.trans (F1.len _ _ _ _ hq)
  have hus : us.length ≤ sizeLine := by
    rw [← Paired.length r1, sizeLine_eq]
    omega
  subst ea0
  refine wpAny_call (PySem.HandSPX.call_own F.excBase_ValueError (fun Y => PySem.HandSPX.refsVE_contains Y bm hbm) (I1.kIn _ _ hC) (PySem.W.looks_findIn I1.kIn iC) (fun self => PySem.W.bind_fn I1.kIn self tI) hus
    (codeAny_mono (F1.run _ X.stack _ _ ⟨Value.ref (hp.objs.size + 1) :: us, []⟩ _ _ _ (fun _ _ _ => False) (hr.make C us []) (I2.env0.make C us []) (hb _ _ I2.kIn hl) r2 hq) fun r s' hq' => ?_))
  cases r with
  | error er => exact hx pins σ _ _ er s' I2 hq'
  | ok fl =>
    cases fl with
    | ret u =>
      obtain ⟨v, H2, os2, bare2, un2, hok2, rv, ev, d, fs, ea, ed, hd1, q2⟩ := hq'
      subst ev
      obtain ⟨h2, g2, d2, t2, os'⟩ := s'
      obtain ⟨t0, G, J, kG, ge, hoe, na⟩ := mk_end0 (d2 := d2) (t2 := t2) I1 le0 keep0 un2 hok2 os2 bare2 ea ed hd1
      refine ⟨rv, _, _, _, ⟨G, g2, d2, t2, os'⟩, _, .ref C, some d, rfl, J, kG, ge, hoe, ⟨rfl, rfl, fun ws hv => ?_⟩, rfl, rfl, na, rfl, bare2, raises_own T.exC T.tyC, q2⟩
      cases hv
      rfl
    | _ => exact hq'.elim
end Sw
set_option Elab.async false
set_option linter.all false
set_option maxRecDepth 100000
set_option maxHeartbeats 2000000
/-! Operators of own classes: a class without a reflected method, an instance of a subclass on the right. -/
namespace Sw
open PySem PySem.W PySem.Calls PyProof.Rows Builtin
section
variable {α : Type} {prog : Program} {w : World} {A : Around} {E : Value → Shared → Prop} {s : Shared} {K : Frag} {C D x y f g : Addr} {ox oy : Obj} {od oe : Option Obj} {nm : String}
theorem raiseStr_attr {M : Model} {msg : PySem.Str} {Q : α → Shared → Prop} (hh : A.handled = none)
    (h : ∀ h' tk e, Heap.NewExcOf s.heap h' e "AttributeError" → E (.ref e) { s with heap := h', toks := tk }) (hm : msg.length ≤ sizeLine) : wpAny M A (raiseErrorStr "AttributeError" msg : Sem α) Q E s := by
  unfold raiseErrorStr
  refine wpAny_bind (wpAny_mkStr (wpAny_bind ?_) hm)
  unfold newExc newTuple
  refine wpAny_bind (wpAny_newObj_type ?_ (by size_fits))
  refine wpAny_bind (m := firstArgMember _ _) (wpAny_of_eq (a := Value.none) (by simp only [firstArgMember, attrError_no_first]; rfl) ?_)
  rw [ownMembersOf_AttributeError]
  refine wpAny_newObj_type ?_ (by size_fits)
  unfold raiseNew
  refine wpAny_bind (wpAny_handled ?_)
  rw [hh]
  first
    | refine wpAny_throw ?_
    | refine wpAny_bind (wpAny_pure (wpAny_throw ?_))
  exact h _ _ _ ⟨fun b o hb => Heap.get?_push_of_some _ (Heap.get?_push_of_some _ hb), Heap.get?_none_of_le (by simp), _, _, Heap.get?_push_size _ rfl, rfl, rfl, rfl⟩
/-- the class's name -/
def nameB (K : Frag) (C : Addr) (z : String) : Bool := match clsIn K C with
  | some cd => decide (cd.name = PySem.Str.ofString z)
  | none => false
/-- a short name -/
def ShortOk (z : String) : Prop := (PySem.Str.ofString z).cps.foldl (fun k c => k + (PySem.Str.utf8Of c).length) 0 ≤ 100 ∧ PySem.Str.length (PySem.Str.ofString s!"type object '{(PySem.Str.ofString z).toString}' has no attribute '") ≤ 1000
theorem looks_cut {M : Model} {h : Heap} {z : String} (X : K.In h) (e : nameB K C z = true) (k : ShortOk z) : Looks M h (typeNameCut 100 (.ref C)) (PySem.Str.ofString z).toString := by
  unfold nameB at e
  split at e
  · rename_i cd hc
    have e := of_decide_eq_true e
    unfold typeNameCut
    refine (looks_clsIn X hc).andThen ?_
    dsimp only
    rw [e, if_pos k.1]
    exact .now
  · cases e
/-- what a class without an attribute of a name must tell -/
structure NoCls (K : Frag) (C : Addr) (name : PySem.Str) : Prop where
  rd : readsIn K C (.type "type") = true
  m1 : findIn K (.type "type") name = some none
  m2 : findIn K (.ref C) name = some none
  sh : ∃ z, nameB K C z = true ∧ ShortOk z
theorem type_getattr_none : typeLookup (.type "type") "__getattr__" = pure none := by rw [typeLookup_type, builtinLookup_eq_fast]; kernel_rfl
theorem tga_miss {name : PySem.Str} {tk : Tok} {Q : Fin → Shared → Prop} (X : K.In s.heap) (N : NoCls K C name) (hn : name.length ≤ 100) (hh : A.handled = none)
    (h : ∀ h' tk e, Heap.NewExcOf s.heap h' e "AttributeError" → E (.ref e) { s with heap := h', toks := tk }) : wpAny (model prog w) A (Builtin.«type.__getattribute__» ⟨[.ref C, .str name tk], []⟩) Q E s := by
  have hr := N.rd
  simp only [readsIn, Bool.and_eq_true, beq_iff_eq] at hr
  obtain ⟨⟨⟨⟨a, b⟩, c'⟩, d⟩, f⟩ := hr
  obtain ⟨z, e5, hz⟩ := N.sh
  have L5 := looks_cut (M := model prog w) X e5 hz
  have hz := hz.2
  have ho : Looks (model prog w) s.heap (opaqueClassAbove (.ref C)) none := looks_opaque X a
  have ht : Looks (model prog w) s.heap (typeOf (.ref C)) (.type "type") := looks_typeIn X b
  have L1 := looks_findIn (M := model prog w) X N.m1
  have L4 := looks_findIn (M := model prog w) X N.m2
  obtain ⟨hh', g, dd, t, os⟩ := s
  unfold Builtin.«type.__getattribute__»
  refine wpAny_bind (wpAny_pure (wpAny_bind (ho.at (wpAny_bind (ht.at (wpAny_bind (L1.at ?_)))))))
  dsimp only
  refine wpAny_bind (wpAny_pure (wpAny_bind (L4.at ?_)))
  dsimp only
  refine wpAny_bind (wpAny_rule ?_)
  refine wpAny_bind (L5.at ?_)
  refine raiseStr_attr hh h ?_
  rw [strLen_append, strLen_append]
  have e1 : (PySem.Str.ofString "'").length = 1 := by decide
  have e2 : sizeLine = 16777216 := sizeLine_eq
  omega
/-- getattr(C, name) is looked for and not there -/
theorem cls_none {name : PySem.Str} {tk : Tok} {Q : Option Value → Shared → Prop} (X : K.In s.heap) (N : NoCls K C name) (hn : name.length ≤ 100) (hh : A.handled = none)
    (h : ∀ h' tk, (∀ b o, s.heap.get? b = some o → h'.get? b = some o) → Q none { s with heap := h', toks := tk }) : wpAny (model prog w) A (getAttrBy? (.ref C) (.str name tk)) Q E s := by
  have hr := N.rd
  simp only [readsIn, Bool.and_eq_true, beq_iff_eq] at hr
  obtain ⟨⟨⟨⟨a, b⟩, c'⟩, d⟩, f⟩ := hr
  have ht : Looks (model prog w) s.heap (typeOf (.ref C)) (.type "type") := looks_typeIn X b
  have Lga := looks_findIn (M := model prog w) X c'
  have Lsub : Looks (model prog w) s.heap (isInstance (.ref C) (.type "type")) true := ht.andThen (looks_subIn X f)
  obtain ⟨hp, g, dr, t, os⟩ := s
  unfold getAttrBy? getAttrBy
  refine wpAny_bind (wpAny_attempt (wpAny_holding (wpAny_bind (ht.at (wpAny_bind (Lga.at ?_))))))
  dsimp only
  rw [show (onTheHeap (Value.type "type") && Value.builtin "type.__getattribute__" == Value.builtin "object.__getattribute__") = false from by decide +kernel, if_neg (by decide)]
  unfold getAttrByItsOwn
  refine wpAny_bind (m := hookBefore _) (wpAny_pure (wpAny_bind (wpAny_attempt (wpAny_holding ?_))))
  unfold callGetattribute
  rw [show (false && onTheHeap (Value.builtin "type.__getattribute__")) = false from rfl, if_neg (by decide)]
  unfold boundAndCalled
  rw [KF.slot_tga.bind]
  refine wpAny_bind (wpAny_pure ?_)
  show wpAny _ _ (call (.builtin "type.__getattribute__") [.ref C, .str name tk]) _ _ _
  refine wpAny_call ?_
  refine codeAny_call_builtin KF.slot_tga.plain KF.entry_tga ?_
  refine @check_slot (model prog w) _ _ ⟨hp, g, dr, t, os⟩ "type.__getattribute__" "type" "__getattribute__" (.ref C) [.str name tk] [] _ (by decide +kernel) (by decide +kernel) Lsub (KF.args_tga (.ref C) (.str name tk)) ?_
  refine tga_miss X N hn hh fun h' tk' e ne => ?_
  obtain ⟨ob, vs, he, hc, hd, h1⟩ := ne.there
  have inst : ∀ {Q : Bool → Shared → Prop} {E : Value → Shared → Prop}, Q true ⟨h', g, dr, tk', os⟩ → wpAny (model prog w) A (isInstance (.ref e) (.type "AttributeError")) Q E ⟨h', g, dr, tk', os⟩ := fun q =>
    wpAny_isInstance (T := "AttributeError") ⟨_, he, hc⟩ sub_AttributeError q
  show wpAny _ _ (getattributeRaised _ _ _ _ _ _ _) _ _ _
  unfold getattributeRaised
  refine wpAny_bind (inst ?_)
  rw [if_pos rfl]
  have hb : hookBehind (Value.type "type") none = pure none := type_getattr_none
  rw [hb]
  refine wpAny_bind (wpAny_pure ?_)
  show wpAny _ _ (attributeErrorLeaves _ _ _ false false) _ _ _
  unfold attributeErrorLeaves
  rw [if_pos (show (!false) = true from rfl)]
  refine wpAny_throw ?_
  refine wpAny_bind (inst ?_)
  rw [if_pos rfl]
  exact wpAny_pure (h h' tk' ne.keeps)
/-- what two own classes must tell for x op y, f the left one's method -/
structure BinP (K : Frag) (nm : String) (C D f : Addr) : Prop where
  fC : selfFirst K C = true
  fD : selfFirst K D = true
  sC : findIn K (.ref C) (PySem.dunder nm) = some (some (.ref f))
  sF : isFn K (.ref f) = true
  sD : ∃ g : Addr, findIn K (.ref D) (PySem.dunder nm) = some (some (.ref g))
  rC : findIn K (.ref C) (dunderR nm) = some none
  nD : NoCls K D (dunderR nm)
  sub : ∃ b, subIn K (.ref D) (.ref C) = some b
theorem refl_no {Q : Bool → Shared → Prop} (X : K.In s.heap) (P : BinP K nm C D f) (hn : (dunderR nm).length ≤ 100) (hh : A.handled = none)
    (h : ∀ h' tk, (∀ b o, s.heap.get? b = some o → h'.get? b = some o) → Q false { s with heap := h', toks := tk }) : wpAny (model prog w) A (reflectedDiffers (.ref C) (.ref D) nm) Q E s := by
  obtain ⟨g, sD⟩ := P.sD
  have L6 : Looks (model prog w) s.heap (numberSlotInPython (.ref C) nm) true := ksp_inPy X P.sC P.rC (.inl rfl)
  have L7 : Looks (model prog w) s.heap (numberSlotInPython (.ref D) nm) true := ksp_inPy X sD P.nD.m2 (.inl rfl)
  obtain ⟨hp, gg, dr, t, os⟩ := s
  unfold reflectedDiffers
  refine wpAny_bind (L6.at ?_)
  rw [if_neg (by decide)]
  refine wpAny_bind (L7.at ?_)
  rw [if_neg (by decide)]
  refine wpAny_bind (wpAny_mkStr ?_ (by rw [sizeLine_eq]; omega))
  refine wpAny_bind (cls_none (s := ⟨hp, gg, dr, _, os⟩) X P.nD hn hh fun h' tk k => ?_)
  exact wpAny_pure (h h' tk k)
theorem inst_keeps {h h' : Heap} (I : InstAt h x ox C od) (k : ∀ b o, h.get? b = some o → h'.get? b = some o) : InstAt h' x ox C od := ⟨k _ _ I.at_, I.cls, I.no, by
  have d := I.dict
  revert d
  cases ox.dict with
  | none => cases od <;> exact fun d => d
  | some dx => cases od with
    | none => exact fun d => d
    | some o => exact fun d => k _ _ d⟩
theorem own_bin {op : Operator} {Q : Value → Shared → Prop} (X : K.In s.heap) (Ia : InstAt s.heap x ox C od) (Ib : InstAt s.heap y oy D oe) (P : BinP K op.info.2 C D f) (hn : (dunderR op.info.2).length ≤ 100) (hh : A.handled = none)
    (h : ∀ (h' : Heap) tk, (∀ b o, s.heap.get? b = some o → h'.get? b = some o) → wpAny (model prog w) A (call (.ref f) [.ref x, .ref y]) (PySem.W.CmpBack Q) E { s with heap := h', toks := tk }) : wpAny (model prog w) A (binaryOp op (.ref x) (.ref y)) Q E s := by
  obtain ⟨g, sD⟩ := P.sD
  obtain ⟨b, hsub⟩ := P.sub
  obtain ⟨cd, rest, hcd, hm⟩ := ksp_first P.fC
  obtain ⟨cdD, restD, hcdD, hmD⟩ := ksp_first P.fD
  rcases hi : op.info with ⟨sym, nm'⟩
  rw [hi] at P hn sD
  dsimp only at P hn sD
  obtain ⟨hp, gg, dr, t, os⟩ := s
  have L1 : Looks (model prog w) hp (typeOf (.ref x)) (.ref C) := Ia.type
  have L2 : Looks (model prog w) hp (typeOf (.ref y)) (.ref D) := Ib.type
  have L3 : Looks (model prog w) hp (fillsNumberSlot (.ref C) nm') true := fills_K X hcd hm P.sC
  have L4 : Looks (model prog w) hp (fillsNumberSlot (.ref D) nm') true := fills_K X hcdD hmD sD
  have L5 : Looks (model prog w) hp (isSubtype (.ref D) (.ref C)) b := looks_subIn X hsub
  have one : ∀ (h' : Heap) tk, (∀ b o, hp.get? b = some o → h'.get? b = some o) → wpAny (model prog w) A (tryMethod (.ref x) (PySem.dunder nm') (.ref y)) (fun r s' => ∃ v, r = some v ∧ Q v s') E ⟨h', gg, dr, tk, os⟩ := fun h' tk k =>
    ksp_try (s := ⟨h', gg, dr, tk, os⟩) (X.keeps k) (inst_keeps Ia k) P.sC P.sF (h h' tk k)
  simp only [binaryOp, hi]
  refine wpAny_holding (wpAny_bind ?_)
  unfold binaryOp1
  refine wpAny_bind (L1.at (wpAny_bind (L2.at (wpAny_bind (L3.at ?_)))))
  by_cases hCD : C = D
  · subst hCD
    simp only [beq_self_eq_true, if_true]
    refine wpAny_bind (wpAny_pure ?_)
    simp only [Bool.and_false, Bool.false_eq_true, if_false, Bool.false_and]
    refine wpAny_bind (wpAny_pure ?_)
    simp only [Bool.false_eq_true, if_false]
    refine wpAny_bind (wpAny_mono (one hp t fun _ _ z => z) (fun r s' hr' => ?_) fun _ _ e => e)
    obtain ⟨v, rfl, hq⟩ := hr'
    exact wpAny_pure (wpAny_pure hq)
  have hne : (Value.ref C == Value.ref D) = false := Bool.eq_false_iff.mpr fun q => hCD (by cases beq_iff_eq.mp q; rfl)
  simp only [hne, Bool.false_eq_true, if_false]
  refine wpAny_bind (L4.at ?_)
  simp only [Bool.and_self, if_true]
  have L6 : ∀ h' : Heap, (∀ b o, hp.get? b = some o → h'.get? b = some o) → Looks (model prog w) h' (numberSlotInPython (.ref C) nm') true := fun h' k => ksp_inPy (X.keeps k) P.sC P.rC (.inl rfl)
  have L7 : ∀ h' : Heap, (∀ b o, hp.get? b = some o → h'.get? b = some o) → Looks (model prog w) h' (numberSlotInPython (.ref D) nm') true := fun h' k => ksp_inPy (X.keeps k) sD P.nD.m2 (.inl rfl)
  refine wpAny_bind (L5.at ?_)
  cases b with
  | false =>
    rw [if_neg (by decide)]
    rw [if_pos (by decide)]
    refine wpAny_bind ((L6 hp fun _ _ z => z).at ?_)
    rw [if_pos rfl]
    refine wpAny_bind ((L7 hp fun _ _ z => z).at ?_)
    rw [if_neg (by decide)]
    refine wpAny_bind (wpAny_mono (one hp t fun _ _ z => z) (fun r s' hr' => ?_) fun _ _ e => e)
    obtain ⟨v, rfl, hq⟩ := hr'
    exact wpAny_pure (wpAny_pure hq)
  | true =>
    rw [if_pos rfl]
    refine wpAny_bind (refl_no (s := ⟨hp, gg, dr, t, os⟩) X P hn hh fun h' tk k => ?_)
    rw [if_neg (by decide)]
    rw [if_pos (by decide)]
    refine wpAny_bind ((L6 h' k).at ?_)
    rw [if_pos rfl]
    refine wpAny_bind ((L7 h' k).at ?_)
    rw [if_neg (by decide)]
    refine wpAny_bind (wpAny_mono (one h' tk k) (fun r s' hr' => ?_) fun _ _ e => e)
    obtain ⟨v, rfl, hq⟩ := hr'
    exact wpAny_pure (wpAny_pure hq)
/-- x op n, n of a built-in type that knows the operator, too -/
structure BinT (K : Frag) (nm : String) (C f : Addr) (T : String) : Prop where
  fC : selfFirst K C = true
  sC : findIn K (.ref C) (PySem.dunder nm) = some (some (.ref f))
  sF : isFn K (.ref f) = true
  rC : findIn K (.ref C) (dunderR nm) = some none
  sT : ∃ a b, findIn K (.type T) (PySem.dunder nm) = some a ∧ findIn K (.type T) (dunderR nm) = some b
  sub : subIn K (.type T) (.ref C) = some false
end
end Sw
namespace Sw
open PySem PySem.Spec PyProof.Rows L2
section
variable {X : Cx} {CX : CXT} {k : Nat} {f : Addr} {fd : FuncData} {ps : List Str} {sp : Sp} {E : XK}
/-- what an operator's method gives: an object -/
abbrev QRef (Q : VK) : VK := fun v H2 => (∃ r, v = .ref r) ∧ Q v H2
theorem run_back {pins : List (Addr × Obj)} {σ : L2.St} {H : Hp} {s : Shared} {Q : VK} {us : List Value} {vs : List V} (F : FnOk X.prog X.w X.K X.mg X.base CX k f fd ps sp) (hr : Room k X.A) (hb : Binds X.K fd ps []) (hx : Passes CX X E)
    (I : Inv X pins σ H s) (r : Vals vs us) (h : sp vs H (QRef Q) E) : wpAny (model X.prog X.w) X.A (call (.ref f) us) (PySem.W.CmpBack (EP X pins σ Q)) X.xe s := by
  refine wpAny_mono (run_fn (Q := QRef Q) F hr hb .nil hx I r (by rw [List.append_nil]; exact h)) (fun u s' hu => ?_) fun _ _ z => z
  obtain ⟨v, H', I', rv, ⟨a, rfl⟩, q⟩ := hu
  obtain rfl : u = Value.ref a := rv
  exact ⟨V.ref a, H', I', rfl, q⟩
/-- x op y, both instances of own classes -/
def rOwn (K : PySem.W.Frag) (nm : String) (f : Addr) (sp : Sp) (E : XK) : R2 := fun x y H Q => ∃ (a b C D dx dy : Addr) (fs gs : List (Str × V)), x = .ref a ∧ y = .ref b ∧ H a = some (.ins C dx fs) ∧ H b = some (.ins D dy gs) ∧ BinP K nm C D f ∧ sp [.ref a, .ref b] H (QRef Q) E
theorem op_own {op : Operator} (F : FnOk X.prog X.w X.K X.mg X.base CX k f fd ps sp) (hr : Room k X.A) (hb : Binds X.K fd ps []) (hx : Passes CX X E) (hc : X.calm = true) (hn : (dunderR op.info.2).length ≤ 100 := by decide) :
    OpR X (binaryOp op) (rOwn X.K op.info.2 f sp E) := by
  intro pins s σ H x y v u Q I rx ry h
  obtain ⟨a, b, C, D, dx, dy, fs, gs, rfl, rfl, ea, eb, P, q⟩ := h
  obtain rfl : v = Value.ref a := rx
  obtain rfl : u = Value.ref b := ry
  obtain ⟨mA, O, _⟩ := ins_get I.hok ea
  obtain ⟨mB, O2, _⟩ := ins_get I.hok eb
  obtain ⟨oda, Ia, _⟩ := O.look
  obtain ⟨odb, Ib, _⟩ := O2.look
  exact own_bin I.kIn Ia Ib P hn (I.ok.hd hc) fun h' tk kp => run_back (vs := [.ref a, .ref b]) F hr hb hx (I.kept (t' := tk) kp) (.cons rfl (.cons rfl .nil)) q
/-- x op n, n an int -/
def rOwnI (K : PySem.W.Frag) (nm : String) (f : Addr) (sp : Sp) (E : XK) : R2 := fun x y H Q => ∃ (a C dx : Addr) (fs : List (Str × V)) (i : Int), x = .ref a ∧ y = .int i ∧ H a = some (.ins C dx fs) ∧ BinT K nm C f "int" ∧ sp [.ref a, .int i] H (QRef Q) E
theorem op_ownI {op : Operator} (F : FnOk X.prog X.w X.K X.mg X.base CX k f fd ps sp) (hr : Room k X.A) (hb : Binds X.K fd ps []) (hx : Passes CX X E) : OpR X (binaryOp op) (rOwnI X.K op.info.2 f sp E) := by
  intro pins s σ H x y v u Q I rx ry h
  obtain ⟨a, C, dx, fs, i, rfl, rfl, ea, P, q⟩ := h
  obtain rfl : v = Value.ref a := rx
  obtain ⟨t, rfl⟩ := (show ∃ t, u = Value.int i t from ry)
  obtain ⟨mA, O, _⟩ := ins_get I.hok ea
  obtain ⟨oda, Ia, _⟩ := O.look
  obtain ⟨m, hn, _⟩ := I.loc
  obtain ⟨fo, ro, h1, h2⟩ := P.sT
  exact PySem.W.ksp_binT (T := "int") (h₀ := X.base) (m := m) (L := X.env.locals) ⟨hn, I.bk, Nat.le_trans I.ok.bsz I.ok.above⟩ I.ok.mod.kin Ia rfl P.fC P.sC P.sF P.rC (.inl rfl) h1 h2 P.sub (run_back (vs := [.ref a, .int i]) F hr hb hx I (.cons rfl (.cons ⟨t, rfl⟩ .nil)) q)
/-- - x, an instance of an own class -/
structure NegP (K : PySem.W.Frag) (C f : Addr) : Prop where
  s : PySem.W.findIn K (.ref C) "__neg__" = some (some (.ref f))
  sF : PySem.W.isFn K (.ref f) = true
def rOwnN (K : PySem.W.Frag) (f : Addr) (sp : Sp) (E : XK) : V → Hp → VK → Prop := fun x H Q => ∃ (a C dx : Addr) (fs : List (Str × V)), x = .ref a ∧ H a = some (.ins C dx fs) ∧ NegP K C f ∧ sp [.ref a] H Q E
theorem un_own (F : FnOk X.prog X.w X.K X.mg X.base CX k f fd ps sp) (hr : Room k X.A) (hb : Binds X.K fd ps []) (hx : Passes CX X E) : UnR X (unaryOp .USub) (rOwnN X.K f sp E) := by
  intro pins s σ H x v Q I rx h
  obtain ⟨a, C, dx, fs, rfl, ea, P, q⟩ := h
  obtain rfl : v = Value.ref a := rx
  obtain ⟨mA, O, _⟩ := ins_get I.hok ea
  obtain ⟨oda, Ia, _⟩ := O.look
  obtain ⟨m, hn, _⟩ := I.loc
  exact PySem.W.ksp_neg (h₀ := X.base) (m := m) (L := X.env.locals) ⟨hn, I.bk, Nat.le_trans I.ok.bsz I.ok.above⟩ I.ok.mod.kin Ia P.s P.sF (run_fn (vs := [.ref a]) F hr hb .nil hx I (.cons rfl .nil) (by rw [List.append_nil]; exact q))
end
end Sw
set_option Elab.async false
set_option linter.all false
set_option maxRecDepth 100000
set_option maxHeartbeats 2000000
namespace Sw
open PySem PySem.Spec PyProof.Rows L2
/-- a statement that is not reached -/
theorem ps_dead {X : Cx} {st : Stmt} : PS X st (fun _ _ _ => False) := ⟨fun _ _ _ _ _ _ h => h.elim⟩
/-- C() as what is raised, nothing being handled -/
theorem pmkN_oex0 {X : Cx} {CX : CXT} {x : Str} {p pos : Pos} {C fI : Addr} {k : Nat} {fd : FuncData} {ps : List Str} {sp : Sp} (T : OexC X.K C) (iC : PySem.W.findIn X.K (.ref C) "__init__" = some (some (.ref fI)))
    (tI : PySem.W.typeIn X.K (.ref fI) = some (.type "function")) (F1 : FnOk X.prog X.w X.K X.mg X.base CX k fI fd ps sp) (hr : Room (k + 1) X.A) (hb : Binds X.K fd ps []) (hx : Passes CX X (fun _ _ _ => False)) (hg : Gl X x) (hm : X.mg x = some (.ref C))
    (hdb : (x == ("__debug__" : Str)) = false := by decide) : L2N.PMk X (.Call (.Name x p) [] [] pos) (tMkO C sp [] tNil) := by
  intro pins s1 σ H1 Q I1 h
  obtain ⟨hz, q1⟩ := (show (([] : List V).length ≤ 1000 ∧ _) from h)
  obtain ⟨nm, q, N, bs, bm, sn, sub, ab, col, dd, k0, k1, k2, k3, k5, hC, hbm⟩ := T.cls
  refine wpAny_Call_Name_kw (ld_glob I1 hg hm ?_ hdb)
  refine PySem.W.callWith_K0 I1.kIn T.kC ?_
  obtain ⟨hp, g, dr, tk, os⟩ := s1
  generalize ea0 : hp.objs.size + 1 = a0
  have le0 : hp.objs.size ≤ a0 := by omega
  have free0 : H1 a0 = none := I1.hok.fresh le0
  have hq := q1 a0 free0
  have keep0 : ∀ b o, hp.get? b = some o → ((hp.push (PySem.W.kdv_tup [])).push (PySem.HandSPX.excO C hp.objs.size)).get? b = some o := fun b o e => Heap.get?_push_of_some _ (Heap.get?_push_of_some _ e)
  have get0 : ((hp.push (PySem.W.kdv_tup [])).push (PySem.HandSPX.excO C hp.objs.size)).get? a0 = some (PySem.HandSPX.excO C hp.objs.size) := by
    rw [← ea0]
    heap_get
  have I2 := I1.laid (t' := tk) (a := a0) (o := exo a0 C none) keep0 le0 (exo_ok get0)
  have r2 : Vals [V.ref a0] [Value.ref a0] := .cons rfl .nil
  have hl : ([Value.ref a0] ++ []).length = ps.length := (r2.length).symm.trans (F1.len _ _ _ _ hq)
  have hus : ([] : List Value).length ≤ sizeLine := Nat.zero_le _
  subst ea0
  refine wpAny_call (PySem.HandSPX.call_own F.excBase_ValueError (fun Y => PySem.HandSPX.refsVE_contains Y bm hbm) (I1.kIn _ _ hC) (PySem.W.looks_findIn I1.kIn iC) (fun self => PySem.W.bind_fn I1.kIn self tI) hus
    (codeAny_mono (F1.run _ X.stack _ _ ⟨[Value.ref (hp.objs.size + 1)], []⟩ _ _ _ (fun _ _ _ => False) (hr.make C [] []) (I2.env0.make C [] []) (hb _ _ I2.kIn hl) r2 hq) fun r s' hq' => ?_))
  cases r with
  | error er => exact hx pins σ _ _ er s' I2 hq'
  | ok fl =>
    cases fl with
    | ret u =>
      obtain ⟨v, H2, os2, bare2, un2, hok2, rv, ev, d, fs, ea, ed, hd1, q2⟩ := hq'
      subst ev
      obtain ⟨h2, g2, d2, t2, os'⟩ := s'
      obtain ⟨t0, G, J, kG, ge, hoe, na⟩ := mk_end0 (d2 := d2) (t2 := t2) I1 le0 keep0 un2 hok2 os2 bare2 ea ed hd1
      refine ⟨rv, _, _, _, ⟨G, g2, d2, t2, os'⟩, _, .ref C, some d, rfl, J, kG, ge, hoe, ⟨rfl, rfl, fun ws hv => ?_⟩, rfl, rfl, na, rfl, bare2, raises_own T.exC T.tyC, q2⟩
      cases hv
      rfl
    | _ => exact hq'.elim
end Sw
set_option Elab.async false
set_option linter.all false
set_option maxRecDepth 100000
set_option maxHeartbeats 2000000
namespace K2
open PySem PySem.Spec PyProof.Rows L2 He Sw
/-! ### the text by places -/
def top (i : Nat) : Stmt := PySem.Challenge.pw_samewords_k02_sizes_and_too_many.main.body.getD i (.Pass ⟨0, 0, 0, 0⟩)
abbrev sSE : Stmt := inClass (top 2) 0
abbrev sBName : Stmt := inClass (top 3) 0
abbrev sMany : Stmt := inClass (top 9) 0
abbrev sIsInt : Stmt := top 16
abbrev sIsRow : Stmt := top 17
abbrev sIsName : Stmt := top 18
abbrev sIsShift : Stmt := top 19
abbrev sCkName : Stmt := top 20
abbrev sCkShift : Stmt := top 21
abbrev sForm : Stmt := inClass (top 27) 0
abbrev sAdd : Stmt := inClass (top 27) 4
abbrev sSub : Stmt := inClass (top 27) 5
abbrev sMul : Stmt := inClass (top 27) 6
abbrev sNeg : Stmt := inClass (top 27) 7
abbrev sShl : Stmt := inClass (top 27) 8
abbrev sNum : Stmt := inClass (top 28) 0
abbrev sName : Stmt := inClass (top 29) 0
abbrev sSum : Stmt := inClass (top 30) 0
abbrev sCall : Stmt := inClass (top 31) 0
abbrev sCkForm : Stmt := top 32
abbrev sInner : Stmt := top 33
abbrev sIx : Stmt := top 34
abbrev sLInt : Stmt := top 36
abbrev sDraw : Stmt := top 37
abbrev sNames : Stmt := top 38
abbrev sEqual : Stmt := top 39
abbrev sClass : Stmt := top 40
abbrev sOps : Stmt := top 41
abbrev sMake : Stmt := top 42
abbrev sTried : Stmt := top 43
abbrev sUsed : Stmt := top 44
abbrev sDue : Stmt := top 45
abbrev sFits : Stmt := top 46
abbrev sLaw : Stmt := top 47
/-! ### what the head tells -/
def dF (x : Str) (st : Stmt) : DefD := ⟨(x, none), x, x, defArgs st, defBody st, defScope st, [], []⟩
def dM (c m q : Str) (st : Stmt) (dfl : List Dv) : DefD := ⟨(c, some m), m, q, defArgs st, defBody st, defScope st, dfl, []⟩
def fn : List DefD := [dM "SameError" "__init__" "SameError.__init__" sSE [.non], dM "BadName" "__init__" "BadName.__init__" sBName [], dM "TooMany" "__init__" "TooMany.__init__" sMany [],
  dF "is_integer" sIsInt, dF "is_row" sIsRow, dF "is_name" sIsName, dF "check_name" sCkName, dF "check_shift" sCkShift,
  dM "Formula" "__init__" "Formula.__init__" sForm [], dM "Formula" "__add__" "Formula.__add__" sAdd [], dM "Formula" "__sub__" "Formula.__sub__" sSub [], dM "Formula" "__mul__" "Formula.__mul__" sMul [], dM "Formula" "__neg__" "Formula.__neg__" sNeg [], dM "Formula" "__lshift__" "Formula.__lshift__" sShl [],
  dM "Number" "__init__" "Number.__init__" sNum [], dM "Name" "__init__" "Name.__init__" sName [], dM "Sum" "__init__" "Sum.__init__" sSum [], dM "Call" "__init__" "Call.__init__" sCall [],
  dF "check_formula" sCkForm, dF "inner_formulas" sInner, dF "index_names" sIx,
  dF "_law_is_integer" sLInt, dF "_law_draw" sDraw, dF "_law_names" sNames, dF "_law_equal" sEqual, dF "_law_class" sClass, dF "_law_ops" sOps, dF "_law_make" sMake, dF "_law_tried" sTried, dF "_law_used" sUsed, dF "_law_due" sDue, dF "_law_fits" sFits,
  dF "law" sLaw, dF "is_shift" sIsShift]
def gloA : List Str := ["SameError", "BadName", "BadWidth", "BadNumber", "BadBound", "BadFormula", "BadValue", "TooMany", "TooLong", "NO_NAMES", "is_integer", "is_row", "is_name", "is_shift", "check_name", "check_shift", "Formula", "Number", "Name", "Sum", "Call", "check_formula", "inner_formulas", "index_names"]
def gloB : List Str := ["_law_is_integer", "_law_draw", "_law_names", "_law_equal", "_law_class", "_law_ops", "_law_make", "_law_tried", "_law_used", "_law_due", "_law_fits", "law"]
def gloL : List Str := gloA ++ gloB
def freeL : List Str := ["ValueError", "isinstance", "int", "bool", "str", "len", "all", "sum", "max", "range", "abs", "list", "tuple"]
def errL : List Str := ["BadName", "TooMany"]
def clsL : List Str := ["Formula", "Number", "Name", "Sum", "Call"]
def clsS : List String := ["Formula", "Number", "Name", "Sum", "Call"]
def fldL : List Str := ["kind", "things", "parts", "depth"]
def binL : List String := ["add", "sub", "mul"]
def kinds : List Str := ["BadName", "BadWidth", "BadNumber", "BadBound", "BadFormula", "BadValue", "TooMany", "TooLong"]
def kitB2 (K : PySem.W.Frag) (a b : Str) (r : Bool) : Bool := decide (PySem.W.kitOne K (.ref (ga K a)) (.ref (ga K b)) = some r)
/-- an own class whose instances isinstance may ask -/
def insB (K : PySem.W.Frag) (C : Addr) : Bool := eqO (PySem.W.findIn K (.ref C) "__class__") (some (some (.builtin "object.__class__"))) && (eqO (PySem.W.specialIn K (.builtin "object.__class__") "__get__") (some (some (.builtin "getset_descriptor.__get__"))) &&
  (decide (PySem.W.takesIn K (.builtin "object.__class__") = some true) && decide (PySem.W.mroIn K C (.type "object") = some true)))
def noClsB (K : PySem.W.Frag) (C : Addr) (name : Str) (z : String) : Bool := PySem.W.readsIn K C (.type "type") && (eqO (PySem.W.findIn K (.type "type") name) (some none) && (eqO (PySem.W.findIn K (.ref C) name) (some none) && nameB K C z))
def mF (K : PySem.W.Frag) (m : Str) : Addr := ma K (ga K "Formula") m
def opB (K : PySem.W.Frag) (C : Addr) (nm z : String) : Bool := PySem.W.selfFirst K C && (eqO (PySem.W.findIn K (.ref C) (PySem.dunder nm)) (some (some (.ref (mF K (PySem.dunder nm))))) && (PySem.W.isFn K (.ref (mF K (PySem.dunder nm))) && noClsB K C (dunderR nm) z))
def shlB (K : PySem.W.Frag) (C : Addr) : Bool := PySem.W.selfFirst K C && (eqO (PySem.W.findIn K (.ref C) (PySem.dunder "lshift")) (some (some (.ref (mF K (PySem.dunder "lshift"))))) && (PySem.W.isFn K (.ref (mF K (PySem.dunder "lshift"))) && (eqO (PySem.W.findIn K (.ref C) (dunderR "lshift")) (some none) &&
  (((PySem.W.findIn K (.type "int") (PySem.dunder "lshift")).isSome && (PySem.W.findIn K (.type "int") (dunderR "lshift")).isSome) && decide (PySem.W.subIn K (.type "int") (.ref C) = some false)))))
def negB (K : PySem.W.Frag) (C : Addr) : Bool := eqO (PySem.W.findIn K (.ref C) "__neg__") (some (some (.ref (mF K "__neg__")))) && PySem.W.isFn K (.ref (mF K "__neg__"))
def noNames : List Str := ["width", "in", "def", "let", "if", "then", "else", "out", "sum"]
def fa : List Fb := [
  fun K => gloL.all fun x => (Fa.glo x).ok K,
  fun K => freeL.all fun x => (Fa.free x).ok K,
  fun K => errL.all fun x => errB K (ga K x),
  fun K => errL.all fun x => kinds.all fun y => kitB2 K x y (decide (x = y)),
  fun K => errL.all fun x => (Fa.exm x "SameError" true).ok K,
  fun K => errL.all fun x => decide (PySem.W.kitOne K (.ref (ga K x)) (.type "ValueError") = some true),
  fun K => clfnB K (ga K "SameError") "__init__",
  fun K => clfnB K (ga K "Formula") "__init__",
  fun K => veinB K,
  fun K => (Fa.str "LETTERS" "abcdefghijklmnopqrstuvwxyz").ok K,
  fun K => (Fa.int "MOST_LETTERS" 8).ok K,
  fun K => (Fa.int "MOST_PARTS" 300).ok K,
  fun K => (Fa.int "MOST_DEPTH" 40).ok K,
  fun K => (Fa.int "NUMBER_END" (10 ^ 30)).ok K,
  fun K => tupB K "NO_NAMES" (noNames.map Dv.str),
  fun K => clsL.all fun x => (Fa.cls x).ok K && ((Fa.mkr x).ok K && insB K (ga K x)),
  fun K => clsL.all fun x => fldL.all fun f => (Fa.noat x f).ok K,
  fun K => clsL.all fun x => kitB2 K x "Formula" true,
  fun K => kitB2 K "Number" "Name" false && kitB2 K "Number" "Number" true,
  fun K => (Fa.int "MOST_SHIFT" 64).ok K,
  fun K => (Fa.int "MOST_THINGS" 4).ok K,
  fun K => clsS.all fun z => binL.all fun nm => opB K (ga K (Str.ofString z)) nm z,
  fun K => clsL.all fun x => clsL.all fun y => (PySem.W.subIn K (.ref (ga K y)) (.ref (ga K x))).isSome,
  fun K => clsL.all fun x => shlB K (ga K x),
  fun K => clsL.all fun x => negB K (ga K x)]
abbrev R : PySem.W.OpenRow := PySem.W.OpenLaw.row PySem.Challenge.rw_samewords_k02_sizes_and_too_many
abbrev hk : PySem.W.Hook := hookF 6 fa fn
def ob (s : PySem.W.SharedT) : AlD := obsFG 6 fa fn (HandSHeadRun.getT s)
theorem ob_eq (s : PySem.W.SharedT) : ob s = hk.obs s.abs := obsFG_eq (HandSHeadRun.getT_eq s)
def loose1 : List Str := ["_wall", "__name__", "SameError", "BadName", "BadWidth", "BadNumber", "BadBound", "BadFormula", "BadValue", "TooMany", "TooLong", "LETTERS", "NO_NAMES", "MOST_LETTERS", "MOST_SHIFT", "is_integer", "is_row", "is_name", "is_shift", "check_name", "check_shift", "MOST_PARTS"]
def loose2 : List Str := ["MOST_DEPTH", "MOST_THINGS", "NUMBER_END", "Formula", "Number", "Name", "Sum", "Call", "check_formula", "inner_formulas", "index_names", "_law_is_integer", "_law_draw", "_law_names", "_law_equal", "_law_class", "_law_ops", "_law_make", "_law_tried", "_law_used", "_law_due", "_law_fits"]
end K2
set_option Elab.async false
set_option linter.all false
set_option maxRecDepth 100000
set_option maxHeartbeats 0
namespace K2
open PySem PySem.Spec PyProof.Rows L2 He Sw
theorem run (w : World) : HandSHeadRun.RunEq R (PySem.W.view R.prog [47]) hk ob 5000 (loose1 ++ loose2) w := by
  intro os
  kernel_rfl
end K2
set_option Elab.async false
set_option linter.all false
set_option maxRecDepth 100000
set_option maxHeartbeats 2000000
namespace K2
open PySem PySem.Spec PyProof.Rows L2 He Sw
/-! ### what the defs lean on -/
structure InsT (K : PySem.W.Frag) (C : Addr) : Prop where
  cl : Cls K C
  mkr : Mk K C (ma K C "__init__")
  ha : PySem.W.findIn K (.ref C) "__class__" = some (some (.builtin "object.__class__"))
  hn : PySem.W.specialIn K (.builtin "object.__class__") "__get__" = some (some (.builtin "getset_descriptor.__get__"))
  ht : PySem.W.takesIn K (.builtin "object.__class__") = some true
  hm : PySem.W.mroIn K C (.type "object") = some true
  no : ∀ f ∈ fldL, NoAttr K C f
structure Txt (K : PySem.W.Frag) (mg : Str → Option Value) : Prop where
  glo : ∀ x ∈ gloL, mg x = some (.ref (ga K x))
  fre : ∀ x ∈ freeL, mg x = none
  err : ∀ x ∈ errL, ErrC K (ga K x)
  kit : ∀ x ∈ errL, ∀ y ∈ kinds, PySem.W.kitOne K (.ref (ga K x)) (.ref (ga K y)) = some (decide (x = y))
  exm : ∀ x ∈ errL, PySem.W.exmOne K (.ref (ga K x)) (.ref (ga K "SameError")) = some true
  kve : ∀ x ∈ errL, PySem.W.kitOne K (.ref (ga K x)) (.type "ValueError") = some true
  seI : ClFn K (ga K "SameError") "__init__" (ma K (ga K "SameError") "__init__")
  foI : ClFn K (ga K "Formula") "__init__" (ma K (ga K "Formula") "__init__")
  ve : PySem.W.findCls K (.type "ValueError") (.type "type") "__init__" = some (.val (.builtin "ValueError.__init__"))
  let_ : ∃ t, mg "LETTERS" = some (.str "abcdefghijklmnopqrstuvwxyz" t)
  mLet : ∃ t, mg "MOST_LETTERS" = some (.int 8 t)
  mPar : ∃ t, mg "MOST_PARTS" = some (.int 300 t)
  mDep : ∃ t, mg "MOST_DEPTH" = some (.int 40 t)
  nEnd : ∃ t, mg "NUMBER_END" = some (.int (10 ^ 30) t)
  mShf : ∃ t, mg "MOST_SHIFT" = some (.int 64 t)
  mThg : ∃ t, mg "MOST_THINGS" = some (.int 4 t)
  noN : ∀ H : Hp, SqT K H (ga K "NO_NAMES") (noNames.map V.str)
  ins : ∀ x ∈ clsL, InsT K (ga K x)
  kF : ∀ x ∈ clsL, PySem.W.kitOne K (.ref (ga K x)) (.ref (ga K "Formula")) = some true
  kNN : PySem.W.kitOne K (.ref (ga K "Number")) (.ref (ga K "Name")) = some false
  kNu : PySem.W.kitOne K (.ref (ga K "Number")) (.ref (ga K "Number")) = some true
  bin : ∀ x ∈ clsL, ∀ y ∈ clsL, ∀ nm ∈ binL, BinP K nm (ga K x) (ga K y) (mF K (PySem.dunder nm))
  shl : ∀ x ∈ clsL, BinT K "lshift" (ga K x) (mF K (PySem.dunder "lshift")) "int"
  neg : ∀ x ∈ clsL, NegP K (ga K x) (mF K "__neg__")
section
variable {P : Program} {w : World} {K : PySem.W.Frag} {mg : Str → Option Value} {base : Heap}
theorem Txt.g (T : Txt K mg) (x : Str) (h : x ∈ gloL := by decide +kernel) : mg x = some (.ref (ga K x)) := T.glo x h
theorem Txt.f (T : Txt K mg) (x : Str) (h : x ∈ freeL := by decide +kernel) : mg x = none := T.fre x h
/-- a def of the text -/
abbrev FnM (K : PySem.W.Frag) (c q : Str) (st : Stmt) (dvs : List V) (fd : FuncData) : Prop := FunD K "__init__" q (defArgs st) (defBody st) (defScope st) dvs [] (ma K (ga K c) "__init__") fd
abbrev FnG (K : PySem.W.Frag) (x : Str) (st : Stmt) (fd : FuncData) : Prop := FunD K x x (defArgs st) (defBody st) (defScope st) [] [] (ga K x) fd

/-! ### the errors -/
theorem scSE : FnScope ["self", "value"] ["self", "value"] (defScope sSE) := ⟨rfl, rfl, rfl, by decide +kernel, rfl, by decide +kernel, by decide +kernel⟩
theorem ok_SE {fd : FuncData} (T : Txt K mg) (F : FnM K "SameError" "SameError.__init__" sSE [.non] fd) : FnOk P w K mg base CX0 1 (ma K (ga K "SameError") "__init__") fd ["self", "value"] (spEInit K) := by
  refine F.ok scSE spEInit_len (fun cdv A outer s H vs Q E hr h => ?_)
  obtain ⟨a, C, v, rfl, ha, TC, k⟩ := h
  refine ⟨_, pss_cons (ps_expr (pe_veinit rfl (T.f "ValueError") T.ve (pa_cons (pv 0) (pa_cons (pe_exn (pv 0)) pa_nil)))) (pss_one (ps_ost (pv 0) (pv 1))), ?_⟩
  obtain ⟨z, hz⟩ := TC.n
  refine ⟨_, rfl, _, rfl, a, C, z, rfl, ha, TC.e, hz, a, C, _, rfl, (by show 1 ≤ 1000; decide), TC.o, ha, ?_⟩
  exact ⟨_, rfl, _, rfl, a, C, rfl, TC.o, TC.nv, .inl ⟨ha, fun dx h1 h2 => k dx h1 h2⟩⟩
theorem binds_SE {fd : FuncData} (F : FnM K "SameError" "SameError.__init__" sSE [.non] fd) : Binds K fd ["self", "value"] [] := by
  obtain ⟨ds, hv, hb⟩ := F.binds1 (ps := ["self", "value"]) 2 1 (by simp) rfl (fun _ _ _ _ _ _ _ us its hu hi => match us, hu, its, hi with | [_, _], _, [_], _ => ⟨_, rfl, rfl⟩)
  cases hv
  exact hb
theorem scBName : FnScope ["self", "value"] ["self", "value"] (defScope sBName) := ⟨rfl, rfl, rfl, by decide +kernel, rfl, by decide +kernel, by decide +kernel⟩
theorem ok_BName {fd fdS : FuncData} (T : Txt K mg) (F : FnM K "BadName" "BadName.__init__" sBName [] fd) (FS : FnM K "SameError" "SameError.__init__" sSE [.non] fdS) :
    FnOk P w K mg base CX0 2 (ma K (ga K "BadName") "__init__") fd ["self", "value"] (spEInit K) := by
  refine F.ok scBName spEInit_len (fun cdv A outer s H vs Q E hr h => ?_)
  obtain ⟨a, C, v, rfl, ha, TC, k⟩ := h
  refine ⟨_, pss_one (ps_expr (pe_clfn (x := "SameError") rfl (T.g "SameError") T.seI (ok_SE T FS) hr FS.kp (binds_SE FS) .nil pass0 (pa_cons (pv 0) (pa_cons (pv 1) pa_nil)))), ?_⟩
  exact ⟨_, rfl, _, rfl, a, C, v, rfl, ha, TC, k⟩
theorem binds_SE1 {fd : FuncData} (F : FnM K "SameError" "SameError.__init__" sSE [.non] fd) : ∃ ds, Vals [V.non] ds ∧ Binds K fd ["self", "value"] ds :=
  F.binds1 (ps := ["self", "value"]) 1 0 (by simp) rfl (fun _ _ _ _ _ _ _ us its hu hi => match us, hu, its, hi with | [_], _, [_], _ => ⟨_, rfl, rfl⟩)
/-- an __init__(self) of such an error -/
def spEInit0 (K : PySem.W.Frag) : Sp := fun vs H Q _ => ∃ (a C : Addr), vs = [.ref a] ∧ H a = some (exo a C none) ∧ ErrC K C ∧ ∀ dx, H dx = none → dx ≠ a → Q .non (upd (upd H dx (exd dx [("value", .non)])) a (exo a C (some dx)))
theorem scMany : FnScope ["self"] ["self"] (defScope sMany) := ⟨rfl, rfl, rfl, by decide +kernel, rfl, by decide +kernel, by decide +kernel⟩
theorem ok_Many {fd fdS : FuncData} (T : Txt K mg) (F : FnM K "TooMany" "TooMany.__init__" sMany [] fd) (FS : FnM K "SameError" "SameError.__init__" sSE [.non] fdS) :
    FnOk P w K mg base CX0 2 (ma K (ga K "TooMany") "__init__") fd ["self"] (spEInit0 K) := by
  obtain ⟨ds, hv, hb⟩ := binds_SE1 FS
  refine F.ok scMany (fun vs H Q E h => ?_) (fun cdv A outer s H vs Q E hr h => ?_)
  · obtain ⟨a, C, rfl, _⟩ := h
    rfl
  obtain ⟨a, C, rfl, ha, TC, k⟩ := h
  refine ⟨_, pss_one (ps_expr (pe_clfn (x := "SameError") rfl (T.g "SameError") T.seI (ok_SE T FS) hr FS.kp hb hv pass0 (pa_cons (pv 0) pa_nil))), ?_⟩
  exact ⟨_, rfl, a, C, .non, rfl, ha, TC, k⟩

/-! ### the things that are handed in -/
inductive Th (H : Hp) : V → String → Prop
  | non : Th H .non "NoneType"
  | bl (b : Bool) : Th H (.bl b) "bool"
  | int (i : Int) : Th H (.int i) "int"
  | str (z : Str) (h : z.length ≤ 100) : Th H (.str z) "str"
  | tup (a : Addr) (e : H a = some (.tup [.str "x"])) : Th H (.ref a) "tuple"
  | lst (a : Addr) (e : H a = some (.lst [.str "x"])) : Th H (.ref a) "list"
  | dct (a : Addr) (e : H a = some (.dK [(.inr "x", .int 1)])) : Th H (.ref a) "dict"
theorem Th.ty {H : Hp} {v : V} {n : String} (t : Th H v n) : TyX K H v (.type n) := by
  cases t with
  | non => exact .base .non
  | bl b => exact .base (.bl b)
  | int i => exact .base (.int i)
  | str z h => exact .base (.str z)
  | tup a e => exact .base (.tup e)
  | lst a e => exact .base (.lst e)
  | dct a e => exact .base (.dK e)
theorem Th.same {H H' : Hp} {v : V} {n : String} (t : Th H v n) (s : Same H H') : Th H' v n := by
  cases t with
  | non => exact .non
  | bl b => exact .bl b
  | int i => exact .int i
  | str z h => exact .str z h
  | tup a e => exact .tup a (s _ _ e)
  | lst a e => exact .lst a (s _ _ e)
  | dct a e => exact .dct a (s _ _ e)
def isI : V → Bool
  | .int _ => true
  | _ => false
def isS : V → Bool
  | .str _ => true
  | _ => false
def isB : V → Bool
  | .bl _ => true
  | _ => false
theorem Th.kInt {H : Hp} {v : V} {n : String} (t : Th H v n) : PySem.W.kitOne K (.type n) (.type "int") = some (isI v || isB v) := by
  cases t <;> first
    | exact kit_ty (show kitB _ _ = some true by decide +kernel)
    | exact kit_ty (show kitB _ _ = some false by decide +kernel)
theorem Th.kBool {H : Hp} {v : V} {n : String} (t : Th H v n) : PySem.W.kitOne K (.type n) (.type "bool") = some (isB v) := by
  cases t <;> first
    | exact kit_ty (show kitB _ _ = some true by decide +kernel)
    | exact kit_ty (show kitB _ _ = some false by decide +kernel)
theorem Th.kStr {H : Hp} {v : V} {n : String} (t : Th H v n) : PySem.W.kitOne K (.type n) (.type "str") = some (isS v) := by
  cases t <;> first
    | exact kit_ty (show kitB _ _ = some true by decide +kernel)
    | exact kit_ty (show kitB _ _ = some false by decide +kernel)

/-! ### is_integer, the law's own too -/
def spIsInt : Sp := fun vs H Q _ => ∃ (v : V) (n : String), vs = [v] ∧ Th H v n ∧ Q (.bl (isI v)) H
theorem scIsInt : FnScope ["thing"] ["thing"] (defScope sIsInt) := ⟨rfl, rfl, rfl, by decide +kernel, rfl, by decide +kernel, by decide +kernel⟩
theorem ok_isInt {fd : FuncData} (T : Txt K mg) (F : FnG K "is_integer" sIsInt fd) : FnOk P w K mg base CX0 1 (ga K "is_integer") fd ["thing"] spIsInt := by
  refine F.ok scIsInt (fun vs H Q E h => ?_) (fun cdv A outer s H vs Q E hr h => ?_)
  · obtain ⟨v, n, rfl, _⟩ := h
    rfl
  obtain ⟨v, n, rfl, t, k⟩ := h
  refine ⟨_, pss_one (ps_ret (pe_and (pe_callB call_isi rfl (T.f "isinstance") (by decide +kernel) (pa_cons (pv 0) (pa_cons (pe_bltn (v := .ty "int") rfl (T.f "int") (by decide +kernel) rfl) pa_nil)))
    (pe_one (pe_not (pe_callB call_isi rfl (T.f "isinstance") (by decide +kernel) (pa_cons (pv 0) (pa_cons (pe_bltn (v := .ty "bool") rfl (T.f "bool") (by decide +kernel) rfl) pa_nil))))))), ?_⟩
  refine ⟨_, rfl, v, .ty "int", .type n, .type "int", _, rfl, .ty _, t.ty, t.kInt, _, rfl, ?_⟩
  refine ite2 (fun h => ?_) (fun h => ?_)
  · refine ⟨_, rfl, v, .ty "bool", .type n, .type "bool", _, rfl, .ty _, t.ty, t.kBool, _, rfl, ?_⟩
    have e : (!isB v) = isI v := by cases t <;> first | rfl | cases h
    rw [e]
    exact k
  · have e : isI v = false := by cases t <;> first | rfl | exact absurd rfl h
    rw [e] at k
    exact k
theorem scLInt : FnScope ["_law_thing"] ["_law_thing"] (defScope sLInt) := ⟨rfl, rfl, rfl, by decide +kernel, rfl, by decide +kernel, by decide +kernel⟩
theorem ok_lInt {fd : FuncData} (T : Txt K mg) (F : FnG K "_law_is_integer" sLInt fd) : FnOk P w K mg base CX0 1 (ga K "_law_is_integer") fd ["_law_thing"] spIsInt := by
  refine F.ok scLInt (fun vs H Q E h => ?_) (fun cdv A outer s H vs Q E hr h => ?_)
  · obtain ⟨v, n, rfl, _⟩ := h
    rfl
  obtain ⟨v, n, rfl, t, k⟩ := h
  refine ⟨_, pss_one (ps_ret (pe_and (pe_callB call_isi rfl (T.f "isinstance") (by decide +kernel) (pa_cons (pv 0) (pa_cons (pe_bltn (v := .ty "int") rfl (T.f "int") (by decide +kernel) rfl) pa_nil)))
    (pe_one (pe_not (pe_callB call_isi rfl (T.f "isinstance") (by decide +kernel) (pa_cons (pv 0) (pa_cons (pe_bltn (v := .ty "bool") rfl (T.f "bool") (by decide +kernel) rfl) pa_nil))))))), ?_⟩
  refine ⟨_, rfl, v, .ty "int", .type n, .type "int", _, rfl, .ty _, t.ty, t.kInt, _, rfl, ?_⟩
  refine ite2 (fun h => ?_) (fun h => ?_)
  · refine ⟨_, rfl, v, .ty "bool", .type n, .type "bool", _, rfl, .ty _, t.ty, t.kBool, _, rfl, ?_⟩
    have e : (!isB v) = isI v := by cases t <;> first | rfl | cases h
    rw [e]
    exact k
  · have e : isI v = false := by cases t <;> first | rfl | exact absurd rfl h
    rw [e] at k
    exact k
end
end K2
set_option Elab.async false
set_option linter.all false
set_option maxRecDepth 100000
set_option maxHeartbeats 2000000
namespace Sw
open PySem PySem.Spec PyProof.Rows L2
/-- [f(c) for c in z], the element changes nothing -/
theorem lc_mapS {i : Nat} {z : Str} {f : Nat → V} {te : TE} {σ : L2.St} {H1 : Hp} {D : Addr} {Qd : Hp → Prop} (hz : z.length ≤ 1000)
    (ht : ∀ (c : Nat) (H : Hp) (Q : VK), Q (f c) H → te ((wipe σ [i]).set i (some (.str ⟨#[c]⟩))) H Q) (hd : Qd (upd H1 D (.lst (z.cps.toList.map f)))) :
    ∃ W : Nat → Nat → Hp → Prop, (∃ m, W 0 m (upd H1 D (.lst []))) ∧ ∀ j m H, W j m H →
      ((Its z).stop j H ∧ Qd H) ∨ ((Its z).go j H ∧ ∃ Nx : Hp → Prop, (∀ H', Nx H' → ∃ m', m' < m ∧ W (j + 1) m' H') ∧ ∀ x H', (Its z).yld j H x H' → gName i x (wipe σ [i]) H' fun σ2 H2 => wipe σ2 [i] = wipe σ [i] ∧ tYes σ2 H2 fun b H3 =>
        if b = true then te σ2 H3 fun y H4 => ∃ acc, H4 D = some (.lst acc) ∧ acc.length < sizeLine ∧ Nx (upd H4 D (.lst (acc ++ [y]))) else Nx H3) := by
  have hsz : z.cps.size ≤ 1000 := hz
  have updd : ∀ (o o' : HO), upd (upd H1 D o) D o' = upd H1 D o' := fun o o' => by
    funext b
    by_cases hb : b = D
    · rw [hb, upd_same, upd_same]
    · rw [upd_ne hb, upd_ne hb, upd_ne hb]
  refine lc_it walk_str (fun j H => H = upd H1 D (.lst ((z.cps.toList.take j).map f))) (by simp) (fun _ _ _ _ => trivial) ?_ ?_
  · rintro j x H H' hj rfl ⟨rfl, c, hc, rfl⟩
    have hc2 : z.cps.toList[j]? = some c := by rw [Array.getElem?_toList]; exact hc
    refine ⟨by simp [wipe], ?_⟩
    refine ht c (upd H1 D (.lst ((z.cps.toList.take j).map f))) _ ⟨_, upd_same, ?_, ?_⟩
    · rw [List.length_map, List.length_take, sizeLine_eq]
      omega
    · show upd (upd H1 D _) D _ = _
      rw [updd, List.take_add_one, hc2]
      simp
  · rintro H rfl
    have e : z.cps.toList.take z.cps.size = z.cps.toList := List.take_of_length_le (by simp)
    rw [e]
    exact hd
end Sw
namespace K2
open PySem PySem.Spec PyProof.Rows L2 He Sw
section
variable {P : Program} {w : World} {K : PySem.W.Frag} {mg : Str → Option Value} {base : Heap}
abbrev LET : Str := "abcdefghijklmnopqrstuvwxyz"
/-- a text of small letters alone -/
def low (z : Str) : Bool := z.cps.toList.all fun c => decide (c ∈ LET.cps.toList)
def isNmS (z : Str) : Bool := decide ((1 : Int) ≤ (z.length : Nat)) && (decide (((z.length : Nat) : Int) ≤ 8) && (!inV (.str z) (noNames.map V.str) && low z))
def isNm : V → Bool
  | .str z => isNmS z
  | _ => false
def spIsName : Sp := fun vs H Q _ => ∃ (v : V) (n : String), vs = [v] ∧ Th H v n ∧ ∀ H', Same H H' → Q (.bl (isNm v)) H'
theorem scIsName : FnScope ["thing", "letter"] ["thing"] (defScope sIsName) := ⟨rfl, rfl, rfl, by decide +kernel, rfl, by decide +kernel, by decide +kernel⟩
theorem noN_flat : (noNames.map V.str).all flatV = true := rfl
theorem ok_isName {fd : FuncData} (T : Txt K mg) (F : FnG K "is_name" sIsName fd) : FnOk P w K mg base CX0 1 (ga K "is_name") fd ["thing"] spIsName := by
  refine F.ok scIsName (fun vs H Q E h => ?_) (fun cdv A outer s H vs Q E hr h => ?_)
  · obtain ⟨v, n, rfl, _⟩ := h
    rfl
  obtain ⟨v, n, rfl, t, k⟩ := h
  obtain ⟨tL, hL⟩ := T.let_
  obtain ⟨t8, h8⟩ := T.mLet
  have nd := scIsName.nd
  refine ⟨_, PSs.nox (pss_cons (ps_if (PW.pt (pw_or (pt_not (pt_val (pe_callB call_isi rfl (T.f "isinstance") (by decide +kernel) (pa_cons (pv 0) (pa_cons (pe_bltn (v := .ty "str") rfl (T.f "str") (by decide +kernel) rfl) pa_nil)))))
      (pw_or1 (pt_not (pt_chain op_le op_le pe_int (pe_callB call_len_str rfl (T.f "len") (by decide +kernel) (pa_cons (pv 0) pa_nil)) (pe_glob (v := .int 8) rfl h8 ⟨_, rfl⟩))))))
      (pss_one (ps_ret pe_bl)) pss_nil)
    (pss_one (ps_ret (pe_and (pe_cmpR op_notIn_seq (pv 0) (pe_glob (v := .ref (ga K "NO_NAMES")) rfl (T.g "NO_NAMES") rfl) rfl)
      (pe_one (pe_callB (cr_all rfl) rfl (T.f "all") (by decide +kernel) (pa_cons (pe_lc (own := [("letter", 1)]) (g := gName 1) (tt := tYes) rfl nd (pi_str (pv 0))
        (blkOk_by (N := ["thing", "letter"]) (sc := defScope sIsName) (by decide +kernel)) (fun _ _ _ _ _ => pg_name (i := 1) nd rfl (Or.inl rfl)) (fun _ _ _ _ _ => pts_nil)
        (fun _ _ _ _ _ => pe_cmpR op_in_sign (pv 1) (pe_glob (v := .str LET) rfl hL ⟨_, rfl⟩) rfl)) pa_nil))))))), ?_⟩
  refine ⟨_, rfl, v, .ty "str", .type n, .type "str", _, rfl, .ty _, t.ty, t.kStr, _, rfl, ?_⟩
  refine ite2 (fun h => ?_) (fun h => ?_)
  · -- no text
    refine ite2 (fun _ => ?_) (fun h2 => absurd rfl h2)
    have e : isNm v = false := by cases t <;> first | rfl | cases h
    have q := k H (Same.refl H)
    rw [e] at q
    exact q
  · obtain ⟨z, rfl, hz⟩ : ∃ z, v = V.str z ∧ z.length ≤ 100 := by
      cases t <;> first | exact absurd rfl h | skip
      rename_i z hz
      exact ⟨z, rfl, hz⟩
    refine ⟨_, rfl, z, rfl, (by rw [sizeLine_eq]; omega), _, _, rfl, rfl, _, rfl, ?_⟩
    have fin : ∀ (b : Bool), b = isNmS z → ∀ H', Same H H' → Q (.bl b) H' := fun b e H' s => by
      rw [e]
      exact k H' s
    have back : ∀ h1 : ¬ ((decide ((1 : Int) ≤ (z.length : Nat)) && decide (((z.length : Nat) : Int) ≤ 8)) = true), isNmS z = false := fun h1 => by
      unfold isNmS
      rw [← Bool.and_assoc, Bool.eq_false_iff.mpr h1, Bool.false_and]
    -- 1 <= len(thing) <= MOST_LETTERS
    have rest : (decide ((1 : Int) ≤ (z.length : Nat)) && decide (((z.length : Nat) : Int) ≤ 8)) = true → tAndV (tOp (rIn K true) (tVar 0) (tC (V.ref (ga K "NO_NAMES")))) (tCB (rAll K) (tCons (tLc (iStr (tVar 0)) (gName 1) tYes
        (tOp (fun x y H Q => ∃ c z, x = V.str { cps := #[c] } ∧ y = V.str z ∧ Q (V.bl (decide (c ∈ z.cps.toList))) H) (tVar 1) (tC (V.str LET))) [1]) tNil)) (L2.start ["thing", "letter"] [V.str z]) H Q := fun h1 => by
      have e1 : isNmS z = (!inV (.str z) (noNames.map V.str) && low z) := by
        unfold isNmS
        rw [← Bool.and_assoc, h1, Bool.true_and]
      refine ⟨_, rfl, _, _, rfl, .inr (T.noN H), rfl, noN_flat, _, rfl, ?_⟩
      refine ite2 (fun h2 => ?_) (fun h2 => ?_)
      · refine ⟨_, rfl, z, rfl, fun D hD => ?_⟩
        refine lc_mapS (f := fun c => V.bl (decide (c ∈ LET.cps.toList))) (by omega) (fun c H Q q => ⟨_, rfl, c, _, rfl, rfl, q⟩) ?_
        refine ⟨D, z.cps.toList.map fun c => decide (c ∈ LET.cps.toList), rfl, .inl (.inl ?_), ?_⟩
        · rw [upd_same, List.map_map]
          rfl
        · refine fin _ ?_ _ fun b o e => by rw [upd_ne (ne_of_none e hD)]; exact e
          rw [e1, show (!inV (.str z) (noNames.map V.str)) = true from h2, Bool.true_and, List.all_map]
          rfl
      · refine fin false ?_ H (Same.refl H)
        rw [e1, show (!inV (.str z) (noNames.map V.str)) = false from Bool.eq_false_iff.mpr h2, Bool.false_and]
    refine ite2 (fun h1 => ?_) (fun h1 => ?_)
    · refine ⟨_, _, rfl, rfl, _, rfl, ?_⟩
      refine ite2 (fun h2 => ?_) (fun h2 => ?_)
      · refine fin false (back fun y => ?_).symm H (Same.refl H)
        have y2 := (Bool.and_eq_true_iff.mp y).2
        rw [y2] at h2
        cases h2
      · refine rest ?_
        have h2' : decide (((z.length : Nat) : Int) ≤ 8) = true := by
          cases e : decide (((z.length : Nat) : Int) ≤ 8) with
          | true => rfl
          | false => exact absurd (by show (!decide (((z.length : Nat) : Int) ≤ 8)) = true; rw [e]; rfl) h2
        rw [h1, h2']
        rfl
    · refine ⟨_, rfl, ?_⟩
      refine ite2 (fun h2 => ?_) (fun h2 => absurd rfl h2)
      refine fin false (back fun y => h1 (Bool.and_eq_true_iff.mp y).1).symm H (Same.refl H)
end
end K2
set_option Elab.async false
set_option linter.all false
set_option maxRecDepth 100000
set_option maxHeartbeats 2000000
namespace Sw
open PySem PySem.Spec PyProof.Rows L2
/-- behind C(v) of such an error class: its dict, all else as it was -/
theorem err_made {K : PySem.W.Frag} {C : Addr} {v : V} {H : Hp} {W : XK} {E : XK} (T : ErrC K C) (k : ∀ H' d, Same H H' → H d = none → H' d = some (.xd [("value", v)]) → W (.ref C) (some d) H') :
    ∀ a, H a = none → spEInit K [.ref a, v] (upd H a (exo a C none)) (fun r H2 => r = .non ∧ ∃ (d : Addr) (fs : List (Str × V)), H2 a = some (exo a C (some d)) ∧ H2 d = some (exd d fs) ∧ H d = none ∧ W (.ref C) (some d) (upd (del H2 a) d (.xd fs))) E := by
  intro a ha
  refine ⟨a, C, v, rfl, upd_same, T, fun dx h1 h2 => ⟨rfl, dx, _, upd_same, by rw [upd_ne h2, upd_same], by rw [upd_ne h2] at h1; exact h1, ?_⟩⟩
  rw [upd_ne h2] at h1
  refine k _ dx (fun b o e => ?_) h1 upd_same
  rw [upd_ne (ne_of_none e h1), del_ne (ne_of_none e ha), upd_ne (ne_of_none e ha), upd_ne (ne_of_none e h1), upd_ne (ne_of_none e ha)]
  exact e
end Sw
namespace K2
open PySem PySem.Spec PyProof.Rows L2 He Sw
section
variable {P : Program} {w : World} {K : PySem.W.Frag} {mg : Str → Option Value} {base : Heap}
/-! ### check_name -/
def spCkName (K : PySem.W.Frag) : Sp := fun vs H Q E => ∃ (v : V) (n : String), vs = [v] ∧ Th H v n ∧ (isNm v = true → ∀ H', Same H H' → Q .non H') ∧
  (isNm v = false → ∀ H' d, Same H H' → H d = none → H' d = some (.xd [("value", v)]) → E (.ref (ga K "BadName")) (some d) H')
theorem scCkName : FnScope ["thing"] ["thing"] (defScope sCkName) := ⟨rfl, rfl, rfl, by decide +kernel, rfl, by decide +kernel, by decide +kernel⟩
theorem ok_ckName {fd fdN fdB fdS : FuncData} (T : Txt K mg) (F : FnG K "check_name" sCkName fd) (FN : FnG K "is_name" sIsName fdN) (FB : FnM K "BadName" "BadName.__init__" sBName [] fdB) (FS : FnM K "SameError" "SameError.__init__" sSE [.non] fdS) :
    FnOk P w K mg base (L2N.CX P w) 4 (ga K "check_name") fd ["thing"] (spCkName K) := by
  have GN : FnOk P w K mg base CX0 1 (ga K "is_name") fdN ["thing"] spIsName := ok_isName T FN
  have GB : FnOk P w K mg base CX0 2 (ma K (ga K "BadName") "__init__") fdB ["self", "value"] (spEInit K) := ok_BName T FB FS
  have bN : Binds K fdN ["thing"] [] := FN.bindsN fun _ _ _ _ _ _ us hl => match us, hl with | [_], _ => rfl
  have bB : Binds K fdB ["self", "value"] [] := FB.bindsN fun _ _ _ _ _ _ us hl => match us, hl with | [_, _], _ => rfl
  have TB := T.err "BadName" (by decide +kernel)
  refine F.ok scCkName (fun vs H Q E h => ?_) (fun cdv A outer s H vs Q E hr h => ?_)
  · obtain ⟨v, n, rfl, _⟩ := h
    rfl
  obtain ⟨v, n, rfl, t, k1, k2⟩ := h
  refine ⟨_, pss_one (ps_if (pt_not (pt_val (pe_call GN (hr.mono (by decide)) rfl (T.g "is_name") FN.kp bN .nil pass0 (pa_cons (pv 0) pa_nil))))
    (pss_one (L2N.ps_raise rfl (L2N.takes_of rfl rfl rfl rfl) (pmkN_oex (x := "BadName") TB.o TB.ini TB.inT GB hr bB .nil pass0 rfl (T.g "BadName") (pa_cons (pv 0) pa_nil)))) pss_nil), ?_⟩
  refine ⟨_, rfl, v, n, rfl, t, fun H' s' => ⟨_, rfl, ?_⟩⟩
  refine ite2 (fun h => ?_) (fun h => ?_)
  · have e : isNm v = false := by
      cases e : isNm v with
      | false => rfl
      | true =>
        have h2 : (!isNm v) = true := h
        rw [e] at h2
        cases h2
    refine ⟨_, rfl, by show 1 ≤ 1000; decide, err_made TB fun H2 d s2 hd hx => ?_⟩
    exact k2 e H2 d (s'.trans s2) (s'.free hd) hx
  · have e : isNm v = true := by
      cases e : isNm v with
      | true => rfl
      | false => exact absurd (by show (!isNm v) = true; rw [e]; rfl) h
    exact k1 e H' s'

/-! ### Formula.__init__, of nothing within -/

end
end K2
set_option Elab.async false
set_option linter.all false
set_option maxRecDepth 100000
set_option maxHeartbeats 4000000
namespace Sw
open PySem PySem.Spec PyProof.Rows L2
theorem err_made0 {K : PySem.W.Frag} {C : Addr} {H : Hp} {W : XK} {E : XK} (T : ErrC K C) (k : ∀ H' d, Same H H' → H d = none → H' d = some (.xd [("value", .non)]) → W (.ref C) (some d) H') :
    ∀ a, H a = none → K2.spEInit0 K [.ref a] (upd H a (exo a C none)) (fun r H2 => r = .non ∧ ∃ (d : Addr) (fs : List (Str × V)), H2 a = some (exo a C (some d)) ∧ H2 d = some (exd d fs) ∧ H d = none ∧ W (.ref C) (some d) (upd (del H2 a) d (.xd fs))) E := by
  intro a ha
  refine ⟨a, C, rfl, upd_same, T, fun dx h1 h2 => ⟨rfl, dx, _, upd_same, by rw [upd_ne h2, upd_same], by rw [upd_ne h2] at h1; exact h1, ?_⟩⟩
  rw [upd_ne h2] at h1
  refine k _ dx (fun b o e => ?_) h1 upd_same
  rw [upd_ne (ne_of_none e h1), del_ne (ne_of_none e ha), upd_ne (ne_of_none e ha), upd_ne (ne_of_none e h1), upd_ne (ne_of_none e ha)]
  exact e
end Sw
namespace K2
open PySem PySem.Spec PyProof.Rows L2 He Sw
section
variable {P : Program} {w : World} {K : PySem.W.Frag} {mg : Str → Option Value} {base : Heap}
/-! ### Formula.__init__ -/
def flds (kd th : V) (p d : Nat) : List (Str × V) := putF "depth" (.int d) (putF "parts" (.int p) (putF "things" th (putF "kind" kd [])))
/-- all but the object at a is as it was -/
def SameBut (a : Addr) (H H' : Hp) : Prop := ∀ b o, b ≠ a → H b = some o → H' b = some o
/-- a formula within another one: where it stands, its depth, parts and indexes -/
structure Kd where
  a : Addr
  d : Nat
  p : Nat
  ix : List Str
def sumP (ks : List Kd) : Nat := (ks.map (·.p)).sum
def maxD : List Kd → Nat
  | [] => 0
  | k :: ks => max k.d (maxD ks)
def KidAt (K : PySem.W.Frag) (H : Hp) (k : Kd) : Prop := ∃ (C dx : Addr) (kd th : V), InsT K C ∧ H k.a = some (.ins C dx (flds kd th k.p k.d))
theorem KidAt.same {H H' : Hp} {k : Kd} (h : KidAt K H k) (s : Same H H') : KidAt K H' k := by
  obtain ⟨C, dx, kd, th, I, e⟩ := h
  exact ⟨C, dx, kd, th, I, s _ _ e⟩
def refs (ks : List Kd) : List V := ks.map fun k => V.ref k.a
def spForm (K : PySem.W.Frag) : Sp := fun vs H Q E => ∃ (a C dx e : Addr) (kd th : V) (ks : List Kd), vs = [.ref a, kd, th, .ref e] ∧ H a = some (.ins C dx []) ∧ InsT K C ∧ H e = some (.tup (refs ks)) ∧ (∀ k ∈ ks, KidAt K H k) ∧ ks.length ≤ 10 ∧
  ((1 + sumP ks ≤ 300 ∧ 1 + maxD ks ≤ 40) → ∀ H', SameBut a H H' → H' a = some (.ins C dx (flds kd th (1 + sumP ks) (1 + maxD ks))) → Q .non H') ∧
  (¬ (1 + sumP ks ≤ 300 ∧ 1 + maxD ks ≤ 40) → ∀ H' d, Same H H' → H d = none → H' d = some (.xd [("value", .non)]) → E (.ref (ga K "TooMany")) (some d) H')
theorem scForm : FnScope ["self", "kind", "things", "inner", "parts", "depth", "one"] ["self", "kind", "things", "inner"] (defScope sForm) := ⟨rfl, rfl, rfl, by decide +kernel, rfl, by decide +kernel, by decide +kernel⟩
/-- [one.f for one in inner] -/
theorem lc_kids {ks : List Kd} {f : Str} {g : Kd → Nat} {i : Nat} {e : Addr} {H D : _} {σ : L2.St} {Qd : Hp → Prop} (he : H e = some (.tup (refs ks))) (hk : ∀ k ∈ ks, KidAt K H k) (hl : ks.length ≤ 10) (hD : H D = none) (hf : f ∈ fldL)
    (hg : ∀ kd th (k : Kd), (flds kd th k.p k.d).lookup f = some (.int (g k))) (hi : ∀ v : V, ((wipe σ [i]).set i (some v))[i]? = some (some v)) (hw : ∀ v : V, wipe ((wipe σ [i]).set i (some v)) [i] = wipe σ [i]) (hd : ∀ H', H' D = some (.lst ((ks.map fun k => ((g k : Nat) : Int)).map V.int)) → Same H H' → Qd H') :
    ∃ W : Nat → Nat → Hp → Prop, (∃ m, W 0 m (upd H D (.lst []))) ∧ ∀ j m H, W j m H →
      ((Itt K e).stop j H ∧ Qd H) ∨ ((Itt K e).go j H ∧ ∃ Nx : Hp → Prop, (∀ H', Nx H' → ∃ m', m' < m ∧ W (j + 1) m' H') ∧ ∀ x H', (Itt K e).yld j H x H' → gName i x (wipe σ [i]) H' fun σ2 H2 => wipe σ2 [i] = wipe σ [i] ∧ tYes σ2 H2 fun b H3 =>
        if b = true then tFld K (tVar i) f σ2 H3 fun y H4 => ∃ acc, H4 D = some (.lst acc) ∧ acc.length < sizeLine ∧ Nx (upd H4 D (.lst (acc ++ [y]))) else Nx H3) := by
  have updd : ∀ (o o' : HO), upd (upd H D o) D o' = upd H D o' := fun o o' => by
    funext b
    by_cases hb : b = D
    · rw [hb, upd_same, upd_same]
    · rw [upd_ne hb, upd_ne hb, upd_ne hb]
  have up : ∀ {o}, Same H (upd H D o) := fun {o} b u e => by rw [upd_ne (ne_of_none e hD)]; exact e
  refine lc_tup (K := K) (a := e) (xs := refs ks) (fun j H' => H' = upd H D (.lst ((ks.take j).map fun k => .int (g k)))) (by simp) (fun j H' _ eH => by rw [eH]; exact SqT.of (up _ _ he)) (fun j x H' hx eH => ?_) (fun H' eH => ?_)
  · subst eH
    obtain ⟨k, hkj, rfl⟩ : ∃ k, ks[j]? = some k ∧ V.ref k.a = x := by
      unfold refs at hx
      rw [List.getElem?_map] at hx
      cases h : ks[j]? with
      | none => rw [h] at hx; cases hx
      | some k => rw [h] at hx; exact ⟨k, rfl, by injection hx⟩
    obtain ⟨C, dx, kd, th, I, ek⟩ := hk k (List.mem_of_getElem? hkj)
    refine ⟨hw _, ?_⟩
    refine ⟨_, hi _, k.a, C, dx, _, _, rfl, up _ _ ek, I.cl, I.no f hf, hg kd th k, _, upd_same, ?_, ?_⟩
    · rw [List.length_map, List.length_take, sizeLine_eq]
      omega
    · show upd (upd H D _) D _ = _
      rw [updd, List.take_add_one, hkj]
      simp
  · subst eH
    have e2 : ks.take (refs ks).length = ks := List.take_of_length_le (by simp [refs])
    rw [e2]
    exact hd _ (by rw [upd_same, List.map_map]; rfl) up
end
end K2
set_option Elab.async false
set_option linter.all false
set_option maxRecDepth 100000
set_option maxHeartbeats 4000000
namespace K2
open PySem PySem.Spec PyProof.Rows L2 He Sw
section
variable {P : Program} {w : World} {K : PySem.W.Frag} {mg : Str → Option Value} {base : Heap}
theorem maxD_ge : ∀ {ks : List Kd} {k : Kd}, k ∈ ks → k.d ≤ maxD ks
  | q :: qs, k, h => by
    rcases List.mem_cons.mp h with rfl | h
    · exact Nat.le_max_left _ _
    · exact Nat.le_trans (maxD_ge h) (Nat.le_max_right _ _)
theorem maxD_mem : ∀ {ks : List Kd}, ks ≠ [] → ∃ k ∈ ks, k.d = maxD ks
  | [q], _ => ⟨q, List.mem_cons_self, by show q.d = max q.d 0; omega⟩
  | q :: r :: qs, _ => by
    obtain ⟨k, hk, e⟩ := maxD_mem (ks := r :: qs) (by simp)
    by_cases h : maxD (r :: qs) ≤ q.d
    · exact ⟨q, List.mem_cons_self, by show q.d = max q.d (maxD (r :: qs)); omega⟩
    · exact ⟨k, List.mem_cons_of_mem _ hk, by show k.d = max q.d (maxD (r :: qs)); omega⟩
theorem sum_int : ∀ ks : List Kd, (ks.map fun k => (k.p : Int)).sum = (sumP ks : Nat)
  | [] => rfl
  | k :: ks => by
    have e := sum_int ks
    show (k.p : Int) + (ks.map fun k => (k.p : Int)).sum = ((k.p + sumP ks : Nat) : Int)
    omega
theorem max_kids {ks : List Kd} {G : Int → Prop} (q : G (maxD ks : Nat)) : (∀ m, m ∈ (ks.map fun k => (k.d : Int)) → (∀ y, y ∈ (ks.map fun k => (k.d : Int)) → y ≤ m) → G m) ∧ ((ks.map fun k => (k.d : Int)) = [] → G 0) := by
  refine ⟨fun m hm hy => ?_, fun h => ?_⟩
  · obtain ⟨k, hk, rfl⟩ := List.mem_map.mp hm
    have h1 := maxD_ge hk
    obtain ⟨k', hk', e'⟩ := maxD_mem (ks := ks) (fun z => by rw [z] at hk; cases hk)
    have h2 := hy _ (List.mem_map.mpr ⟨k', hk', rfl⟩)
    have e3 : k.d = maxD ks := by omega
    rw [e3]
    exact q
  · have e0 : ks = [] := List.map_eq_nil_iff.mp h
    subst e0
    exact q
theorem ok_form {fd fdM fdS : FuncData} (T : Txt K mg) (F : FnM K "Formula" "Formula.__init__" sForm [] fd) (FM : FnM K "TooMany" "TooMany.__init__" sMany [] fdM) (FS : FnM K "SameError" "SameError.__init__" sSE [.non] fdS) :
    FnOk P w K mg base (L2N.CX P w) 4 (ma K (ga K "Formula") "__init__") fd ["self", "kind", "things", "inner"] (spForm K) := by
  have GM : FnOk P w K mg base CX0 2 (ma K (ga K "TooMany") "__init__") fdM ["self"] (spEInit0 K) := ok_Many T FM FS
  have bM : Binds K fdM ["self"] [] := FM.bindsN fun _ _ _ _ _ _ us hl => match us, hl with | [_], _ => rfl
  have TB := T.err "TooMany" (by decide +kernel)
  refine F.ok scForm (fun vs H Q E h => ?_) (fun cdv A outer s H vs Q E hr h => ?_)
  · obtain ⟨a, C, dx, e, kd, th, ks, rfl, _⟩ := h
    rfl
  obtain ⟨a, C, dx, e, kd, th, ks, rfl, ha, TC, he, hk, hl, k1, k2⟩ := h
  obtain ⟨tP, hP⟩ := T.mPar
  obtain ⟨tD, hD⟩ := T.mDep
  have nd := scForm.nd
  refine ⟨_, pss_cons (ps_set (i := 4) nd rfl (Or.inl rfl) (pe_op op_add pe_int (pe_callB (cr_sum rfl) rfl (T.f "sum") (by decide +kernel) (pa_cons (pe_lc (own := [("one", 6)]) (te := tFld K (tVar 6) "parts") (g := gName 6) (tt := tYes) rfl nd (pi_tup (pv 3))
        (blkOk_by (N := ["self", "kind", "things", "inner", "parts", "depth", "one"]) (sc := defScope sForm) (by decide +kernel)) (fun _ _ _ _ _ => pg_name (i := 6) nd rfl (Or.inl rfl)) (fun _ _ _ _ _ => pts_nil)
        (fun _ _ _ _ _ => pe_fld (pv 6) rfl)) pa_nil))))
    (pss_cons (ps_set (i := 5) nd rfl (Or.inl rfl) (pe_op op_add pe_int (pe_callBK (crk_max rfl) rfl (T.f "max") (by decide +kernel) (pa_cons (pe_lc (own := [("one", 6)]) (te := tFld K (tVar 6) "depth") (g := gName 6) (tt := tYes) rfl nd (pi_tup (pv 3))
        (blkOk_by (N := ["self", "kind", "things", "inner", "parts", "depth", "one"]) (sc := defScope sForm) (by decide +kernel)) (fun _ _ _ _ _ => pg_name (i := 6) nd rfl (Or.inl rfl)) (fun _ _ _ _ _ => pts_nil)
        (fun _ _ _ _ _ => pe_fld (pv 6) rfl)) pa_nil) (pk_cons pe_int pk_nil))))
    (pss_cons (ps_if (PW.pt (pw_or (pt_cmpR op_gt (pv 4) (pe_glob (v := .int 300) rfl hP ⟨_, rfl⟩) (nomark _)) (pw_or1 (pt_cmpR op_gt (pv 5) (pe_glob (v := .int 40) rfl hD ⟨_, rfl⟩) (nomark _)))))
      (pss_one (L2N.ps_raise rfl (L2N.takes_of rfl rfl rfl rfl) (pmkN_oex0 (x := "TooMany") TB.o TB.ini TB.inT GM hr bM pass0 rfl (T.g "TooMany")))) pss_nil)
    (pss_cons (ps_fld (pv 0) (pv 1) rfl) (pss_cons (ps_fld (pv 0) (pv 2) rfl) (pss_cons (ps_fld (pv 0) (pv 4) rfl) (pss_one (ps_fld (pv 0) (pv 5) rfl))))))), ?_⟩
  have no : ∀ f ∈ fldL, NoAttr K C f := TC.no
  -- parts = 1 + sum([..])
  refine ⟨_, rfl, e, rfl, ⟨_, .inl (.inl he)⟩, fun D hDn => ?_⟩
  refine lc_kids (g := fun k => k.p) he hk hl hDn (by decide +kernel) (fun _ _ _ => rfl) (fun _ => rfl) (fun _ => rfl) (fun H1 e1 s1 => ?_)
  refine ⟨D, ks.map fun k => (k.p : Int), rfl, SqL.of e1, _, _, rfl, rfl, ?_⟩
  rw [sum_int]
  -- depth = 1 + max([..], default=0)
  refine ⟨_, rfl, e, rfl, ⟨_, .inl (.inl (s1 _ _ he))⟩, fun D2 hD2 => ?_⟩
  refine lc_kids (g := fun k => k.d) (s1 _ _ he) (fun k hk' => (hk k hk').same s1) hl hD2 (by decide +kernel) (fun _ _ _ => rfl) (fun _ => rfl) (fun _ => rfl) (fun H2 e2 s2 => ?_)
  have s02 := s1.trans s2
  refine ⟨D2, ks.map fun k => (k.d : Int), .int 0, rfl, rfl, SqL.of e2, And.symm (max_kids ?_)⟩
  refine ⟨_, _, rfl, rfl, ?_⟩
  have done : (1 + sumP ks ≤ 300 ∧ 1 + maxD ks ≤ 40) → ∀ H', SameBut a H H' → H' a = some (.ins C dx (putF "depth" (.int (1 + (maxD ks : Nat))) (putF "parts" (.int (1 + (sumP ks : Nat))) (putF "things" th (putF "kind" kd []))))) → Q .non H' := by
    intro g H' sb e'
    refine k1 g H' sb ?_
    rw [e']
    unfold flds
    rw [Int.natCast_add, Int.natCast_add]
    rfl
  -- neither is too great
  refine ⟨_, rfl, _, _, rfl, rfl, _, rfl, ?_⟩
  refine ite2 (fun h => ?_) (fun h => ?_)
  · refine ite2 (fun _ => ?_) (fun h2 => absurd rfl h2)
    have h : (300 : Int) < 1 + (sumP ks : Nat) := of_decide_eq_true h
    exact ⟨by show 0 ≤ 1000; decide, err_made0 TB fun H3 d s3 hd hx => k2 (by omega) H3 d (s02.trans s3) (s02.free hd) hx⟩
  have h : ¬ ((300 : Int) < 1 + (sumP ks : Nat)) := fun z => h (decide_eq_true z)
  refine ⟨_, rfl, _, _, rfl, rfl, _, rfl, ?_⟩
  refine ite2 (fun h4 => ?_) (fun h4 => ?_)
  · have h4 : (40 : Int) < 1 + (maxD ks : Nat) := of_decide_eq_true h4
    exact ⟨by show 0 ≤ 1000; decide, err_made0 TB fun H3 d s3 hd hx => k2 (by omega) H3 d (s02.trans s3) (s02.free hd) hx⟩
  have h4 : ¬ ((40 : Int) < 1 + (maxD ks : Nat)) := fun z => h4 (decide_eq_true z)
  have ha2 := s02 _ _ ha
  -- the fields
  refine ⟨_, rfl, _, rfl, a, C, dx, _, rfl, ha2, TC.cl, no _ (by decide +kernel), (by show 0 < 1000; decide), ?_⟩
  refine ⟨_, rfl, _, rfl, a, C, dx, _, rfl, upd_same, TC.cl, no _ (by decide +kernel), (by show 1 < 1000; decide), ?_⟩
  refine ⟨_, rfl, _, rfl, a, C, dx, _, rfl, upd_same, TC.cl, no _ (by decide +kernel), (by show 2 < 1000; decide), ?_⟩
  refine ⟨_, rfl, _, rfl, a, C, dx, _, rfl, upd_same, TC.cl, no _ (by decide +kernel), (by show 3 < 1000; decide), ?_⟩
  refine done (by omega) _ (fun b o hb q => ?_) upd_same
  rw [upd_ne hb, upd_ne hb, upd_ne hb, upd_ne hb]
  exact s02 _ _ q
end
end K2
set_option Elab.async false
set_option linter.all false
set_option maxRecDepth 100000
set_option maxHeartbeats 4000000
namespace K2
open PySem PySem.Spec PyProof.Rows L2 He Sw
section
variable {P : Program} {w : World} {K : PySem.W.Frag} {mg : Str → Option Value} {base : Heap}
/-! ### formulas in the heap -/
def FC (K : PySem.W.Frag) (C : Addr) : Prop := ∃ x ∈ clsL, C = ga K x
theorem FC.ins {C : Addr} (h : FC K C) (T : Txt K mg) : InsT K C := by
  obtain ⟨x, hx, rfl⟩ := h
  exact T.ins x hx
def adrs (ks : List Kd) : List V := ks.map fun k => V.ref k.a
/-- kind and things, the formulas within, the index of its own -/
inductive Shp (H : Hp) : Str → Addr → List V → List Str → Prop
  | leaf {kd : Str} {t : Addr} (h : kd = "number" ∨ kd = "name") : Shp H kd t [] []
  | seq {kd : Str} {t : Addr} {as : List V} (h : kd = "plus" ∨ kd = "minus" ∨ kd = "times" ∨ kd = "negative") (e : H t = some (.tup as)) : Shp H kd t as []
  | shift {t : Addr} {a : V} {n : Int} (e : H t = some (.tup [a, .int n])) : Shp H "shift" t [a] []
  | sum {t : Addr} {i : Str} {b a : V} (e : H t = some (.tup [.str i, b, a])) : Shp H "sum" t [a] [i]
  | call {t u : Addr} {nm : V} {as : List V} (e : H t = some (.tup [nm, .ref u])) (e2 : H u = some (.tup as)) : Shp H "call" t as []
theorem Shp.same {H H' : Hp} {kd : Str} {t : Addr} {as : List V} {own : List Str} (h : Shp H kd t as own) (s : Same H H') : Shp H' kd t as own := by
  cases h with
  | leaf h => exact .leaf h
  | seq h e => exact .seq h (s _ _ e)
  | shift e => exact .shift (s _ _ e)
  | sum e => exact .sum (s _ _ e)
  | call e e2 => exact .call (s _ _ e) (s _ _ e2)
theorem Shp.own {H : Hp} {kd : Str} {t : Addr} {as : List V} {own : List Str} (h : Shp H kd t as own) : own.length ≤ 1 := by
  cases h <;> simp
def ixs (ks : List Kd) : List Str := (ks.map (·.ix)).flatten
def NodeAt (K : PySem.W.Frag) (H : Hp) (k : Kd) (ks : List Kd) : Prop := ∃ (C dx t : Addr) (kd : Str) (own : List Str), FC K C ∧ H k.a = some (.ins C dx (flds (.str kd) (.ref t) k.p k.d)) ∧ Shp H kd t (refs ks) own ∧
  k.p = 1 + sumP ks ∧ k.d = 1 + maxD ks ∧ k.ix = own ++ ixs ks ∧ k.p ≤ 300 ∧ k.d ≤ 40
theorem NodeAt.same {H H' : Hp} {k : Kd} {ks : List Kd} (h : NodeAt K H k ks) (s : Same H H') : NodeAt K H' k ks := by
  obtain ⟨C, dx, t, kd, own, h1, h2, h3, h4⟩ := h
  exact ⟨C, dx, t, kd, own, h1, s _ _ h2, h3.same s, h4⟩
def Fm (K : PySem.W.Frag) : Nat → Hp → Kd → Prop
  | 0, _, _ => False
  | n + 1, H, k => ∃ ks, NodeAt K H k ks ∧ ∀ q ∈ ks, Fm K n H q
theorem Fm.same : ∀ {n : Nat} {H H' : Hp} {k : Kd}, Fm K n H k → Same H H' → Fm K n H' k
  | n + 1, H, H', k, ⟨ks, h, r⟩, s => ⟨ks, h.same s, fun q hq => (r q hq).same s⟩
theorem Fm.mono : ∀ {n m : Nat} {H : Hp} {k : Kd}, Fm K n H k → n ≤ m → Fm K m H k
  | n + 1, m + 1, H, k, ⟨ks, h, r⟩, l => ⟨ks, h, fun q hq => (r q hq).mono (Nat.le_of_succ_le_succ l)⟩
abbrev FmD (K : PySem.W.Frag) (H : Hp) (k : Kd) : Prop := Fm K k.d H k
theorem FmD.of {H : Hp} {k : Kd} {ks : List Kd} (h : NodeAt K H k ks) (r : ∀ q ∈ ks, FmD K H q) : FmD K H k := by
  obtain ⟨_, _, _, _, _, _, _, _, _, hd, _⟩ := id h
  show Fm K k.d H k
  rw [hd, Nat.add_comm]
  exact ⟨ks, h, fun q hq => (r q hq).mono (maxD_ge hq)⟩
theorem Fm.node : ∀ {n : Nat} {H : Hp} {k : Kd}, Fm K n H k → ∃ ks, NodeAt K H k ks
  | n + 1, H, k, ⟨ks, h, _⟩ => ⟨ks, h⟩
theorem Fm.kid {n : Nat} {H : Hp} {k : Kd} (h : Fm K n H k) (T : Txt K mg) : KidAt K H k := by
  obtain ⟨ks, C, dx, t, kd, own, h1, h2, _⟩ := h.node
  exact ⟨C, dx, _, _, h1.ins T, h2⟩
theorem Fm.small {n : Nat} {H : Hp} {k : Kd} (h : Fm K n H k) : k.p ≤ 300 ∧ k.d ≤ 40 ∧ 1 ≤ k.p ∧ 1 ≤ k.d := by
  obtain ⟨ks, C, dx, t, kd, own, _, _, _, e1, e2, _, e3, e4⟩ := h.node
  exact ⟨e3, e4, by omega, by omega⟩
theorem ixs_len : ∀ {ks : List Kd}, (∀ q ∈ ks, q.ix.length ≤ q.p) → (ixs ks).length ≤ sumP ks
  | [], _ => Nat.le_refl _
  | k :: ks, h => by
    have h1 := h k List.mem_cons_self
    have h2 := ixs_len (ks := ks) fun q hq => h q (List.mem_cons_of_mem _ hq)
    show (k.ix ++ ixs ks).length ≤ k.p + sumP ks
    rw [List.length_append]
    omega
theorem Fm.ixLen : ∀ {n : Nat} {H : Hp} {k : Kd}, Fm K n H k → k.ix.length ≤ k.p
  | n + 1, H, k, ⟨ks, ⟨C, dx, t, kd, own, _, _, hs, e1, e2, e3, _⟩, r⟩ => by
    have h1 := ixs_len fun q hq => (r q hq).ixLen
    have h2 := hs.own
    rw [e3, List.length_append, e1]
    omega
/-- what a maker of formulas does -/
def Fits (ks : List Kd) : Prop := 1 + sumP ks ≤ 300 ∧ 1 + maxD ks ≤ 40
abbrev nd (x : Addr) (own : List Str) (ks : List Kd) : Kd := ⟨x, 1 + maxD ks, 1 + sumP ks, own ++ ixs ks⟩
def Many (K : PySem.W.Frag) (H : Hp) (E : XK) : Prop := ∀ H' d, Same H H' → H d = none → H' d = some (.xd [("value", .non)]) → E (.ref (ga K "TooMany")) (some d) H'
def Res (K : PySem.W.Frag) (H : Hp) (ks : List Kd) (own : List Str) (Q : VK) (E : XK) : Prop :=
  (Fits ks → ∀ H' x, Same H H' → FmD K H' (nd x own ks) → Q (.ref x) H') ∧ (¬ Fits ks → Many K H E)
/-! ### check_formula -/
def spCkForm (K : PySem.W.Frag) : Sp := fun vs H Q _ => ∃ (n : Nat) (k : Kd), vs = [.ref k.a] ∧ Fm K n H k ∧ Q .non H
theorem scCkForm : FnScope ["thing"] ["thing"] (defScope sCkForm) := ⟨rfl, rfl, rfl, by decide +kernel, rfl, by decide +kernel, by decide +kernel⟩
theorem ok_ckForm {fd : FuncData} (T : Txt K mg) (F : FnG K "check_formula" sCkForm fd) : FnOk P w K mg base CX0 1 (ga K "check_formula") fd ["thing"] (spCkForm K) := by
  refine F.ok scCkForm (fun vs H Q E h => ?_) (fun cdv A outer s H vs Q E hr h => ?_)
  · obtain ⟨n, k, rfl, _⟩ := h
    rfl
  obtain ⟨n, k, rfl, hf, q⟩ := h
  obtain ⟨ks, C, dx, t, kd, own, h1, h2, _⟩ := hf.node
  have I := h1.ins T
  refine ⟨_, PSs.nox (pss_one (ps_if (pt_not (pt_val (pe_callB call_isi rfl (T.f "isinstance") (by decide +kernel) (pa_cons (pv 0) (pa_cons (pe_glob (v := .ref (ga K "Formula")) rfl (T.g "Formula") rfl) pa_nil))))) (pss_one ps_never) pss_nil)), ?_⟩
  obtain ⟨x, hx, rfl⟩ := h1
  refine ⟨_, rfl, .ref k.a, _, _, _, true, rfl, .own _, .base (.ins h2 I.cl I.ha I.hn I.ht I.hm), T.kF x hx, _, rfl, ?_⟩
  exact ite2 (fun h => absurd h (by decide)) (fun _ => q)
end
end K2
set_option Elab.async false
set_option linter.all false
set_option maxRecDepth 100000
set_option maxHeartbeats 4000000
namespace K2
open PySem PySem.Spec PyProof.Rows L2 He Sw
section
variable {P : Program} {w : World} {K : PySem.W.Frag} {mg : Str → Option Value} {base : Heap}
theorem tsz {n : Nat} (h : n ≤ 1000) : n ≤ sizeLine := by rw [sizeLine_eq]; omega
theorem none_back {H H' : Hp} {d : Addr} (s : Same H H') (h : H' d = none) : H d = none := by
  cases e : H d with
  | none => rfl
  | some o => rw [s _ _ e] at h; cases h
theorem Many.back {H H' : Hp} {E : XK} (m : Many K H E) (s : Same H H') : Many K H' E := fun H2 d s2 h e => m H2 d (s.trans s2) (none_back s h) e
theorem Res.back {H H' : Hp} {ks : List Kd} {own : List Str} {Q : VK} {E : XK} (m : Res K H ks own Q E) (s : Same H H') : Res K H' ks own Q E := ⟨fun f H2 x s2 h => m.1 f H2 x (s.trans s2) h, fun f => (m.2 f).back s⟩
/-- the same within an __init__ -/
def ResI (K : PySem.W.Frag) (H : Hp) (a C dx : Addr) (kd : Str) (own : List Str) (ks : List Kd) (Q : VK) (E : XK) : Prop :=
  (Fits ks → ∀ H' t, SameBut a H H' → H' a = some (.ins C dx (flds (.str kd) (.ref t) (1 + sumP ks) (1 + maxD ks))) → Shp H' kd t (refs ks) own → Q .non H') ∧ (¬ Fits ks → Many K H E)
theorem Shp.sameBut {H H' : Hp} {a C dx : Addr} {fs : List (Str × V)} {kd : Str} {t : Addr} {as : List V} {own : List Str} (h : Shp H kd t as own) (ha : H a = some (.ins C dx fs)) (s : SameBut a H H') : Shp H' kd t as own := by
  have ne : ∀ {b : Addr} {xs : List V}, H b = some (.tup xs) → b ≠ a := fun e z => by
    rw [z, ha] at e
    cases e
  cases h with
  | leaf h => exact .leaf h
  | seq h e => exact .seq h (s _ _ (ne e) e)
  | shift e => exact .shift (s _ _ (ne e) e)
  | sum e => exact .sum (s _ _ (ne e) e)
  | call e e2 => exact .call (s _ _ (ne e) e) (s _ _ (ne e2) e2)
theorem SameBut.of {a : Addr} {H H' : Hp} (x : Same H H') : SameBut a H H' := fun b o _ e => x b o e
theorem SameBut.trans {a : Addr} {H H1 H2 : Hp} (x : SameBut a H H1) (y : SameBut a H1 H2) : SameBut a H H2 := fun b o hb e => y b o hb (x b o hb e)
theorem resI_form {H H1 : Hp} {a C dx t e : Addr} {kd : Str} {own : List Str} {ks : List Kd} {Q : VK} {E : XK} (ri : ResI K H a C dx kd own ks Q E) (s : Same H H1) (ha : H a = some (.ins C dx [])) (I : InsT K C) (sh : Shp H1 kd t (refs ks) own)
    (ee : H1 e = some (.tup (refs ks))) (hk : ∀ k ∈ ks, KidAt K H1 k) (hl : ks.length ≤ 10) : spForm K [.ref a, .str kd, .ref t, .ref e] H1 Q E := by
  have ha1 := s _ _ ha
  refine ⟨a, C, dx, e, _, _, ks, rfl, ha1, I, ee, hk, hl, fun f H' sb e' => ?_, fun f => ?_⟩
  · exact ri.1 f H' t ((SameBut.of s).trans sb) e' (sh.sameBut ha1 sb)
  · exact (ri.2 f).back s
theorem resI_of {H : Hp} {C x dx : Addr} {kd : Str} {own : List Str} {ks : List Kd} {Q : VK} {E : XK} (hC : FC K C) (r : ∀ q ∈ ks, FmD K H q) (res : Res K H ks own Q E) (hx : H x = none) (hdx : H dx = none) :
    ResI K (upd (upd H dx (.own x)) x (.ins C dx [])) x C dx kd own ks (fun v H2 => v = .non ∧ Q (.ref x) H2) E := by
  have s1 : Same H (upd (upd H dx (.own x)) x (.ins C dx [])) := fun b o e => by rw [upd_ne (ne_of_none e hx), upd_ne (ne_of_none e hdx)]; exact e
  refine ⟨fun f H' t sb e sh => ⟨rfl, ?_⟩, fun f => (res.2 f).back s1⟩
  have s2 : Same H H' := fun b o q => sb b o (ne_of_none q hx) (s1 _ _ q)
  refine res.1 f H' x s2 (FmD.of (ks := ks) ⟨C, dx, t, kd, own, hC, e, sh, rfl, rfl, rfl, f.1, f.2⟩ fun q hq => (r q hq).same s2)
/-! ### the operators -/
theorem fcF : FC K (ga K "Formula") := ⟨"Formula", by decide +kernel, rfl⟩
def spBin (K : PySem.W.Frag) : Sp := fun vs H Q E => ∃ (ka kb : Kd), vs = [.ref ka.a, .ref kb.a] ∧ FmD K H ka ∧ FmD K H kb ∧ Res K H [ka, kb] [] Q E
theorem scAdd : FnScope ["self", "other"] ["self", "other"] (defScope sAdd) := ⟨rfl, rfl, rfl, by decide +kernel, rfl, by decide +kernel, by decide +kernel⟩
theorem scSub : FnScope ["self", "other"] ["self", "other"] (defScope sSub) := ⟨rfl, rfl, rfl, by decide +kernel, rfl, by decide +kernel, by decide +kernel⟩
theorem scMul : FnScope ["self", "other"] ["self", "other"] (defScope sMul) := ⟨rfl, rfl, rfl, by decide +kernel, rfl, by decide +kernel, by decide +kernel⟩
theorem scNeg : FnScope ["self"] ["self"] (defScope sNeg) := ⟨rfl, rfl, rfl, by decide +kernel, rfl, by decide +kernel, by decide +kernel⟩
/-- a method of Formula -/
abbrev FnF (K : PySem.W.Frag) (m q : Str) (st : Stmt) (fd : FuncData) : Prop := FunD K m q (defArgs st) (defBody st) (defScope st) [] [] (ma K (ga K "Formula") m) fd
theorem bin_read {H : Hp} {ka kb : Kd} {kd : Str} {Q : VK} {E : XK} (T : Txt K mg) (ha : FmD K H ka) (hb : FmD K H kb) (res : Res K H [ka, kb] [] Q E) (hkd : kd = "plus" ∨ kd = "minus" ∨ kd = "times" ∨ kd = "negative") :
    2 ≤ sizeLine ∧ ∀ t, H t = none → 2 ≤ sizeLine ∧ ∀ e, (upd H t (.tup [.ref ka.a, .ref kb.a])) e = none → ∀ x dx, (upd (upd H t (.tup [.ref ka.a, .ref kb.a])) e (.tup [.ref ka.a, .ref kb.a])) x = none → (upd (upd H t (.tup [.ref ka.a, .ref kb.a])) e (.tup [.ref ka.a, .ref kb.a])) dx = none → dx ≠ x →
      spForm K [.ref x, .str kd, .ref t, .ref e] (upd (upd (upd (upd H t (.tup [.ref ka.a, .ref kb.a])) e (.tup [.ref ka.a, .ref kb.a])) dx (.own x)) x (.ins (ga K "Formula") dx [])) (fun v H2 => v = .non ∧ Q (.ref x) H2) E := by
  refine ⟨tsz (by decide), fun t ht => ⟨tsz (by decide), fun e he => ?_⟩⟩
  have s1 : Same H (upd H t (.tup [.ref ka.a, .ref kb.a])) := fun b o q => by rw [upd_ne (ne_of_none q ht)]; exact q
  have et : (upd H t (.tup [.ref ka.a, .ref kb.a])) t = some (.tup [.ref ka.a, .ref kb.a]) := upd_same
  generalize upd H t (.tup [.ref ka.a, .ref kb.a]) = H1 at s1 et he ⊢
  have s2 : Same H1 (upd H1 e (.tup [.ref ka.a, .ref kb.a])) := fun b o q => by rw [upd_ne (ne_of_none q he)]; exact q
  have ee : (upd H1 e (.tup [.ref ka.a, .ref kb.a])) e = some (.tup [.ref ka.a, .ref kb.a]) := upd_same
  generalize upd H1 e (.tup [.ref ka.a, .ref kb.a]) = H2 at s2 ee ⊢
  intro x dx hx hdx hne
  have s02 := s1.trans s2
  have r : ∀ q ∈ [ka, kb], FmD K H2 q := fun q hq => by
    rcases List.mem_cons.mp hq with rfl | hq
    · exact ha.same s02
    · rcases List.mem_cons.mp hq with rfl | hq
      · exact hb.same s02
      · cases hq
  have s3 : Same H2 (upd (upd H2 dx (.own x)) x (.ins (ga K "Formula") dx [])) := fun b o q => by rw [upd_ne (ne_of_none q hx), upd_ne (ne_of_none q hdx)]; exact q
  exact resI_form (resI_of fcF r (res.back s02) hx hdx) (Same.refl _) upd_same (fcF.ins T) (.seq hkd (s3 _ _ (s2 _ _ et))) (s3 _ _ ee) (fun k hk => ((r k hk).same s3).kid T) (by show 2 ≤ 10; decide)
theorem ok_add {fd fdC fdF fdM fdS : FuncData} (T : Txt K mg) (F : FnF K "__add__" "Formula.__add__" sAdd fd) (FC' : FnG K "check_formula" sCkForm fdC) (FF : FnM K "Formula" "Formula.__init__" sForm [] fdF)
    (GF : FnOk P w K mg base (L2N.CX P w) 4 (ma K (ga K "Formula") "__init__") fdF ["self", "kind", "things", "inner"] (spForm K)) :
    FnOk P w K mg base (L2N.CX P w) 6 (ma K (ga K "Formula") "__add__") fd ["self", "other"] (spBin K) := by
  have GC : FnOk P w K mg base CX0 1 (ga K "check_formula") fdC ["thing"] (spCkForm K) := ok_ckForm T FC'
  have bC : Binds K fdC ["thing"] [] := FC'.bindsN fun _ _ _ _ _ _ us hl => match us, hl with | [_], _ => rfl
  have bF : Binds K fdF ["self", "kind", "things", "inner"] [] := FF.bindsN fun _ _ _ _ _ _ us hl => match us, hl with | [_, _, _, _], _ => rfl
  refine F.ok scAdd (fun vs H Q E h => ?_) (fun cdv A outer s H vs Q E hr h => ?_)
  · obtain ⟨ka, kb, rfl, _⟩ := h
    rfl
  obtain ⟨ka, kb, rfl, ha, hb, res⟩ := h
  refine ⟨_, pss_cons (ps_expr (pe_call GC (hr.mono (by decide)) rfl (T.g "check_formula") FC'.kp bC .nil pass0 (pa_cons (pv 1) pa_nil)))
    (pss_one (ps_ret (pe_make (fcF.ins T).mkr GF hr rfl (T.g "Formula") bF .nil (L2N.passes_call (E := E) (L2N.takes_of rfl rfl rfl rfl) (fun _ _ _ _ h => h)) (pa_cons pe_str (pa_cons (pe_tup (pa_cons (pv 0) (pa_cons (pv 1) pa_nil))) (pa_cons (pe_tup (pa_cons (pv 0) (pa_cons (pv 1) pa_nil))) pa_nil)))))), ?_⟩
  refine ⟨_, rfl, _, kb, rfl, hb, ?_⟩
  refine ⟨_, rfl, _, rfl, ?_⟩
  obtain ⟨z1, h1⟩ := bin_read (kd := "plus") T ha hb res (.inl rfl)
  refine ⟨z1, fun t ht => ⟨_, rfl, _, rfl, ?_⟩⟩
  exact h1 t ht
end
end K2
set_option Elab.async false
set_option linter.all false
set_option maxRecDepth 100000
set_option maxHeartbeats 4000000
namespace K2
open PySem PySem.Spec PyProof.Rows L2 He Sw
section
variable {P : Program} {w : World} {K : PySem.W.Frag} {mg : Str → Option Value} {base : Heap}
theorem ok_sub {fd fdC fdF fdM fdS : FuncData} (T : Txt K mg) (F : FnF K "__sub__" "Formula.__sub__" sSub fd) (FC' : FnG K "check_formula" sCkForm fdC) (FF : FnM K "Formula" "Formula.__init__" sForm [] fdF)
    (GF : FnOk P w K mg base (L2N.CX P w) 4 (ma K (ga K "Formula") "__init__") fdF ["self", "kind", "things", "inner"] (spForm K)) :
    FnOk P w K mg base (L2N.CX P w) 6 (ma K (ga K "Formula") "__sub__") fd ["self", "other"] (spBin K) := by
  have GC : FnOk P w K mg base CX0 1 (ga K "check_formula") fdC ["thing"] (spCkForm K) := ok_ckForm T FC'
  have bC : Binds K fdC ["thing"] [] := FC'.bindsN fun _ _ _ _ _ _ us hl => match us, hl with | [_], _ => rfl
  have bF : Binds K fdF ["self", "kind", "things", "inner"] [] := FF.bindsN fun _ _ _ _ _ _ us hl => match us, hl with | [_, _, _, _], _ => rfl
  refine F.ok scSub (fun vs H Q E h => ?_) (fun cdv A outer s H vs Q E hr h => ?_)
  · obtain ⟨ka, kb, rfl, _⟩ := h
    rfl
  obtain ⟨ka, kb, rfl, ha, hb, res⟩ := h
  refine ⟨_, pss_cons (ps_expr (pe_call GC (hr.mono (by decide)) rfl (T.g "check_formula") FC'.kp bC .nil pass0 (pa_cons (pv 1) pa_nil)))
    (pss_one (ps_ret (pe_make (fcF.ins T).mkr GF hr rfl (T.g "Formula") bF .nil (L2N.passes_call (E := E) (L2N.takes_of rfl rfl rfl rfl) (fun _ _ _ _ h => h)) (pa_cons pe_str (pa_cons (pe_tup (pa_cons (pv 0) (pa_cons (pv 1) pa_nil))) (pa_cons (pe_tup (pa_cons (pv 0) (pa_cons (pv 1) pa_nil))) pa_nil)))))), ?_⟩
  refine ⟨_, rfl, _, kb, rfl, hb, ?_⟩
  refine ⟨_, rfl, _, rfl, ?_⟩
  obtain ⟨z1, h1⟩ := bin_read (kd := "minus") T ha hb res (.inr (.inl rfl))
  refine ⟨z1, fun t ht => ⟨_, rfl, _, rfl, ?_⟩⟩
  exact h1 t ht
theorem ok_mul {fd fdC fdF fdM fdS : FuncData} (T : Txt K mg) (F : FnF K "__mul__" "Formula.__mul__" sMul fd) (FC' : FnG K "check_formula" sCkForm fdC) (FF : FnM K "Formula" "Formula.__init__" sForm [] fdF)
    (GF : FnOk P w K mg base (L2N.CX P w) 4 (ma K (ga K "Formula") "__init__") fdF ["self", "kind", "things", "inner"] (spForm K)) :
    FnOk P w K mg base (L2N.CX P w) 6 (ma K (ga K "Formula") "__mul__") fd ["self", "other"] (spBin K) := by
  have GC : FnOk P w K mg base CX0 1 (ga K "check_formula") fdC ["thing"] (spCkForm K) := ok_ckForm T FC'
  have bC : Binds K fdC ["thing"] [] := FC'.bindsN fun _ _ _ _ _ _ us hl => match us, hl with | [_], _ => rfl
  have bF : Binds K fdF ["self", "kind", "things", "inner"] [] := FF.bindsN fun _ _ _ _ _ _ us hl => match us, hl with | [_, _, _, _], _ => rfl
  refine F.ok scMul (fun vs H Q E h => ?_) (fun cdv A outer s H vs Q E hr h => ?_)
  · obtain ⟨ka, kb, rfl, _⟩ := h
    rfl
  obtain ⟨ka, kb, rfl, ha, hb, res⟩ := h
  refine ⟨_, pss_cons (ps_expr (pe_call GC (hr.mono (by decide)) rfl (T.g "check_formula") FC'.kp bC .nil pass0 (pa_cons (pv 1) pa_nil)))
    (pss_one (ps_ret (pe_make (fcF.ins T).mkr GF hr rfl (T.g "Formula") bF .nil (L2N.passes_call (E := E) (L2N.takes_of rfl rfl rfl rfl) (fun _ _ _ _ h => h)) (pa_cons pe_str (pa_cons (pe_tup (pa_cons (pv 0) (pa_cons (pv 1) pa_nil))) (pa_cons (pe_tup (pa_cons (pv 0) (pa_cons (pv 1) pa_nil))) pa_nil)))))), ?_⟩
  refine ⟨_, rfl, _, kb, rfl, hb, ?_⟩
  refine ⟨_, rfl, _, rfl, ?_⟩
  obtain ⟨z1, h1⟩ := bin_read (kd := "times") T ha hb res (.inr (.inr (.inl rfl)))
  refine ⟨z1, fun t ht => ⟨_, rfl, _, rfl, ?_⟩⟩
  exact h1 t ht

def spNeg (K : PySem.W.Frag) : Sp := fun vs H Q E => ∃ (ka : Kd), vs = [.ref ka.a] ∧ FmD K H ka ∧ Res K H [ka] [] Q E
theorem ok_neg {fd fdF fdM fdS : FuncData} (T : Txt K mg) (F : FnF K "__neg__" "Formula.__neg__" sNeg fd) (FF : FnM K "Formula" "Formula.__init__" sForm [] fdF)
    (GF : FnOk P w K mg base (L2N.CX P w) 4 (ma K (ga K "Formula") "__init__") fdF ["self", "kind", "things", "inner"] (spForm K)) :
    FnOk P w K mg base (L2N.CX P w) 6 (ma K (ga K "Formula") "__neg__") fd ["self"] (spNeg K) := by
  have bF : Binds K fdF ["self", "kind", "things", "inner"] [] := FF.bindsN fun _ _ _ _ _ _ us hl => match us, hl with | [_, _, _, _], _ => rfl
  refine F.ok scNeg (fun vs H Q E h => ?_) (fun cdv A outer s H vs Q E hr h => ?_)
  · obtain ⟨ka, rfl, _⟩ := h
    rfl
  obtain ⟨ka, rfl, ha, res⟩ := h
  refine ⟨_, pss_one (ps_ret (pe_make (fcF.ins T).mkr GF hr rfl (T.g "Formula") bF .nil (L2N.passes_call (E := E) (L2N.takes_of rfl rfl rfl rfl) (fun _ _ _ _ h => h)) (pa_cons pe_str (pa_cons (pe_tup (pa_cons (pv 0) pa_nil)) (pa_cons (pe_tup (pa_cons (pv 0) pa_nil)) pa_nil))))), ?_⟩
  refine ⟨_, rfl, tsz (by show 1 ≤ 1000; decide), fun t ht => ⟨_, rfl, tsz (by show 1 ≤ 1000; decide), fun e he => ?_⟩⟩
  have s1 : Same H (upd H t (.tup [.ref ka.a])) := fun b o q => by rw [upd_ne (ne_of_none q ht)]; exact q
  have et : (upd H t (.tup [.ref ka.a])) t = some (.tup [.ref ka.a]) := upd_same
  generalize upd H t (.tup [.ref ka.a]) = H1 at s1 et he ⊢
  have s2 : Same H1 (upd H1 e (.tup [.ref ka.a])) := fun b o q => by rw [upd_ne (ne_of_none q he)]; exact q
  have ee : (upd H1 e (.tup [.ref ka.a])) e = some (.tup [.ref ka.a]) := upd_same
  generalize upd H1 e (.tup [.ref ka.a]) = H2 at s2 ee ⊢
  intro x dx hx hdx hne
  have s02 := s1.trans s2
  have r : ∀ q ∈ [ka], FmD K H2 q := fun q hq => by
    rcases List.mem_cons.mp hq with rfl | hq
    · exact ha.same s02
    · cases hq
  have s3 : Same H2 (upd (upd H2 dx (.own x)) x (.ins (ga K "Formula") dx [])) := fun b o q => by rw [upd_ne (ne_of_none q hx), upd_ne (ne_of_none q hdx)]; exact q
  exact resI_form (resI_of fcF r (res.back s02) hx hdx) (Same.refl _) upd_same (fcF.ins T) (.seq (.inr (.inr (.inr rfl))) (s3 _ _ (s2 _ _ et))) (s3 _ _ ee) (fun k hk => ((r k hk).same s3).kid T) (by show 1 ≤ 10; decide)
/-! ### shifts -/
def spIsShift : Sp := fun vs H Q _ => ∃ i : Int, vs = [.int i] ∧ 0 ≤ i ∧ i ≤ 64 ∧ Q (.bl true) H
theorem scIsShift : FnScope ["thing"] ["thing"] (defScope sIsShift) := ⟨rfl, rfl, rfl, by decide +kernel, rfl, by decide +kernel, by decide +kernel⟩
theorem ok_isShift {fd fdI : FuncData} (T : Txt K mg) (F : FnG K "is_shift" sIsShift fd) (FI : FnG K "is_integer" sIsInt fdI) : FnOk P w K mg base CX0 2 (ga K "is_shift") fd ["thing"] spIsShift := by
  have GI : FnOk P w K mg base CX0 1 (ga K "is_integer") fdI ["thing"] spIsInt := ok_isInt T FI
  have bI : Binds K fdI ["thing"] [] := FI.bindsN fun _ _ _ _ _ _ us hl => match us, hl with | [_], _ => rfl
  obtain ⟨t6, h6⟩ := T.mShf
  refine F.ok scIsShift (fun vs H Q E h => ?_) (fun cdv A outer s H vs Q E hr h => ?_)
  · obtain ⟨i, rfl, _⟩ := h
    rfl
  obtain ⟨i, rfl, i0, i1, q⟩ := h
  refine ⟨_, pss_one (ps_ret (pe_and (pe_call GI hr rfl (T.g "is_integer") FI.kp bI .nil pass0 (pa_cons (pv 0) pa_nil))
    (pe_one (pe_chain op_le op_le pe_int (pv 0) (pe_glob (v := .int 64) rfl h6 ⟨_, rfl⟩))))), ?_⟩
  refine ⟨_, rfl, _, _, rfl, .int i, _, rfl, ?_⟩
  refine ite2 (fun _ => ?_) (fun h => absurd rfl h)
  refine ⟨_, rfl, _, _, rfl, rfl, _, rfl, ?_⟩
  refine ite2 (fun h => ?_) (fun h => absurd (decide_eq_true i0) h)
  refine ⟨_, _, rfl, rfl, ?_⟩
  show Q (V.bl (decide (i ≤ 64))) H
  rw [decide_eq_true i1]
  exact q
def spCkShift : Sp := fun vs H Q _ => ∃ i : Int, vs = [.int i] ∧ 0 ≤ i ∧ i ≤ 64 ∧ Q .non H
theorem scCkShift : FnScope ["thing"] ["thing"] (defScope sCkShift) := ⟨rfl, rfl, rfl, by decide +kernel, rfl, by decide +kernel, by decide +kernel⟩
theorem ok_ckShift {fd fdI fdJ : FuncData} (T : Txt K mg) (F : FnG K "check_shift" sCkShift fd) (FJ : FnG K "is_shift" sIsShift fdJ) (FI : FnG K "is_integer" sIsInt fdI) : FnOk P w K mg base CX0 3 (ga K "check_shift") fd ["thing"] spCkShift := by
  have GJ : FnOk P w K mg base CX0 2 (ga K "is_shift") fdJ ["thing"] spIsShift := ok_isShift T FJ FI
  have bJ : Binds K fdJ ["thing"] [] := FJ.bindsN fun _ _ _ _ _ _ us hl => match us, hl with | [_], _ => rfl
  refine F.ok scCkShift (fun vs H Q E h => ?_) (fun cdv A outer s H vs Q E hr h => ?_)
  · obtain ⟨i, rfl, _⟩ := h
    rfl
  obtain ⟨i, rfl, i0, i1, q⟩ := h
  refine ⟨_, PSs.nox (pss_one (ps_if (pt_not (pt_val (pe_call GJ hr rfl (T.g "is_shift") FJ.kp bJ .nil pass0 (pa_cons (pv 0) pa_nil)))) (pss_one ps_never) pss_nil)), ?_⟩
  refine ⟨_, rfl, i, rfl, i0, i1, _, rfl, ?_⟩
  exact ite2 (fun h => Bool.noConfusion (show false = true from h)) (fun _ => q)
def spShl (K : PySem.W.Frag) : Sp := fun vs H Q E => ∃ (ka : Kd) (i : Int), vs = [.ref ka.a, .int i] ∧ 0 ≤ i ∧ i ≤ 64 ∧ FmD K H ka ∧ Res K H [ka] [] Q E
theorem scShl : FnScope ["self", "other"] ["self", "other"] (defScope sShl) := ⟨rfl, rfl, rfl, by decide +kernel, rfl, by decide +kernel, by decide +kernel⟩
theorem ok_shl {fd fdF fdC fdI fdJ : FuncData} (T : Txt K mg) (F : FnF K "__lshift__" "Formula.__lshift__" sShl fd) (FF : FnM K "Formula" "Formula.__init__" sForm [] fdF) (FC' : FnG K "check_shift" sCkShift fdC) (FJ : FnG K "is_shift" sIsShift fdJ) (FI : FnG K "is_integer" sIsInt fdI)
    (GF : FnOk P w K mg base (L2N.CX P w) 4 (ma K (ga K "Formula") "__init__") fdF ["self", "kind", "things", "inner"] (spForm K)) :
    FnOk P w K mg base (L2N.CX P w) 6 (ma K (ga K "Formula") "__lshift__") fd ["self", "other"] (spShl K) := by
  have GC : FnOk P w K mg base CX0 3 (ga K "check_shift") fdC ["thing"] spCkShift := ok_ckShift T FC' FJ FI
  have bC : Binds K fdC ["thing"] [] := FC'.bindsN fun _ _ _ _ _ _ us hl => match us, hl with | [_], _ => rfl
  have bF : Binds K fdF ["self", "kind", "things", "inner"] [] := FF.bindsN fun _ _ _ _ _ _ us hl => match us, hl with | [_, _, _, _], _ => rfl
  refine F.ok scShl (fun vs H Q E h => ?_) (fun cdv A outer s H vs Q E hr h => ?_)
  · obtain ⟨ka, i, rfl, _⟩ := h
    rfl
  obtain ⟨ka, i, rfl, i0, i1, ha, res⟩ := h
  refine ⟨_, pss_cons (ps_expr (pe_call GC (hr.mono (by decide)) rfl (T.g "check_shift") FC'.kp bC .nil pass0 (pa_cons (pv 1) pa_nil)))
    (pss_one (ps_ret (pe_make (fcF.ins T).mkr GF hr rfl (T.g "Formula") bF .nil (L2N.passes_call (E := E) (L2N.takes_of rfl rfl rfl rfl) (fun _ _ _ _ h => h)) (pa_cons pe_str (pa_cons (pe_tup (pa_cons (pv 0) (pa_cons (pv 1) pa_nil))) (pa_cons (pe_tup (pa_cons (pv 0) pa_nil)) pa_nil)))))), ?_⟩
  refine ⟨_, rfl, i, rfl, i0, i1, ?_⟩
  refine ⟨_, rfl, _, rfl, tsz (by show 2 ≤ 1000; decide), fun t ht => ⟨_, rfl, tsz (by show 1 ≤ 1000; decide), fun e he => ?_⟩⟩
  have s1 : Same H (upd H t (.tup [.ref ka.a, .int i])) := fun b o q => by rw [upd_ne (ne_of_none q ht)]; exact q
  have et : (upd H t (.tup [.ref ka.a, .int i])) t = some (.tup [.ref ka.a, .int i]) := upd_same
  generalize upd H t (.tup [.ref ka.a, .int i]) = H1 at s1 et he ⊢
  have s2 : Same H1 (upd H1 e (.tup [.ref ka.a])) := fun b o q => by rw [upd_ne (ne_of_none q he)]; exact q
  have ee : (upd H1 e (.tup [.ref ka.a])) e = some (.tup [.ref ka.a]) := upd_same
  generalize upd H1 e (.tup [.ref ka.a]) = H2 at s2 ee ⊢
  intro x dx hx hdx hne
  have s02 := s1.trans s2
  have r : ∀ q ∈ [ka], FmD K H2 q := fun q hq => by
    rcases List.mem_cons.mp hq with rfl | hq
    · exact ha.same s02
    · cases hq
  have s3 : Same H2 (upd (upd H2 dx (.own x)) x (.ins (ga K "Formula") dx [])) := fun b o q => by rw [upd_ne (ne_of_none q hx), upd_ne (ne_of_none q hdx)]; exact q
  exact resI_form (resI_of fcF r (res.back s02) hx hdx) (Same.refl _) upd_same (fcF.ins T) (.shift (s3 _ _ (s2 _ _ et))) (s3 _ _ ee) (fun k hk => ((r k hk).same s3).kid T) (by show 1 ≤ 10; decide)
/-! ### Number, Name -/
theorem fits0 : Fits [] := ⟨by decide, by decide⟩
def spNumI (K : PySem.W.Frag) : Sp := fun vs H Q _ => ∃ (a C dx : Addr) (i : Int), vs = [.ref a, .int i] ∧ 0 ≤ i ∧ i < 10 ^ 30 ∧ H a = some (.ins C dx []) ∧ FC K C ∧
  ∀ H' t, SameBut a H H' → H' a = some (.ins C dx (flds (.str "number") (.ref t) 1 1)) → H' t = some (.tup [.int i]) → Q .non H'
theorem scNum : FnScope ["self", "n"] ["self", "n"] (defScope sNum) := ⟨rfl, rfl, rfl, by decide +kernel, rfl, by decide +kernel, by decide +kernel⟩
theorem init0 {H H2 : Hp} {a C dx t e : Addr} {kd : Str} {v : V} {Q : VK} {E : XK} (T : Txt K mg) (ha : H a = some (.ins C dx [])) (hC : FC K C) (s2 : Same H H2) (et : H2 t = some (.tup [v])) (ee : H2 e = some (.tup []))
    (k : ∀ H' t, SameBut a H H' → H' a = some (.ins C dx (flds (.str kd) (.ref t) 1 1)) → H' t = some (.tup [v]) → Q .non H') : spForm K [.ref a, .str kd, .ref t, .ref e] H2 Q E := by
  have ha2 := s2 _ _ ha
  refine ⟨a, C, dx, e, _, _, [], rfl, ha2, hC.ins T, ee, (fun k hk => by cases hk), by decide, fun _ H' sb e' => k H' t ((SameBut.of s2).trans sb) e' (sb _ _ (fun z => ?_) et), fun f => absurd fits0 f⟩
  rw [z, ha2] at et
  cases et
theorem ok_num {fd fdF fdI : FuncData} (T : Txt K mg) (F : FnM K "Number" "Number.__init__" sNum [] fd) (FF : FnM K "Formula" "Formula.__init__" sForm [] fdF) (FI : FnG K "is_integer" sIsInt fdI)
    (GF : FnOk P w K mg base (L2N.CX P w) 4 (ma K (ga K "Formula") "__init__") fdF ["self", "kind", "things", "inner"] (spForm K)) :
    FnOk P w K mg base (L2N.CX P w) 5 (ma K (ga K "Number") "__init__") fd ["self", "n"] (spNumI K) := by
  have GI : FnOk P w K mg base CX0 1 (ga K "is_integer") fdI ["thing"] spIsInt := ok_isInt T FI
  have bI : Binds K fdI ["thing"] [] := FI.bindsN fun _ _ _ _ _ _ us hl => match us, hl with | [_], _ => rfl
  have bF : Binds K fdF ["self", "kind", "things", "inner"] [] := FF.bindsN fun _ _ _ _ _ _ us hl => match us, hl with | [_, _, _, _], _ => rfl
  obtain ⟨tE, hE⟩ := T.nEnd
  refine F.ok scNum (fun vs H Q E h => ?_) (fun cdv A outer s H vs Q E hr h => ?_)
  · obtain ⟨a, C, dx, i, rfl, _⟩ := h
    rfl
  obtain ⟨a, C, dx, i, rfl, i0, i1, ha, hC, k⟩ := h
  refine ⟨_, pss_cons (ps_if (PW.pt (pw_or (pt_not (pt_val (pe_call GI (hr.mono (by decide)) rfl (T.g "is_integer") FI.kp bI .nil pass0 (pa_cons (pv 1) pa_nil))))
      (pw_or1 (pt_not (pt_chain op_le op_lt pe_int (pv 1) (pe_glob (v := .int (10 ^ 30)) rfl hE ⟨_, rfl⟩)))))) (pss_one ps_never) pss_nil)
    (pss_one (ps_expr (pe_clfn (x := "Formula") rfl (T.g "Formula") T.foI GF hr FF.kp bF .nil (L2N.passes_call (E := E) (L2N.takes_of rfl rfl rfl rfl) (fun _ _ _ _ h => h)) (pa_cons (pv 0) (pa_cons pe_str (pa_cons (pe_tup (pa_cons (pv 1) pa_nil)) (pa_cons (pe_tup pa_nil) pa_nil))))))), ?_⟩
  refine ⟨_, rfl, _, _, rfl, .int i, _, rfl, ?_⟩
  refine ite2 (fun h => Bool.noConfusion (show false = true from h)) (fun _ => ?_)
  refine ⟨_, rfl, _, _, rfl, rfl, _, rfl, ?_⟩
  refine ite2 (fun h => ?_) (fun h => absurd (decide_eq_true i0) h)
  refine ⟨_, _, rfl, rfl, _, rfl, ?_⟩
  refine ite2 (fun h => ?_) (fun _ => ?_)
  · have h : (!decide (i < 10 ^ 30)) = true := h
    rw [decide_eq_true i1] at h
    cases h
  refine ⟨_, rfl, _, rfl, tsz (by show 1 ≤ 1000; decide), fun t ht => ⟨tsz (by show 0 ≤ 1000; decide), fun e he => ?_⟩⟩
  have s1 : Same H (upd H t (.tup [.int i])) := fun b o q => by rw [upd_ne (ne_of_none q ht)]; exact q
  have et : (upd H t (.tup [.int i])) t = some (.tup [.int i]) := upd_same
  generalize upd H t (.tup [.int i]) = H1 at s1 et he ⊢
  have s2 : Same H1 (upd H1 e (.tup [])) := fun b o q => by rw [upd_ne (ne_of_none q he)]; exact q
  exact init0 T ha hC (s1.trans s2) (s2 _ _ et) upd_same k
def spNameI (K : PySem.W.Frag) : Sp := fun vs H Q _ => ∃ (a C dx : Addr) (z : Str), vs = [.ref a, .str z] ∧ isNmS z = true ∧ z.length ≤ 100 ∧ H a = some (.ins C dx []) ∧ FC K C ∧
  ∀ H' t, SameBut a H H' → H' a = some (.ins C dx (flds (.str "name") (.ref t) 1 1)) → H' t = some (.tup [.str z]) → Q .non H'
theorem scName : FnScope ["self", "name"] ["self", "name"] (defScope sName) := ⟨rfl, rfl, rfl, by decide +kernel, rfl, by decide +kernel, by decide +kernel⟩
theorem ok_name {fd fdF fdC fdN fdB fdS : FuncData} (T : Txt K mg) (F : FnM K "Name" "Name.__init__" sName [] fd) (FF : FnM K "Formula" "Formula.__init__" sForm [] fdF) (FC' : FnG K "check_name" sCkName fdC) (FN : FnG K "is_name" sIsName fdN) (FB : FnM K "BadName" "BadName.__init__" sBName [] fdB)
    (FS : FnM K "SameError" "SameError.__init__" sSE [.non] fdS)
    (GF : FnOk P w K mg base (L2N.CX P w) 4 (ma K (ga K "Formula") "__init__") fdF ["self", "kind", "things", "inner"] (spForm K)) :
    FnOk P w K mg base (L2N.CX P w) 5 (ma K (ga K "Name") "__init__") fd ["self", "name"] (spNameI K) := by
  have GC : FnOk P w K mg base (L2N.CX P w) 4 (ga K "check_name") fdC ["thing"] (spCkName K) := ok_ckName T FC' FN FB FS
  have bC : Binds K fdC ["thing"] [] := FC'.bindsN fun _ _ _ _ _ _ us hl => match us, hl with | [_], _ => rfl
  have bF : Binds K fdF ["self", "kind", "things", "inner"] [] := FF.bindsN fun _ _ _ _ _ _ us hl => match us, hl with | [_, _, _, _], _ => rfl
  refine F.ok scName (fun vs H Q E h => ?_) (fun cdv A outer s H vs Q E hr h => ?_)
  · obtain ⟨a, C, dx, i, rfl, _⟩ := h
    rfl
  obtain ⟨a, C, dx, z, rfl, z0, z1, ha, hC, k⟩ := h
  refine ⟨_, pss_cons (ps_expr (pe_call GC hr rfl (T.g "check_name") FC'.kp bC .nil (L2N.passes_call (E := E) (L2N.takes_of rfl rfl rfl rfl) (fun _ _ _ _ h => h)) (pa_cons (pv 1) pa_nil)))
    (pss_one (ps_expr (pe_clfn (x := "Formula") rfl (T.g "Formula") T.foI GF hr FF.kp bF .nil (L2N.passes_call (E := E) (L2N.takes_of rfl rfl rfl rfl) (fun _ _ _ _ h => h)) (pa_cons (pv 0) (pa_cons pe_str (pa_cons (pe_tup (pa_cons (pv 1) pa_nil)) (pa_cons (pe_tup pa_nil) pa_nil))))))), ?_⟩
  refine ⟨_, rfl, .str z, _, rfl, .str z z1, fun _ H0 s0 => ?_, fun e => absurd (show isNmS z = false from e) (by rw [z0]; decide)⟩
  refine ⟨_, rfl, _, rfl, tsz (by show 1 ≤ 1000; decide), fun t ht => ⟨tsz (by show 0 ≤ 1000; decide), fun e he => ?_⟩⟩
  have s1 : Same H0 (upd H0 t (.tup [.str z])) := fun b o q => by rw [upd_ne (ne_of_none q ht)]; exact q
  have et : (upd H0 t (.tup [.str z])) t = some (.tup [.str z]) := upd_same
  generalize upd H0 t (.tup [.str z]) = H1 at s1 et he ⊢
  have s2 : Same H1 (upd H1 e (.tup [])) := fun b o q => by rw [upd_ne (ne_of_none q he)]; exact q
  exact init0 T ha hC ((s0.trans s1).trans s2) (s2 _ _ et) upd_same k
end
end K2
set_option Elab.async false
set_option linter.all false
set_option maxRecDepth 100000
set_option maxHeartbeats 4000000
namespace K2
open PySem PySem.Spec PyProof.Rows L2 He Sw
section
variable {P : Program} {w : World} {K : PySem.W.Frag} {mg : Str → Option Value} {base : Heap}
/-! ### inner_formulas -/
def spInner (K : PySem.W.Frag) : Sp := fun vs H Q _ => ∃ (k : Kd) (ks : List Kd), vs = [.ref k.a] ∧ NodeAt K H k ks ∧ ∀ u H', Same H H' → H' u = some (.tup (refs ks)) → Q (.ref u) H'
theorem scInner : FnScope ["formula"] ["formula"] (defScope sInner) := ⟨rfl, rfl, rfl, by decide +kernel, rfl, by decide +kernel, by decide +kernel⟩
theorem ok_inner {fd : FuncData} (T : Txt K mg) (F : FnG K "inner_formulas" sInner fd) : FnOk P w K mg base CX0 1 (ga K "inner_formulas") fd ["formula"] (spInner K) := by
  refine F.ok scInner (fun vs H Q E h => ?_) (fun cdv A outer s H vs Q E hr h => ?_)
  · obtain ⟨k, ks, rfl, _⟩ := h
    rfl
  obtain ⟨k, ks, rfl, ⟨C, dx, t, kd, own, hC, ha, hs, _⟩, q⟩ := h
  have I := hC.ins T
  refine ⟨_, PSs.nox (pss_cons (ps_if (pt_cmpR op_in_seq (pe_fld (pv 0) rfl) (pe_tup (pa_cons pe_str (pa_cons pe_str pa_nil))) rfl) (pss_one (ps_ret (pe_tup pa_nil))) pss_nil)
    (pss_cons (ps_if (pt_cmpR op_eq (pe_fld (pv 0) rfl) pe_str (nomark _)) (pss_one (ps_ret (pe_slice sl_tup (pe_fld (pv 0) rfl) po_none (po_some pe_int)))) pss_nil)
    (pss_cons (ps_if (pt_cmpR op_eq (pe_fld (pv 0) rfl) pe_str (nomark _)) (pss_one (ps_ret (pe_slice sl_tup (pe_fld (pv 0) rfl) (po_some pe_int) po_none))) pss_nil)
    (pss_cons (ps_if (pt_cmpR op_eq (pe_fld (pv 0) rfl) pe_str (nomark _)) (pss_one (ps_ret (pe_ix ix_tup (pe_fld (pv 0) rfl) pe_int (fun _ _ => rfl)))) pss_nil)
    (pss_one (ps_ret (pe_fld (pv 0) rfl))))))), ?_⟩
  have nk := I.no "kind" (by decide +kernel)
  have nt := I.no "things" (by decide +kernel)
  generalize refs ks = as at hs q
  refine ⟨_, rfl, k.a, C, dx, _, .str kd, rfl, ha, I.cl, nk, rfl, tsz (by show 2 ≤ 1000; decide), fun p hp => ?_⟩
  have s1 : Same H (upd H p (.tup [.str "number", .str "name"])) := fun b o q => by rw [upd_ne (ne_of_none q hp)]; exact q
  have ep : (upd H p (.tup [.str "number", .str "name"])) p = some (.tup [.str "number", .str "name"]) := upd_same
  generalize upd H p (.tup [.str "number", .str "name"]) = H1 at s1 ep ⊢
  have ha1 := s1 _ _ ha
  refine ⟨p, _, rfl, .inr (SqT.of ep), rfl, rfl, _, rfl, ?_⟩
  cases hs with
  | leaf h =>
    refine ite2 (fun _ => ?_) (fun n => absurd ?_ n)
    · exact ⟨tsz (by show 0 ≤ 1000; decide), fun u hu => q u _ (s1.trans fun b o e => by rw [upd_ne (ne_of_none e hu)]; exact e) upd_same⟩
    · rcases h with rfl | rfl
      · decide +kernel
      · decide +kernel
  | seq h e =>
    have d1 : inV (.str kd) [.str "number", .str "name"] = false := by rcases h with rfl | rfl | rfl | rfl <;> decide +kernel
    have d2 : decide (V.str kd = V.str "shift") = false := by rcases h with rfl | rfl | rfl | rfl <;> decide +kernel
    have d3 : decide (V.str kd = V.str "sum") = false := by rcases h with rfl | rfl | rfl | rfl <;> decide +kernel
    have d4 : decide (V.str kd = V.str "call") = false := by rcases h with rfl | rfl | rfl | rfl <;> decide +kernel
    refine ite2 (fun n => Bool.noConfusion (d1.symm.trans n)) (fun _ => ?_)
    refine ⟨_, rfl, k.a, C, dx, _, _, rfl, ha1, I.cl, nk, rfl, rfl, _, rfl, ite2 (fun n => Bool.noConfusion (d2.symm.trans n)) (fun _ => ?_)⟩
    refine ⟨_, rfl, k.a, C, dx, _, _, rfl, ha1, I.cl, nk, rfl, rfl, _, rfl, ite2 (fun n => Bool.noConfusion (d3.symm.trans n)) (fun _ => ?_)⟩
    refine ⟨_, rfl, k.a, C, dx, _, _, rfl, ha1, I.cl, nk, rfl, rfl, _, rfl, ite2 (fun n => Bool.noConfusion (d4.symm.trans n)) (fun _ => ?_)⟩
    exact ⟨_, rfl, k.a, C, dx, _, _, rfl, ha1, I.cl, nt, rfl, q t H1 s1 (s1 _ _ e)⟩
  | @shift _ a n e =>
    refine ite2 (fun n => absurd n (by decide +kernel)) (fun _ => ?_)
    refine ⟨_, rfl, k.a, C, dx, _, _, rfl, ha1, I.cl, nk, rfl, rfl, _, rfl, ite2 (fun _ => ?_) (fun n => absurd (by decide +kernel) n)⟩
    refine ⟨_, rfl, k.a, C, dx, _, _, rfl, ha1, I.cl, nt, rfl, _, rfl, t, _, rfl, SqT.of (s1 _ _ e), (by show ¬ (HT.sIx 2 0 none = 0 ∧ HT.sIx 2 2 (some 1) = 2); decide +kernel), fun u hu => ?_⟩
    exact q u _ (s1.trans fun b o e => by rw [upd_ne (ne_of_none e hu)]; exact e) upd_same
  | @sum _ i b a e =>
    refine ite2 (fun n => absurd n (by decide +kernel)) (fun _ => ?_)
    refine ⟨_, rfl, k.a, C, dx, _, _, rfl, ha1, I.cl, nk, rfl, rfl, _, rfl, ite2 (fun n => absurd n (by decide +kernel)) (fun _ => ?_)⟩
    refine ⟨_, rfl, k.a, C, dx, _, _, rfl, ha1, I.cl, nk, rfl, rfl, _, rfl, ite2 (fun _ => ?_) (fun n => absurd (by decide +kernel) n)⟩
    refine ⟨_, rfl, k.a, C, dx, _, _, rfl, ha1, I.cl, nt, rfl, _, rfl, t, _, rfl, SqT.of (s1 _ _ e), (by show ¬ (HT.sIx 3 0 (some 2) = 0 ∧ HT.sIx 3 3 none = 3); decide +kernel), fun u hu => ?_⟩
    exact q u _ (s1.trans fun b o e => by rw [upd_ne (ne_of_none e hu)]; exact e) upd_same
  | @call _ u nm _ e e2 =>
    refine ite2 (fun n => absurd n (by decide +kernel)) (fun _ => ?_)
    refine ⟨_, rfl, k.a, C, dx, _, _, rfl, ha1, I.cl, nk, rfl, rfl, _, rfl, ite2 (fun n => absurd n (by decide +kernel)) (fun _ => ?_)⟩
    refine ⟨_, rfl, k.a, C, dx, _, _, rfl, ha1, I.cl, nk, rfl, rfl, _, rfl, ite2 (fun n => absurd n (by decide +kernel)) (fun _ => ?_)⟩
    refine ⟨_, rfl, k.a, C, dx, _, _, rfl, ha1, I.cl, nk, rfl, rfl, _, rfl, ite2 (fun _ => ?_) (fun n => absurd (by decide +kernel) n)⟩
    exact ⟨_, rfl, k.a, C, dx, _, _, rfl, ha1, I.cl, nt, rfl, t, _, _, _, rfl, rfl, SqT.of (s1 _ _ e), rfl, q u H1 s1 (s1 _ _ e2)⟩
end
end K2
set_option Elab.async false
set_option linter.all false
set_option maxRecDepth 100000
set_option maxHeartbeats 4000000
namespace K2
open PySem PySem.Spec PyProof.Rows L2 He Sw
section
variable {P : Program} {w : World} {K : PySem.W.Frag} {mg : Str → Option Value} {base : Heap}
/-! ### index_names -/
theorem Shp.sumOr {H : Hp} {kd : Str} {t : Addr} {as : List V} {own : List Str} (h : Shp H kd t as own) : (kd = "sum" ∧ ∃ i b a, H t = some (.tup [.str i, b, a]) ∧ own = [i]) ∨ (decide (V.str kd = V.str "sum") = false ∧ own = []) := by
  cases h with
  | leaf h => exact .inr ⟨by rcases h with rfl | rfl <;> decide +kernel, rfl⟩
  | seq h e => exact .inr ⟨by rcases h with rfl | rfl | rfl | rfl <;> decide +kernel, rfl⟩
  | shift e => exact .inr ⟨by decide +kernel, rfl⟩
  | sum e => exact .inl ⟨rfl, _, _, _, e, rfl⟩
  | call e e2 => exact .inr ⟨by decide +kernel, rfl⟩
theorem ixs_take : ∀ {ks : List Kd} {i : Nat}, (∀ q ∈ ks, q.ix.length ≤ q.p) → (ixs (ks.take i)).length ≤ sumP ks
  | [], i, _ => by simp [ixs]
  | k :: ks, 0, _ => Nat.zero_le _
  | k :: ks, i + 1, h => by
    have h1 := h k List.mem_cons_self
    have h2 := ixs_take (ks := ks) (i := i) fun q hq => h q (List.mem_cons_of_mem _ hq)
    show (k.ix ++ ixs (ks.take i)).length ≤ k.p + sumP ks
    rw [List.length_append]
    omega
theorem ixs_next {ks : List Kd} {i : Nat} {q : Kd} (h : ks[i]? = some q) : ixs (ks.take (i + 1)) = ixs (ks.take i) ++ q.ix := by
  unfold ixs
  rw [List.take_add_one, h]
  simp
def spIx (K : PySem.W.Frag) (n : Nat) : Sp := fun vs H Q _ => ∃ (k : Kd), vs = [.ref k.a] ∧ Fm K n H k ∧ ∀ l H', Same H H' → H l = none → H' l = some (.lst (k.ix.map V.str)) → Q (.ref l) H'
theorem scIx : FnScope ["formula", "found", "one", "index"] ["formula"] (defScope sIx) := ⟨rfl, rfl, rfl, by decide +kernel, rfl, by decide +kernel, by decide +kernel⟩
theorem ok_ix {fd fdI : FuncData} (T : Txt K mg) (F : FnG K "index_names" sIx fd) (FI : FnG K "inner_formulas" sInner fdI) : ∀ n, FnOk P w K mg base CX0 (n + 2) (ga K "index_names") fd ["formula"] (spIx K n)
  | 0 => ⟨fun vs H Q E h => by
      obtain ⟨k, rfl, _⟩ := h
      rfl, fun A outer s H args us vs Q E _ _ _ _ h => by
      obtain ⟨k, _, h, _⟩ := h
      exact h.elim⟩
  | n + 1 => by
    have GX : FnOk P w K mg base CX0 (n + 2) (ga K "index_names") fd ["formula"] (spIx K n) := ok_ix T F FI n
    have GI : FnOk P w K mg base CX0 1 (ga K "inner_formulas") fdI ["formula"] (spInner K) := ok_inner T FI
    have bX : Binds K fd ["formula"] [] := F.bindsN fun _ _ _ _ _ _ us hl => match us, hl with | [_], _ => rfl
    have bI : Binds K fdI ["formula"] [] := FI.bindsN fun _ _ _ _ _ _ us hl => match us, hl with | [_], _ => rfl
    refine F.ok scIx (fun vs H Q E h => ?_) (fun cdv A outer s H vs Q E hr h => ?_)
    · obtain ⟨k, rfl, _⟩ := h
      rfl
    obtain ⟨k, rfl, ⟨ks, hn, hks⟩, q⟩ := h
    obtain ⟨C, dx, t, kd, own, hC, ha, hs, e1, e2, e3, e4, e5⟩ := id hn
    have I := hC.ins T
    have nk := I.no "kind" (by decide +kernel)
    have nt := I.no "things" (by decide +kernel)
    have nd := scIx.nd
    have hr1 : Room 1 _ := hr.mono (by omega)
    refine ⟨_, PSs.nox (pss_cons (ps_setLc2 (i := 1) (own := [("one", 2), ("index", 3)]) (vs1 := [3]) (g := gName 2) (tt := tYes) (wi1 := iList K (tCall (spIx K n) [] E0 (tCons (tVar 2) tNil))) (g1 := gName 3) (tt1 := tYes) (te := tVar 3) rfl nd rfl rfl (sw_true rfl rfl rfl (by decide +kernel))
        (pi_tup (pe_call GI hr1 rfl (T.g "inner_formulas") FI.kp bI .nil pass0 (pa_cons (pv 0) pa_nil))) (blkOk_by (N := ["formula", "found", "one", "index"]) (sc := defScope sIx) (by decide +kernel)) (by decide)
        (fun _ _ _ _ _ => pg_name (i := 2) nd rfl (Or.inl rfl)) (fun _ _ _ _ _ => pts_nil)
        (fun _ _ _ _ _ => pi_list (pe_call GX hr rfl (T.g "index_names") F.kp bX .nil pass0 (pa_cons (pv 2) pa_nil)))
        (fun _ _ _ _ _ => pg_name (i := 3) nd rfl (Or.inl rfl)) (fun _ _ _ _ _ => pts_nil) (fun _ _ _ _ _ => pv 3))
      (pss_cons (ps_if (pt_cmpR op_eq (pe_fld (pv 0) rfl) pe_str (nomark _)) (pss_one (ps_ret (pe_op op_cat (pe_lst (pa_cons (pe_ix ix_tup (pe_fld (pv 0) rfl) pe_int (fun _ _ => rfl)) pa_nil)) (pv 1)))) pss_nil)
      (pss_one (ps_ret (pv 1))))), ?_⟩
    refine ⟨_, rfl, k, ks, rfl, hn, fun u H0 s0 eu => ⟨u, rfl, ⟨_, SqT.of eu⟩, fun D hD => ?_⟩⟩
    have ixl : ∀ q ∈ ks, q.ix.length ≤ q.p := fun q hq => (hks q hq).ixLen
    have up0 : ∀ {H' : Hp} {o : HO}, Same H0 H' → Same H0 (upd H' D o) := fun {H' o} s' b o' e => by rw [upd_ne (ne_of_none e hD)]; exact s' _ _ e
    have hD0 : H D = none := none_back s0 hD
    refine ⟨fun i m H' => m = ks.length - i ∧ i ≤ ks.length ∧ Same H0 H' ∧ H' D = some (.lst ((ixs (ks.take i)).map V.str)), ⟨_, rfl, Nat.zero_le _, up0 (Same.refl _), by rw [upd_same]; rfl⟩, ?_⟩
    rintro i m H1 ⟨rfl, hi, s1, eD⟩
    have hlen : (refs ks).length = ks.length := by simp [refs]
    by_cases hlt : i < ks.length
    · -- one more formula
      have hq : ks[i]? = some ks[i] := List.getElem?_eq_getElem hlt
      generalize ks[i] = qk at hq
      have hmem : qk ∈ ks := List.mem_of_getElem? hq
      have href : (refs ks)[i]? = some (V.ref qk.a) := by unfold refs; rw [List.getElem?_map, hq]; rfl
      refine .inr ⟨⟨_, _, SqT.of (s1 _ _ eu), href⟩, fun H' => i + 1 ≤ ks.length ∧ Same H0 H' ∧ H' D = some (.lst ((ixs (ks.take (i + 1))).map V.str)), fun H' ⟨a1, a2, a3⟩ => ⟨_, by omega, rfl, a1, a2, a3⟩, ?_⟩
      rintro x H2 ⟨rfl, hx⟩
      obtain rfl : x = V.ref qk.a := by
        have e := hx _ (SqT.of (s1 _ _ eu))
        rw [href] at e
        injection e with e
        exact e.symm
      refine ⟨rfl, ?_⟩
      refine ⟨_, rfl, qk, rfl, (hks qk hmem).same (s0.trans s1), fun l H3 s3 hl el => ⟨l, rfl, ⟨_, SqL.of el⟩, ?_⟩⟩
      have nl : l ≠ D := fun z => by rw [z, eD] at hl; cases hl
      have lqx : qk.ix.length ≤ 300 := by
        have a1 := (hks qk hmem).ixLen
        have a2 := (hks qk hmem).small.1
        omega
      have ltk : (ixs (ks.take i)).length ≤ 300 := by
        have a1 := ixs_take (i := i) ixl
        omega
      refine ⟨fun j m' H' => m' = qk.ix.length - j ∧ j ≤ qk.ix.length ∧ Same H0 H' ∧ H' l = some (.lst (qk.ix.map V.str)) ∧ H' D = some (.lst ((ixs (ks.take i) ++ qk.ix.take j).map V.str)), ⟨_, rfl, Nat.zero_le _, s1.trans s3, el, by rw [List.take_zero, List.append_nil]; exact s3 _ _ eD⟩, ?_⟩
      rintro j m' H4 ⟨rfl, hj, s4, el4, eD4⟩
      by_cases hjl : j < qk.ix.length
      · have hz : qk.ix[j]? = some qk.ix[j] := List.getElem?_eq_getElem hjl
        generalize qk.ix[j] = z at hz
        have hzm : (qk.ix.map V.str)[j]? = some (V.str z) := by rw [List.getElem?_map, hz]; rfl
        refine .inr ⟨⟨_, _, SqL.of el4, hzm⟩, fun H' => j + 1 ≤ qk.ix.length ∧ Same H0 H' ∧ H' l = some (.lst (qk.ix.map V.str)) ∧ H' D = some (.lst ((ixs (ks.take i) ++ qk.ix.take (j + 1)).map V.str)), fun H' ⟨a1, a2, a3, a4⟩ => ⟨_, by omega, rfl, a1, a2, a3, a4⟩, ?_⟩
        rintro x H5 ⟨rfl, hx⟩
        obtain rfl : x = V.str z := by
          have e := hx _ (SqL.of el4)
          rw [hzm] at e
          injection e with e
          exact e.symm
        refine ⟨rfl, ?_⟩
        refine ⟨_, rfl, _, eD4, ?_, hjl, up0 s4, by rw [upd_ne nl]; exact el4, ?_⟩
        · rw [List.length_map, List.length_append, List.length_take, sizeLine_eq]
          omega
        · rw [upd_same, List.take_add_one, hz]
          simp
      · have ej : j = qk.ix.length := by omega
        subst ej
        refine .inl ⟨⟨_, SqL.of el4, by rw [List.length_map]; exact Nat.le_refl _⟩, hlt, s4, ?_⟩
        rw [eD4, List.take_length, ixs_next hq]
    · -- all of them
      have ei : i = ks.length := by omega
      subst ei
      refine .inl ⟨⟨_, SqT.of (s1 _ _ eu), by rw [hlen]; exact Nat.le_refl _⟩, ?_⟩
      rw [List.take_length] at eD
      have s01 := s0.trans s1
      refine ⟨_, rfl, k.a, C, dx, _, .str kd, rfl, s01 _ _ ha, I.cl, nk, rfl, rfl, _, rfl, ?_⟩
      rcases hs.sumOr with ⟨rfl, ix, b, a, et, rfl⟩ | ⟨hne, rfl⟩
      · refine ite2 (fun _ => ?_) (fun n => absurd (by decide +kernel) n)
        refine ⟨_, rfl, k.a, C, dx, _, _, rfl, s01 _ _ ha, I.cl, nt, rfl, t, _, _, .str ix, rfl, rfl, SqT.of (s01 _ _ et), rfl, tsz (by show 1 ≤ 1000; decide), fun p hp => ?_⟩
        have s2 : Same H1 (upd H1 p (.lst [.str ix])) := fun b o e => by rw [upd_ne (ne_of_none e hp)]; exact e
        have ep : (upd H1 p (.lst [.str ix])) p = some (.lst [.str ix]) := upd_same
        generalize upd H1 p (.lst [.str ix]) = H2 at s2 ep ⊢
        refine ⟨_, rfl, p, D, _, _, rfl, rfl, ep, s2 _ _ eD, ?_, fun l hl => ?_⟩
        · have a1 := ixs_len ixl
          rw [List.length_map, sizeLine_eq]
          show 1 + _ ≤ _
          omega
        · refine q l _ ((s01.trans s2).trans fun b o e => by rw [upd_ne (ne_of_none e hl)]; exact e) (none_back (s01.trans s2) hl) ?_
          rw [upd_same, e3]
          simp
      · refine ite2 (fun n => Bool.noConfusion (hne.symm.trans n)) (fun _ => ?_)
        refine ⟨_, rfl, q D H1 s01 hD0 ?_⟩
        rw [eD, e3]
        rfl
end
end K2
set_option Elab.async false
set_option linter.all false
set_option maxRecDepth 100000
set_option maxHeartbeats 4000000
namespace K2
open PySem PySem.Spec PyProof.Rows L2 He Sw
section
variable {P : Program} {w : World} {K : PySem.W.Frag} {mg : Str → Option Value} {base : Heap}
theorem flat_strs (zs : List Str) : (zs.map V.str).all flatV = true := by
  rw [List.all_eq_true]
  intro v hv
  obtain ⟨z, _, rfl⟩ := List.mem_map.mp hv
  rfl
theorem inV_strs (z : Str) : ∀ zs : List Str, inV (.str z) (zs.map V.str) = decide (z ∈ zs)
  | [] => rfl
  | y :: zs => by
    have h := inV_strs z zs
    have e : inV (.str z) ((y :: zs).map V.str) = (eqV (.str y) (.str z) || inV (.str z) (zs.map V.str)) := rfl
    have e2 : eqV (.str y) (.str z) = decide (z = y) := by
      show decide _ = _
      by_cases c : z = y
      · subst c
        simp
      · simp [c, Ne.symm c]
    rw [e, e2, h]
    by_cases c : z = y
    · simp [c]
    · simp [c]
/-- a number that bounds a sum -/
def NumAt (K : PySem.W.Frag) (H : Hp) (b : Addr) : Prop := ∃ (dx t : Addr) (n : Int), H b = some (.ins (ga K "Number") dx (flds (.str "number") (.ref t) 1 1)) ∧ H t = some (.tup [.int n])
theorem NumAt.same {H H' : Hp} {b : Addr} (h : NumAt K H b) (s : Same H H') : NumAt K H' b := by
  obtain ⟨dx, t, n, h1, h2⟩ := h
  exact ⟨dx, t, n, s _ _ h1, s _ _ h2⟩
theorem fcNu : FC K (ga K "Number") := ⟨"Number", by decide +kernel, rfl⟩
/-! ### Sum.__init__ -/
def spSumI (K : PySem.W.Frag) : Sp := fun vs H Q E => ∃ (a C dx b : Addr) (i : Str) (k : Kd), vs = [.ref a, .str i, .ref b, .ref k.a] ∧ isNmS i = true ∧ i.length ≤ 100 ∧ H a = some (.ins C dx []) ∧ FC K C ∧ NumAt K H b ∧ FmD K H k ∧
  (i ∈ k.ix → ∀ H' d, Same H H' → H d = none → H' d = some (.xd [("value", .str i)]) → E (.ref (ga K "BadName")) (some d) H') ∧ (i ∉ k.ix → ResI K H a C dx "sum" [i] [k] Q E)
theorem scSum : FnScope ["self", "index", "below", "body"] ["self", "index", "below", "body"] (defScope sSum) := ⟨rfl, rfl, rfl, by decide +kernel, rfl, by decide +kernel, by decide +kernel⟩
theorem ok_sum {fd fdF fdC fdN fdB fdS fdK fdX fdI : FuncData} (T : Txt K mg) (F : FnM K "Sum" "Sum.__init__" sSum [] fd) (FF : FnM K "Formula" "Formula.__init__" sForm [] fdF) (FC' : FnG K "check_name" sCkName fdC) (FN : FnG K "is_name" sIsName fdN) (FB : FnM K "BadName" "BadName.__init__" sBName [] fdB)
    (FS : FnM K "SameError" "SameError.__init__" sSE [.non] fdS) (FK : FnG K "check_formula" sCkForm fdK) (FX : FnG K "index_names" sIx fdX) (FI : FnG K "inner_formulas" sInner fdI)
    (GF : FnOk P w K mg base (L2N.CX P w) 4 (ma K (ga K "Formula") "__init__") fdF ["self", "kind", "things", "inner"] (spForm K)) :
    FnOk P w K mg base (L2N.CX P w) 43 (ma K (ga K "Sum") "__init__") fd ["self", "index", "below", "body"] (spSumI K) := by
  have GC : FnOk P w K mg base (L2N.CX P w) 4 (ga K "check_name") fdC ["thing"] (spCkName K) := ok_ckName T FC' FN FB FS
  have GB : FnOk P w K mg base CX0 2 (ma K (ga K "BadName") "__init__") fdB ["self", "value"] (spEInit K) := ok_BName T FB FS
  have GK : FnOk P w K mg base CX0 1 (ga K "check_formula") fdK ["thing"] (spCkForm K) := ok_ckForm T FK
  have GX : FnOk P w K mg base CX0 42 (ga K "index_names") fdX ["formula"] (spIx K 40) := ok_ix T FX FI 40
  have bC : Binds K fdC ["thing"] [] := FC'.bindsN fun _ _ _ _ _ _ us hl => match us, hl with | [_], _ => rfl
  have bB : Binds K fdB ["self", "value"] [] := FB.bindsN fun _ _ _ _ _ _ us hl => match us, hl with | [_, _], _ => rfl
  have bK : Binds K fdK ["thing"] [] := FK.bindsN fun _ _ _ _ _ _ us hl => match us, hl with | [_], _ => rfl
  have bX : Binds K fdX ["formula"] [] := FX.bindsN fun _ _ _ _ _ _ us hl => match us, hl with | [_], _ => rfl
  have bF : Binds K fdF ["self", "kind", "things", "inner"] [] := FF.bindsN fun _ _ _ _ _ _ us hl => match us, hl with | [_, _, _, _], _ => rfl
  have TB := T.err "BadName" (by decide +kernel)
  refine F.ok scSum (fun vs H Q E h => ?_) (fun cdv A outer s H vs Q E hr h => ?_)
  · obtain ⟨a, C, dx, b, i, k, rfl, _⟩ := h
    rfl
  obtain ⟨a, C, dx, b, i, k, rfl, z0, z1, ha, hC, ⟨dxb, tb, n, eb, etb⟩, hk, k1, k2⟩ := h
  have hr1 : Room 1 _ := hr.mono (by decide)
  have hr3 : Room 3 _ := hr.mono (by decide)
  have hr4 : Room 4 _ := hr.mono (by decide)
  have INu := (fcNu (K := K)).ins T
  refine ⟨_, pss_cons (ps_expr (pe_call GC hr4 rfl (T.g "check_name") FC'.kp bC .nil (L2N.passes_call (E := E) (L2N.takes_of rfl rfl rfl rfl) (fun _ _ _ _ h => h)) (pa_cons (pv 1) pa_nil)))
    (pss_cons (ps_if (PW.pt (pw_or (pt_not (pt_val (pe_callB call_isiT rfl (T.f "isinstance") (by decide +kernel) (pa_cons (pv 2) (pa_cons (pe_tup (pa_cons (pe_glob (v := .ref (ga K "Name")) rfl (T.g "Name") rfl) (pa_cons (pe_glob (v := .ref (ga K "Number")) rfl (T.g "Number") rfl) pa_nil))) pa_nil)))))
      (pw_or1 (pt_cmpR op_eq (pe_ix ix_tup (pe_fld (pv 2) rfl) pe_int (fun _ _ => rfl)) (pv 1) (nomark _))))) (pss_one ps_never) pss_nil)
    (pss_cons (ps_expr (pe_call GK hr1 rfl (T.g "check_formula") FK.kp bK .nil pass0 (pa_cons (pv 3) pa_nil)))
    (pss_cons (ps_if (pt_cmpR op_in_seq (pv 1) (pe_call GX hr rfl (T.g "index_names") FX.kp bX .nil pass0 (pa_cons (pv 3) pa_nil)) rfl)
      (pss_one (L2N.ps_raise rfl (L2N.takes_of rfl rfl rfl rfl) (pmkN_oex (x := "BadName") TB.o TB.ini TB.inT GB hr3 bB .nil pass0 rfl (T.g "BadName") (pa_cons (pv 1) pa_nil)))) pss_nil)
    (pss_one (ps_expr (pe_clfn (x := "Formula") rfl (T.g "Formula") T.foI GF hr4 FF.kp bF .nil (L2N.passes_call (E := E) (L2N.takes_of rfl rfl rfl rfl) (fun _ _ _ _ h => h)) (pa_cons (pv 0) (pa_cons pe_str (pa_cons (pe_tup (pa_cons (pv 1) (pa_cons (pv 2) (pa_cons (pv 3) pa_nil)))) (pa_cons (pe_tup (pa_cons (pv 3) pa_nil)) pa_nil)))))))))), ?_⟩
  -- the name
  refine ⟨_, rfl, .str i, _, rfl, .str i z1, fun _ H1 s1 => ?_, fun e => absurd (show isNmS i = false from e) (by rw [z0]; decide)⟩
  -- the bound
  refine ⟨_, rfl, tsz (by show 2 ≤ 1000; decide), fun tp htp => ?_⟩
  have s2 : Same H1 (upd H1 tp (.tup [.ref (ga K "Name"), .ref (ga K "Number")])) := fun b o q => by rw [upd_ne (ne_of_none q htp)]; exact q
  have etp : (upd H1 tp (.tup [.ref (ga K "Name"), .ref (ga K "Number")])) tp = some (.tup [.ref (ga K "Name"), .ref (ga K "Number")]) := upd_same
  generalize upd H1 tp (.tup [.ref (ga K "Name"), .ref (ga K "Number")]) = H2 at s2 etp ⊢
  have s02 := s1.trans s2
  refine ⟨.ref b, tp, _, _, _, true, rfl, etp, .cons (.own _) (.cons (.own _) .nil), .base (.ins (s02 _ _ eb) INu.cl INu.ha INu.hn INu.ht INu.hm), kitAny_cons T.kNN (fun _ => kitAny_cons T.kNu (fun h => nomatch h) (fun _ => rfl)) (fun h => nomatch h), _, rfl, ?_⟩
  refine ite2 (fun h => Bool.noConfusion (show false = true from h)) (fun _ => ?_)
  refine ⟨_, rfl, b, _, dxb, _, _, rfl, s02 _ _ eb, INu.cl, INu.no "things" (by decide +kernel), rfl, tb, _, _, .int n, rfl, rfl, SqT.of (s02 _ _ etb), rfl, _, rfl, rfl, _, rfl, ?_⟩
  refine ite2 (fun h => absurd (of_decide_eq_true h) (fun z => nomatch z)) (fun _ => ?_)
  -- the body
  refine ⟨_, rfl, _, k, rfl, hk.same s02, ?_⟩
  refine ⟨_, rfl, _, rfl, k, rfl, (hk.same s02).mono hk.small.2.1, fun l H3 s3 hl el => ⟨l, _, rfl, .inl (SqL.of el), rfl, flat_strs _, _, rfl, ?_⟩⟩
  have s03 := s02.trans s3
  refine ite2 (fun h => ?_) (fun h => ?_)
  · have h : inV (.str i) (k.ix.map V.str) = true := h
    rw [inV_strs] at h
    exact ⟨_, rfl, by show 1 ≤ 1000; decide, err_made TB fun H4 d s4 hd hx => k1 (of_decide_eq_true h) H4 d (s03.trans s4) (none_back s03 hd) hx⟩
  · have h : ¬ (inV (.str i) (k.ix.map V.str) = true) := h
    rw [inV_strs] at h
    have ni : i ∉ k.ix := fun z => h (decide_eq_true z)
    refine ⟨_, rfl, _, rfl, _, rfl, _, rfl, tsz (by show 3 ≤ 1000; decide), fun t ht => ⟨_, rfl, tsz (by show 1 ≤ 1000; decide), fun e he => ?_⟩⟩
    have s4 : Same H3 (upd H3 t (.tup [.str i, .ref b, .ref k.a])) := fun b o q => by rw [upd_ne (ne_of_none q ht)]; exact q
    have et : (upd H3 t (.tup [.str i, .ref b, .ref k.a])) t = some (.tup [.str i, .ref b, .ref k.a]) := upd_same
    generalize upd H3 t (.tup [.str i, .ref b, .ref k.a]) = H4 at s4 et he ⊢
    have s5 : Same H4 (upd H4 e (.tup [.ref k.a])) := fun b o q => by rw [upd_ne (ne_of_none q he)]; exact q
    have ee : (upd H4 e (.tup [.ref k.a])) e = some (.tup [.ref k.a]) := upd_same
    generalize upd H4 e (.tup [.ref k.a]) = H5 at s5 ee ⊢
    have s05 := (s03.trans s4).trans s5
    refine resI_form (k2 ni) s05 ha (hC.ins T) (.sum (s5 _ _ et)) ee (fun q hq => ?_) (by show 1 ≤ 10; decide)
    rcases List.mem_cons.mp hq with rfl | hq
    · exact (hk.same s05).kid T
    · cases hq
end
end K2
set_option Elab.async false
set_option linter.all false
set_option maxRecDepth 100000
set_option maxHeartbeats 4000000
namespace K2
open PySem PySem.Spec PyProof.Rows L2 He Sw
section
variable {P : Program} {w : World} {K : PySem.W.Frag} {mg : Str → Option Value} {base : Heap}
/-! ### is_row -/
def spRow : Sp := fun vs H Q _ => ∃ (l : Addr) (xs : List V), vs = [.ref l] ∧ H l = some (.lst xs) ∧ ∀ H', Same H H' → Q (.bl true) H'
theorem scRow : FnScope ["thing"] ["thing"] (defScope sIsRow) := ⟨rfl, rfl, rfl, by decide +kernel, rfl, by decide +kernel, by decide +kernel⟩
theorem ok_row {fd : FuncData} (T : Txt K mg) (F : FnG K "is_row" sIsRow fd) : FnOk P w K mg base CX0 1 (ga K "is_row") fd ["thing"] spRow := by
  refine F.ok scRow (fun vs H Q E h => ?_) (fun cdv A outer s H vs Q E hr h => ?_)
  · obtain ⟨l, xs, rfl, _⟩ := h
    rfl
  obtain ⟨l, xs, rfl, el, q⟩ := h
  refine ⟨_, PSs.nox (pss_one (ps_ret (pe_callB call_isiT rfl (T.f "isinstance") (by decide +kernel) (pa_cons (pv 0) (pa_cons (pe_tup (pa_cons (pe_bltn (v := .ty "list") rfl (T.f "list") (by decide +kernel) rfl) (pa_cons (pe_bltn (v := .ty "tuple") rfl (T.f "tuple") (by decide +kernel) rfl) pa_nil))) pa_nil))))), ?_⟩
  refine ⟨_, rfl, tsz (by show 2 ≤ 1000; decide), fun tp htp => ?_⟩
  have s2 : Same H (upd H tp (.tup [.ty "list", .ty "tuple"])) := fun b o q => by rw [upd_ne (ne_of_none q htp)]; exact q
  have etp : (upd H tp (.tup [.ty "list", .ty "tuple"])) tp = some (.tup [.ty "list", .ty "tuple"]) := upd_same
  generalize upd H tp (.tup [.ty "list", .ty "tuple"]) = H2 at s2 etp ⊢
  exact ⟨.ref l, tp, _, .type "list", [.type "list", .type "tuple"], true, rfl, etp, .cons (.ty _) (.cons (.ty _) .nil), .base (.lst (s2 _ _ el)), kitAny_cons (b := true) (kit_ty (show kitB _ _ = some true by decide +kernel)) (fun h => nomatch h) (fun _ => rfl), q H2 s2⟩
/-! ### Call.__init__ -/
def spCallI (K : PySem.W.Frag) : Sp := fun vs H Q E => ∃ (a C dx l : Addr) (z : Str) (ks : List Kd), vs = [.ref a, .str z, .ref l] ∧ isNmS z = true ∧ z.length ≤ 100 ∧ H a = some (.ins C dx []) ∧ FC K C ∧ H l = some (.lst (refs ks)) ∧ 1 ≤ ks.length ∧ ks.length ≤ 4 ∧ (∀ k ∈ ks, FmD K H k) ∧
  ResI K H a C dx "call" [] ks Q E
theorem scCall : FnScope ["self", "name", "things", "thing"] ["self", "name", "things"] (defScope sCall) := ⟨rfl, rfl, rfl, by decide +kernel, rfl, by decide +kernel, by decide +kernel⟩
theorem ok_call {fd fdF fdC fdN fdB fdS fdK fdR : FuncData} (T : Txt K mg) (F : FnM K "Call" "Call.__init__" sCall [] fd) (FF : FnM K "Formula" "Formula.__init__" sForm [] fdF) (FC' : FnG K "check_name" sCkName fdC) (FN : FnG K "is_name" sIsName fdN) (FB : FnM K "BadName" "BadName.__init__" sBName [] fdB)
    (FS : FnM K "SameError" "SameError.__init__" sSE [.non] fdS) (FK : FnG K "check_formula" sCkForm fdK) (FR : FnG K "is_row" sIsRow fdR)
    (GF : FnOk P w K mg base (L2N.CX P w) 4 (ma K (ga K "Formula") "__init__") fdF ["self", "kind", "things", "inner"] (spForm K)) :
    FnOk P w K mg base (L2N.CX P w) 5 (ma K (ga K "Call") "__init__") fd ["self", "name", "things"] (spCallI K) := by
  have GC : FnOk P w K mg base (L2N.CX P w) 4 (ga K "check_name") fdC ["thing"] (spCkName K) := ok_ckName T FC' FN FB FS
  have GK : FnOk P w K mg base CX0 1 (ga K "check_formula") fdK ["thing"] (spCkForm K) := ok_ckForm T FK
  have GR : FnOk P w K mg base CX0 1 (ga K "is_row") fdR ["thing"] spRow := ok_row T FR
  have bC : Binds K fdC ["thing"] [] := FC'.bindsN fun _ _ _ _ _ _ us hl => match us, hl with | [_], _ => rfl
  have bK : Binds K fdK ["thing"] [] := FK.bindsN fun _ _ _ _ _ _ us hl => match us, hl with | [_], _ => rfl
  have bR : Binds K fdR ["thing"] [] := FR.bindsN fun _ _ _ _ _ _ us hl => match us, hl with | [_], _ => rfl
  have bF : Binds K fdF ["self", "kind", "things", "inner"] [] := FF.bindsN fun _ _ _ _ _ _ us hl => match us, hl with | [_, _, _, _], _ => rfl
  obtain ⟨t4, h4⟩ := T.mThg
  refine F.ok scCall (fun vs H Q E h => ?_) (fun cdv A outer s H vs Q E hr h => ?_)
  · obtain ⟨a, C, dx, l, z, ks, rfl, _⟩ := h
    rfl
  obtain ⟨a, C, dx, l, z, ks, rfl, z0, z1, ha, hC, el, n1, n4, hk, ri⟩ := h
  have nd := scCall.nd
  have hr1 : Room 1 _ := hr.mono (by decide)
  refine ⟨_, pss_cons (ps_expr (pe_call GC hr rfl (T.g "check_name") FC'.kp bC .nil (L2N.passes_call (E := E) (L2N.takes_of rfl rfl rfl rfl) (fun _ _ _ _ h => h)) (pa_cons (pv 1) pa_nil)))
    (pss_cons (ps_if (PW.pt (pw_or (pt_not (pt_val (pe_call GR hr1 rfl (T.g "is_row") FR.kp bR .nil pass0 (pa_cons (pv 2) pa_nil))))
      (pw_or1 (pt_not (pt_chain op_le op_le pe_int (pe_callB call_len_seq rfl (T.f "len") (by decide +kernel) (pa_cons (pv 2) pa_nil)) (pe_glob (v := .int 4) rfl h4 ⟨_, rfl⟩)))))) (pss_one ps_never) pss_nil)
    (pss_cons (ps_for PassesOwn.leaving rfl (pi_list (pv 2)) (pg_name (i := 3) nd rfl (Or.inl rfl)) (pss_one (ps_expr (pe_call GK hr1 rfl (T.g "check_formula") FK.kp bK .nil pass0 (pa_cons (pv 3) pa_nil)))))
    (pss_one (ps_expr (pe_clfn (x := "Formula") rfl (T.g "Formula") T.foI GF hr FF.kp bF .nil (L2N.passes_call (E := E) (L2N.takes_of rfl rfl rfl rfl) (fun _ _ _ _ h => h)) (pa_cons (pv 0) (pa_cons pe_str (pa_cons (pe_tup (pa_cons (pv 1) (pa_cons (pe_callTy call_tuple_of rfl (T.f "tuple") (by decide +kernel) (pa_cons (pv 2) pa_nil)) pa_nil)))
      (pa_cons (pe_callTy call_tuple_of rfl (T.f "tuple") (by decide +kernel) (pa_cons (pv 2) pa_nil)) pa_nil))))))))), ?_⟩
  -- the name
  refine ⟨_, rfl, .str z, _, rfl, .str z z1, fun _ H1 s1 => ?_, fun e => absurd (show isNmS z = false from e) (by rw [z0]; decide)⟩
  -- the row
  refine ⟨_, rfl, l, _, rfl, s1 _ _ el, fun H2 s2 => ⟨_, rfl, ?_⟩⟩
  have s02 := s1.trans s2
  have lr : (refs ks).length = ks.length := by simp [refs]
  refine ite2 (fun h => Bool.noConfusion (show false = true from h)) (fun _ => ?_)
  refine ⟨_, rfl, l, _, rfl, .inl (SqL.of (s02 _ _ el)), _, _, rfl, rfl, _, rfl, ?_⟩
  refine ite2 (fun h => ?_) (fun h => absurd (decide_eq_true (by rw [lr]; omega)) h)
  refine ⟨_, _, rfl, rfl, _, rfl, ?_⟩
  refine ite2 (fun h => ?_) (fun _ => ?_)
  · have h : (!decide (((refs ks).length : Int) ≤ 4)) = true := h
    rw [decide_eq_true (by rw [lr]; omega)] at h
    cases h
  -- each thing is a formula
  refine ⟨_, rfl, l, rfl, ⟨_, SqL.of (s02 _ _ el)⟩, for_list (xs := refs ks) (fun _ σ H' => (∃ v, σ = [some (.ref a), some (.str z), some (.ref l), v]) ∧ H' = H2) ⟨⟨none, rfl⟩, rfl⟩ (fun i σ H' _ ⟨_, eH⟩ => by rw [eH]; exact SqL.of (s02 _ _ el)) ?_ ?_⟩
  · rintro i x σ H' hx ⟨⟨v, rfl⟩, rfl⟩
    obtain ⟨k, hkj, rfl⟩ : ∃ k, ks[i]? = some k ∧ V.ref k.a = x := by
      unfold refs at hx
      rw [List.getElem?_map] at hx
      cases h : ks[i]? with
      | none => rw [h] at hx; cases hx
      | some k => rw [h] at hx; exact ⟨k, rfl, by injection hx⟩
    exact ⟨_, rfl, _, k, rfl, (hk k (List.mem_of_getElem? hkj)).same s02, ⟨_, rfl⟩, rfl⟩
  · rintro σ H' ⟨⟨v, rfl⟩, rfl⟩
    refine ⟨_, rfl, _, rfl, _, rfl, l, _, rfl, .inl ⟨SqL.of (s02 _ _ el), fun u hu => ?_⟩⟩
    have s3 : Same H' (upd H' u (.tup (refs ks))) := fun b o q => by rw [upd_ne (ne_of_none q hu)]; exact q
    have eu : (upd H' u (.tup (refs ks))) u = some (.tup (refs ks)) := upd_same
    generalize upd H' u (.tup (refs ks)) = H3 at s3 eu ⊢
    refine ⟨tsz (by show 2 ≤ 1000; decide), fun t ht => ?_⟩
    have s4 : Same H3 (upd H3 t (.tup [.str z, .ref u])) := fun b o q => by rw [upd_ne (ne_of_none q ht)]; exact q
    have et : (upd H3 t (.tup [.str z, .ref u])) t = some (.tup [.str z, .ref u]) := upd_same
    generalize upd H3 t (.tup [.str z, .ref u]) = H4 at s4 et ⊢
    have s04 := (s02.trans s3).trans s4
    refine ⟨_, rfl, l, _, rfl, .inl ⟨SqL.of (s04 _ _ el), fun e he => ?_⟩⟩
    have s5 : Same H4 (upd H4 e (.tup (refs ks))) := fun b o q => by rw [upd_ne (ne_of_none q he)]; exact q
    have ee : (upd H4 e (.tup (refs ks))) e = some (.tup (refs ks)) := upd_same
    generalize upd H4 e (.tup (refs ks)) = H5 at s5 ee ⊢
    have s05 := s04.trans s5
    exact resI_form ri s05 ha (hC.ins T) (.call (s5 _ _ et) (s5 _ _ (s4 _ _ eu))) ee (fun q hq => ((hk q hq).same s05).kid T) (by omega)
end
end K2
set_option Elab.async false
set_option linter.all false
set_option maxRecDepth 100000
set_option maxHeartbeats 2000000
namespace K2
open PySem PySem.Spec PyProof.Rows L2 He Sw
section
variable {P : Program} {w : World} {K : PySem.W.Frag} {mg : Str → Option Value} {base : Heap}
/-! ### draws -/
/-- at st: the script's copy and the three numbers of the draws -/
def StAt (H : Hp) (st : Addr) (ns : Addr × List Int) : Prop := ∃ (a b c : Int), H st = some (.lst [.ref ns.1, .int a, .int b, .int c]) ∧ H ns.1 = some (.lst (ns.2.map V.int)) ∧ 0 ≤ a ∧ 0 ≤ b ∧ b < 2147483647 ∧ 0 ≤ c
theorem SameBut.refl {a : Addr} {H : Hp} : SameBut a H H := fun _ _ _ e => e
theorem sameBut_upd {a : Addr} {H : Hp} {o : HO} : SameBut a H (upd H a o) := fun b u hb e => by rw [upd_ne hb]; exact e
theorem StAt.put {H : Hp} {st l : Addr} {ns : List Int} {a b c a' b' c' : Int} (h1 : H st = some (.lst [.ref l, .int a, .int b, .int c])) (h2 : H l = some (.lst (ns.map V.int))) (ha : 0 ≤ a') (hb : 0 ≤ b') (hb2 : b' < 2147483647) (hc : 0 ≤ c') (hn : l ≠ st) :
    StAt (upd H st (.lst [.ref l, .int a', .int b', .int c'])) st (l, ns) := ⟨a', b', c', upd_same, by rw [upd_ne hn]; exact h2, ha, hb, hb2, hc⟩
theorem StAt.same {H H' : Hp} {st : Addr} {ns : Addr × List Int} (h : StAt H st ns) (s : Same H H') : StAt H' st ns := by
  obtain ⟨a, b, c, h1, h2, h3⟩ := h
  exact ⟨a, b, c, s _ _ h1, s _ _ h2, h3⟩
theorem st_ne {H : Hp} {st l : Addr} {ns : List Int} {a b c : Int} (h1 : H st = some (.lst [.ref l, .int a, .int b, .int c])) (h2 : H l = some (.lst (ns.map V.int))) : l ≠ st := fun z => by
  rw [z, h1] at h2
  cases ns with
  | nil => cases h2
  | cons n r => cases h2
def spDraw : Sp := fun vs H Q _ => ∃ (st : Addr) (many : Int) (ns : Addr × List Int), vs = [.ref st, .int many] ∧ 0 < many ∧ many ≤ 10 ^ 30 ∧ StAt H st ns ∧ ∀ r H', 0 ≤ r → r < many → StAt H' st ns → SameBut st H H' → Q (.int r) H'
theorem spDraw_len : ∀ vs H Q E, spDraw vs H Q E → vs.length = ["_law_state", "_law_many"].length := fun vs H Q E h => by
  obtain ⟨st, many, ns, rfl, _⟩ := h
  rfl
theorem scDraw : FnScope ["_law_state", "_law_many", "_law_drawn", "_law_cell", "_law_k", "_law_mixed"] ["_law_state", "_law_many"] (defScope sDraw) := ⟨rfl, rfl, rfl, by decide +kernel, rfl, by decide +kernel, by decide +kernel⟩
theorem wideMany {i many : Int} (h0 : 0 < many) (h1 : many ≤ 10 ^ 30) : CDivW i many := wide_div (b := 100) h0 (wide_le (by omega) h1 (by decide)) (by decide) (by decide)
theorem small64 {i : Int} (h0 : 0 ≤ i) (h1 : i < 2147483647) : -(2 ^ 64) < i ∧ i < 2 ^ 64 := ⟨by omega, by omega⟩
theorem ok_draw {fd : FuncData} (T : Txt K mg) (F : FnG K "_law_draw" sDraw fd) : FnOk P w K mg base CX0 1 (ga K "_law_draw") fd ["_law_state", "_law_many"] spDraw := by
  refine F.ok scDraw spDraw_len (fun cdv A outer s H vs Q E hr h => ?_)
  obtain ⟨st, many, ⟨l, ns⟩, rfl, m0, m1, ⟨a, b, c, h1, h2, a0, b0, b1, c0⟩, k⟩ := h
  dsimp only at h1 h2
  obtain ⟨cn, rfl⟩ := Int.eq_ofNat_of_zero_le c0
  have nd := scDraw.nd
  have nls := st_ne h1 h2
  refine ⟨_, PSs.nox (pss_cons (ps_if (pt_cmpR op_gt (pe_ix ix_list (pv 0) pe_int (fun _ _ => rfl)) pe_int (nomark _))
      (pss_cons (ps_set (i := 2) nd rfl (Or.inl rfl) (pe_op op_mod (pe_callTy call_int1 rfl (T.f "int") (by decide +kernel) (pa_cons (pe_ix ix_list (pv 0) pe_int (fun _ _ => rfl)) pa_nil)) (pv 1)))
      (pss_cons (ps_asg (pe_op op_fdivW (pe_ix ix_list (pv 0) pe_int (fun _ _ => rfl)) (pv 1)) (pg_sub (pv 0) pe_int set_list))
      (pss_one (ps_ret (pv 2))))) pss_nil)
    (pss_cons (ps_set (i := 3) nd rfl (Or.inl rfl) pe_int)
    (pss_cons (ps_set (i := 4) nd rfl (Or.inl rfl) (pe_ix ix_list (pv 0) pe_int (fun _ _ => rfl)))
    (pss_cons (ps_asg (pe_op op_add (pv 4) pe_int) (pg_sub (pv 0) pe_int set_list))
    (pss_cons (ps_if (pt_cmpR op_lt (pv 4) (pe_callB call_len_seq rfl (T.f "len") (by decide +kernel) (pa_cons (pe_ix ix_list (pv 0) pe_int (fun _ _ => rfl)) pa_nil)) (nomark _))
      (pss_cons (ps_set (i := 3) nd rfl (Or.inl rfl) (pe_callB call_abs rfl (T.f "abs") (by decide +kernel) (pa_cons (pe_ix ix_list (pe_ix ix_list (pv 0) pe_int (fun _ _ => rfl)) (pv 4) (fun _ _ => rfl)) pa_nil)))
      (pss_one (ps_if (pt_cmpR op_ge (pv 3) (pe_op op_pow pe_int pe_int) (nomark _))
        (pss_cons (ps_asg (pe_op op_fdivW (pv 3) (pv 1)) (pg_sub (pv 0) pe_int set_list))
        (pss_one (ps_ret (pe_op op_mod (pe_callTy call_int1 rfl (T.f "int") (by decide +kernel) (pa_cons (pv 3) pa_nil)) (pv 1))))) pss_nil))) pss_nil)
    (pss_cons (ps_asg (pe_op op_mod (pe_callTy call_int1 rfl (T.f "int") (by decide +kernel) (pa_cons (pe_op op_add (pe_op op_add (pe_op op_add (pe_op op_mul (pe_ix ix_list (pv 0) pe_int (fun _ _ => rfl)) pe_int) (pe_op op_mul (pv 3) pe_int))
        (pe_op op_mul pe_int (pv 4))) pe_int) pa_nil)) pe_int) (pg_sub (pv 0) pe_int set_list))
    (pss_cons (ps_set (i := 5) nd rfl (Or.inl rfl) (pe_op op_mod (pe_callTy call_int1 rfl (T.f "int") (by decide +kernel) (pa_cons (pe_op op_mul (pe_ix ix_list (pv 0) pe_int (fun _ _ => rfl))
        (pe_op op_add (pe_op op_fdiv (pe_ix ix_list (pv 0) pe_int (fun _ _ => rfl)) pe_int) pe_int)) pa_nil)) pe_int))
    (pss_cons (ps_set (i := 5) nd rfl (Or.inl rfl) (pe_op op_mod (pe_callTy call_int1 rfl (T.f "int") (by decide +kernel) (pa_cons (pe_op op_mul (pv 5) (pe_op op_add (pe_op op_fdiv (pv 5) pe_int) pe_int)) pa_nil)) pe_int))
    (pss_one (ps_ret (pe_op op_mod (pe_op op_fdiv (pv 5) pe_int) (pv 1)))))))))))), ?_⟩
  refine ⟨_, rfl, st, _, _, _, rfl, rfl, SqL.of h1, atI_nat (j := 1) rfl, _, _, rfl, rfl, _, rfl, ?_⟩
  refine ite2 (fun h => ?_) (fun h => ?_)
  · -- something is left of a great cell
    refine ⟨_, rfl, st, _, _, _, rfl, rfl, SqL.of h1, atI_nat (j := 1) rfl, .inl ⟨_, rfl, _, rfl, _, _, rfl, rfl, m0, ?_⟩⟩
    refine ⟨_, rfl, st, _, _, _, rfl, rfl, SqL.of h1, atI_nat (j := 1) rfl, _, rfl, _, _, rfl, rfl, wideMany m0 m1, _, rfl, st, _, _, 1, rfl, rfl, h1, rfl, ?_⟩
    refine ⟨_, rfl, ?_⟩
    exact k _ _ (Int.emod_nonneg _ (by omega)) (Int.emod_lt_of_pos _ m0) (StAt.put h1 h2 (Int.ediv_nonneg a0 (by omega)) b0 b1 c0 nls) sameBut_upd
  -- the next cell
  refine ⟨_, rfl, st, _, _, _, rfl, rfl, SqL.of h1, atI_nat (j := 3) rfl, ?_⟩
  refine ⟨_, rfl, _, _, rfl, rfl, _, rfl, st, _, _, 3, rfl, rfl, h1, rfl, ?_⟩
  generalize hH1 : upd H st _ = H1
  have S1 : H1 st = some (.lst [.ref l, .int a, .int b, .int ((cn : Int) + 1)]) := by rw [← hH1]; exact upd_same
  have L1 : H1 l = some (.lst (ns.map V.int)) := by rw [← hH1, upd_ne nls]; exact h2
  have B1 : SameBut st H H1 := by rw [← hH1]; exact sameBut_upd
  clear hH1
  refine ⟨_, rfl, _, rfl, st, _, _, _, rfl, rfl, SqL.of S1, atI_nat (j := 0) rfl, l, _, rfl, .inl (SqL.of L1), _, _, rfl, rfl, _, rfl, ?_⟩
  refine ite2 (fun hlt => ?_) (fun hlt => ?_)
  · have lt : cn < ns.length := by
      have q : (cn : Int) < ((ns.map V.int).length : Nat) := of_decide_eq_true hlt
      rw [List.length_map] at q
      omega
    have hx : (ns.map V.int)[cn]? = some (V.int ns[cn]) := by rw [List.getElem?_map, List.getElem?_eq_getElem lt]; rfl
    refine ⟨_, rfl, st, _, _, _, rfl, rfl, SqL.of S1, atI_nat (j := 0) rfl, _, rfl, l, _, _, _, rfl, rfl, SqL.of L1, atI_nat hx, _, rfl, ?_⟩
    refine ⟨_, rfl, _, _, rfl, rfl, ⟨by decide, by decide, by decide⟩, _, _, rfl, rfl, _, rfl, ?_⟩
    refine ite2 (fun hge => ?big) (fun _ => ?_)
    case big =>
      refine ⟨_, rfl, _, rfl, _, _, rfl, rfl, wideMany m0 m1, _, rfl, st, _, _, 1, rfl, rfl, S1, rfl, ?_⟩
      refine ⟨_, rfl, .inl ⟨_, rfl, _, rfl, _, _, rfl, rfl, m0, ?_⟩⟩
      refine k _ _ (Int.emod_nonneg _ (by omega)) (Int.emod_lt_of_pos _ m0) (StAt.put S1 L1 (Int.ediv_nonneg ?_ (by omega)) b0 b1 (by omega) nls) (B1.trans sameBut_upd)
      split <;> omega
    refine ⟨_, rfl, st, _, _, _, rfl, rfl, SqL.of S1, atI_nat (j := 2) rfl, _, _, rfl, rfl, .inl (small64 b0 b1), _, rfl, _, _, rfl, rfl, .inr ⟨by decide, by decide⟩, _, _, rfl, rfl, _, rfl, _, _, rfl, rfl, .inl ⟨by decide, by decide⟩, _, _, rfl, rfl, _, _, rfl, rfl,
      .inl ⟨_, rfl, _, _, rfl, rfl, (by decide : (0 : Int) < 2147483647), _, rfl, st, _, _, 2, rfl, rfl, S1, rfl, ?_⟩⟩
    generalize hH2 : upd H1 st _ = H2
    have S2 : ∃ b', H2 st = some (.lst [.ref l, .int a, .int b', .int ((cn : Int) + 1)]) ∧ 0 ≤ b' ∧ b' < 2147483647 :=
      ⟨_, by rw [← hH2]; exact upd_same, Int.emod_nonneg _ (by decide), Int.emod_lt_of_pos _ (by decide)⟩
    obtain ⟨b', S2, b0', b1'⟩ := S2
    have L2 : H2 l = some (.lst (ns.map V.int)) := by rw [← hH2, upd_ne nls]; exact L1
    have B2 : SameBut st H H2 := by rw [← hH2]; exact B1.trans sameBut_upd
    clear hH2
    refine ⟨_, rfl, st, _, _, _, rfl, rfl, SqL.of S2, atI_nat (j := 2) rfl, _, rfl, st, _, _, _, rfl, rfl, SqL.of S2, atI_nat (j := 2) rfl, _, _, rfl, rfl, ⟨by decide, by decide⟩, _, _, rfl, rfl, _, _, rfl, rfl, .inl (small64 b0' b1'),
      .inl ⟨_, rfl, _, _, rfl, rfl, (by decide : (0 : Int) < 2147483647), ?_⟩⟩
    refine ⟨_, rfl, _, rfl, _, _, rfl, rfl, ⟨by decide, by decide⟩, _, _, rfl, rfl, _, _, rfl, rfl, .inl (small64 (Int.emod_nonneg _ (by decide)) (Int.emod_lt_of_pos _ (by decide))), .inl ⟨_, rfl, _, _, rfl, rfl, (by decide : (0 : Int) < 2147483399), ?_⟩⟩
    refine ⟨_, rfl, _, _, rfl, rfl, ⟨by decide, by decide⟩, _, rfl, _, _, rfl, rfl, m0, ?_⟩
    exact k _ _ (Int.emod_nonneg _ (by omega)) (Int.emod_lt_of_pos _ m0) ⟨a, b', _, S2, L2, a0, b0', b1', by omega⟩ B2
  · refine ⟨_, rfl, st, _, _, _, rfl, rfl, SqL.of S1, atI_nat (j := 2) rfl, _, _, rfl, rfl, .inl (small64 b0 b1), _, rfl, _, _, rfl, rfl, .inr ⟨by decide, by decide⟩, _, _, rfl, rfl, _, rfl, _, _, rfl, rfl, .inl ⟨by decide, by decide⟩, _, _, rfl, rfl, _, _, rfl, rfl,
      .inl ⟨_, rfl, _, _, rfl, rfl, (by decide : (0 : Int) < 2147483647), _, rfl, st, _, _, 2, rfl, rfl, S1, rfl, ?_⟩⟩
    generalize hH2 : upd H1 st _ = H2
    have S2 : ∃ b', H2 st = some (.lst [.ref l, .int a, .int b', .int ((cn : Int) + 1)]) ∧ 0 ≤ b' ∧ b' < 2147483647 :=
      ⟨_, by rw [← hH2]; exact upd_same, Int.emod_nonneg _ (by decide), Int.emod_lt_of_pos _ (by decide)⟩
    obtain ⟨b', S2, b0', b1'⟩ := S2
    have L2 : H2 l = some (.lst (ns.map V.int)) := by rw [← hH2, upd_ne nls]; exact L1
    have B2 : SameBut st H H2 := by rw [← hH2]; exact B1.trans sameBut_upd
    clear hH2
    refine ⟨_, rfl, st, _, _, _, rfl, rfl, SqL.of S2, atI_nat (j := 2) rfl, _, rfl, st, _, _, _, rfl, rfl, SqL.of S2, atI_nat (j := 2) rfl, _, _, rfl, rfl, ⟨by decide, by decide⟩, _, _, rfl, rfl, _, _, rfl, rfl, .inl (small64 b0' b1'),
      .inl ⟨_, rfl, _, _, rfl, rfl, (by decide : (0 : Int) < 2147483647), ?_⟩⟩
    refine ⟨_, rfl, _, rfl, _, _, rfl, rfl, ⟨by decide, by decide⟩, _, _, rfl, rfl, _, _, rfl, rfl, .inl (small64 (Int.emod_nonneg _ (by decide)) (Int.emod_lt_of_pos _ (by decide))), .inl ⟨_, rfl, _, _, rfl, rfl, (by decide : (0 : Int) < 2147483399), ?_⟩⟩
    refine ⟨_, rfl, _, _, rfl, rfl, ⟨by decide, by decide⟩, _, rfl, _, _, rfl, rfl, m0, ?_⟩
    exact k _ _ (Int.emod_nonneg _ (by omega)) (Int.emod_lt_of_pos _ m0) ⟨a, b', _, S2, L2, a0, b0', b1', by omega⟩ B2
end
end K2
set_option Elab.async false
set_option linter.all false
set_option maxRecDepth 100000
set_option maxHeartbeats 4000000
namespace Sw
open PySem PySem.Spec PyProof.Rows L2
/-- [f(c) for c in z if p(c)], neither changes anything -/
theorem lc_filtS {i : Nat} {z : Str} {f : Nat → V} {p : Nat → Bool} {tt : TT} {te : TE} {σ : L2.St} {H1 : Hp} {D : Addr} {Qd : Hp → Prop} (hz : z.length ≤ 1000)
    (hp : ∀ (c : Nat) (H : Hp) (Q : Bool → Hp → Prop), Q (p c) H → tt ((wipe σ [i]).set i (some (.str ⟨#[c]⟩))) H Q)
    (ht : ∀ (c : Nat) (H : Hp) (Q : VK), Q (f c) H → te ((wipe σ [i]).set i (some (.str ⟨#[c]⟩))) H Q) (hd : Qd (upd H1 D (.lst ((z.cps.toList.filter p).map f)))) :
    ∃ W : Nat → Nat → Hp → Prop, (∃ m, W 0 m (upd H1 D (.lst []))) ∧ ∀ j m H, W j m H →
      ((Its z).stop j H ∧ Qd H) ∨ ((Its z).go j H ∧ ∃ Nx : Hp → Prop, (∀ H', Nx H' → ∃ m', m' < m ∧ W (j + 1) m' H') ∧ ∀ x H', (Its z).yld j H x H' → gName i x (wipe σ [i]) H' fun σ2 H2 => wipe σ2 [i] = wipe σ [i] ∧ tt σ2 H2 fun b H3 =>
        if b = true then te σ2 H3 fun y H4 => ∃ acc, H4 D = some (.lst acc) ∧ acc.length < sizeLine ∧ Nx (upd H4 D (.lst (acc ++ [y]))) else Nx H3) := by
  have hsz : z.cps.size ≤ 1000 := hz
  have updd : ∀ (o o' : HO), upd (upd H1 D o) D o' = upd H1 D o' := fun o o' => by
    funext b
    by_cases hb : b = D
    · rw [hb, upd_same, upd_same]
    · rw [upd_ne hb, upd_ne hb, upd_ne hb]
  refine lc_it walk_str (fun j H => H = upd H1 D (.lst (((z.cps.toList.take j).filter p).map f))) (by simp) (fun _ _ _ _ => trivial) ?_ ?_
  · rintro j x H H' hj rfl ⟨rfl, c, hc, rfl⟩
    have hc2 : z.cps.toList[j]? = some c := by rw [Array.getElem?_toList]; exact hc
    refine ⟨by simp [wipe], hp c _ _ (ite2 (fun h => ht c _ _ ⟨_, upd_same, ?_, ?_⟩) fun h => ?_)⟩
    · rw [List.length_map, sizeLine_eq]
      have h1 : ((z.cps.toList.take j).filter p).length ≤ (z.cps.toList.take j).length := List.length_filter_le _ _
      rw [List.length_take] at h1
      omega
    · show upd (upd H1 D _) D _ = _
      rw [updd, List.take_add_one, hc2]
      simp [h]
    · show upd H1 D _ = _
      rw [List.take_add_one, hc2]
      simp [h]
  · rintro H rfl
    have e : z.cps.toList.take z.cps.size = z.cps.toList := List.take_of_length_le (by simp)
    rw [e]
    exact hd
end Sw
namespace K2
open PySem PySem.Spec PyProof.Rows L2 He Sw
section
variable {P : Program} {w : World} {K : PySem.W.Frag} {mg : Str → Option Value} {base : Heap}
/-! ### _law_equal, of a thing with itself -/
def spEqual : Sp := fun vs H Q _ => ∃ (v : V) (n : String), vs = [v, v] ∧ Th H v n ∧ Q (.bl true) H
theorem scEqual : FnScope ["_law_one", "_law_other"] ["_law_one", "_law_other"] (defScope sEqual) := ⟨rfl, rfl, rfl, by decide +kernel, rfl, by decide +kernel, by decide +kernel⟩
/-- a thing is equal to itself -/
theorem Th.eq {H : Hp} {v : V} {n : String} {Q : VK} (t : Th H v n) (q : Q (.bl true) H) : (rEq v v H Q ∨ rEqV K v v H Q) ∨ rEqD K v v H Q := by
  cases t with
  | non => exact .inl (.inl ⟨rfl, by rw [decide_eq_true rfl]; exact q⟩)
  | bl b => exact .inl (.inl ⟨rfl, by rw [decide_eq_true rfl]; exact q⟩)
  | int i => exact .inl (.inl ⟨rfl, by rw [decide_eq_true rfl]; exact q⟩)
  | str z h => exact .inl (.inl ⟨rfl, by rw [decide_eq_true rfl]; exact q⟩)
  | tup a e => exact .inr ⟨_, _, .tup (SqT.of e) (.cons (.str _) .nil), .tup (SqT.of e) (.cons (.str _) .nil), by decide +kernel, by decide +kernel, by
      rw [show PyData.eqv (.tuple [.str "x"]) (.tuple [.str "x"]) = true by decide +kernel]
      exact q⟩
  | lst a e => exact .inl (.inr ⟨1, by decide, .inl ⟨a, a, _, _, rfl, rfl, SqL.of e, SqL.of e, .cons (.inl ⟨rfl, rfl⟩) .nil⟩, q⟩)
  | dct a e => exact .inl (.inr ⟨1, by decide, .inr ⟨a, a, _, _, rfl, rfl, e, e, rfl, fun p hp => by
      have ep : p = (.inr "x", .int 1) := by simpa using hp
      subst ep
      exact ⟨_, rfl, .inl ⟨rfl, rfl⟩⟩⟩, q⟩)
theorem ok_equal {fd : FuncData} (T : Txt K mg) (F : FnG K "_law_equal" sEqual fd) : FnOk P w K mg base CX0 1 (ga K "_law_equal") fd ["_law_one", "_law_other"] spEqual := by
  refine F.ok scEqual (fun vs H Q E h => ?_) (fun cdv A outer s H vs Q E hr h => ?_)
  · obtain ⟨v, n, rfl, _⟩ := h
    rfl
  obtain ⟨v, n, rfl, t, k⟩ := h
  refine ⟨_, PSs.nox (pss_cons (ps_if (PW.pt (pw_or (pt_val (pe_callB call_isi rfl (T.f "isinstance") (by decide +kernel) (pa_cons (pv 0) (pa_cons (pe_bltn (v := .ty "bool") rfl (T.f "bool") (by decide +kernel) rfl) pa_nil))))
      (pw_or1 (pt_val (pe_callB call_isi rfl (T.f "isinstance") (by decide +kernel) (pa_cons (pv 1) (pa_cons (pe_bltn (v := .ty "bool") rfl (T.f "bool") (by decide +kernel) rfl) pa_nil)))))))
      (pss_one (ps_ret (pe_and (pe_callB call_isi rfl (T.f "isinstance") (by decide +kernel) (pa_cons (pv 0) (pa_cons (pe_bltn (v := .ty "bool") rfl (T.f "bool") (by decide +kernel) rfl) pa_nil)))
        (pe_and (pe_callB call_isi rfl (T.f "isinstance") (by decide +kernel) (pa_cons (pv 1) (pa_cons (pe_bltn (v := .ty "bool") rfl (T.f "bool") (by decide +kernel) rfl) pa_nil)))
          (pe_one (pe_cmpR ((op_eq.or (op_eqV hr.units)).or (op_eqD hr.units)) (pv 0) (pv 1) (nomark _))))))) pss_nil)
    (pss_one (ps_ret (pe_cmpR ((op_eq.or (op_eqV hr.units)).or (op_eqD hr.units)) (pv 0) (pv 1) (nomark _))))), ?_⟩
  have fin : ∀ {Q' : VK}, Q' (.bl true) H → (rEq v v H Q' ∨ rEqV K v v H Q') ∨ rEqD K v v H Q' := fun q => t.eq q
  refine ⟨_, rfl, v, .ty "bool", .type n, .type "bool", _, rfl, .ty _, t.ty, t.kBool, _, rfl, ?_⟩
  refine ite2 (fun h => ?_) (fun h => ?_)
  · refine ite2 (fun _ => ?_) (fun h2 => absurd rfl h2)
    refine ⟨_, rfl, v, .ty "bool", .type n, .type "bool", _, rfl, .ty _, t.ty, t.kBool, _, rfl, ?_⟩
    refine ite2 (fun _ => ?_) (fun h2 => absurd h h2)
    refine ⟨_, rfl, v, .ty "bool", .type n, .type "bool", _, rfl, .ty _, t.ty, t.kBool, _, rfl, ?_⟩
    refine ite2 (fun _ => ?_) (fun h2 => absurd h h2)
    exact ⟨_, rfl, _, rfl, fin k⟩
  · refine ⟨_, rfl, v, .ty "bool", .type n, .type "bool", _, rfl, .ty _, t.ty, t.kBool, _, rfl, ?_⟩
    refine ite2 (fun h2 => absurd h2 h) (fun _ => ?_)
    exact ⟨_, rfl, _, rfl, fin k⟩
end
end K2
set_option Elab.async false
set_option linter.all false
set_option maxRecDepth 100000
set_option maxHeartbeats 4000000
namespace K2
open PySem PySem.Spec PyProof.Rows L2 He Sw L2H
section
variable {P : Program} {w : World} {K : PySem.W.Frag} {mg : Str → Option Value} {base : Heap}
/-! ### _law_class, of an exception that is handled -/
def words : List Str := ["name", "width", "number", "bound", "formula", "value", "many", "long"]
def spClass (K : PySem.W.Frag) : Addr × Obj → Sp := fun p vs H Q _ => ∃ (D d : Addr) (fs : List (Str × V)) (idx : Nat) (wd : Str), vs = [.ref p.1] ∧ Zc (.ref D) (some d) p.2 ∧ (∃ ws, p.2.data = .fields ws) ∧ ExcC K D ∧ H d = some (.xd fs) ∧
  (∀ j y, kinds[j]? = some y → PySem.W.kitOne K (.ref D) (.ref (ga K y)) = some (decide (j = idx))) ∧ PySem.W.kitOne K (.ref D) (.type "ValueError") = some true ∧ words[idx]? = some wd ∧ ∀ H', Same H H' → Q (.str wd) H'
theorem scClass : FnScope ["_law_e", "_law_kinds", "_law_words", "_law_found", "_law_k"] ["_law_e"] (defScope sClass) := ⟨rfl, rfl, rfl, by decide +kernel, rfl, by decide +kernel, by decide +kernel⟩
theorem ok_class {fd : FuncData} (T : Txt K mg) (F : FnG K "_law_class" sClass fd) : FnE P w K mg base CX0 1 (ga K "_law_class") fd ["_law_e"] (spClass K) := by
  obtain ⟨oc, od, dV, kV, doc, pm, an, cdv, ct, osl, rfl, lk, hcd, _, _⟩ := F.ex
  refine fn_ofE lk hcd scClass (fun p vs H Q E h => ?_) (fun p A outer s H vs Q E hot hr h => ?_)
  · obtain ⟨D, d, fs, idx, wd, rfl, _⟩ := h
    rfl
  obtain ⟨D, d, fs, idx, wd, rfl, hz, hf, TD, hd, hk, hv, hw, k⟩ := h
  have nd := scClass.nd
  have hc : HotC (cxH CX0 P w K mg base ["_law_e", "_law_kinds", "_law_words", "_law_found", "_law_k"] "_law_class" (defScope sClass) (ga K "_law_class") cdv A outer s H E p).nox := ⟨p, ⟨hot.1, hot.2⟩, List.mem_cons_self⟩
  have hp : p ∈ (cxH CX0 P w K mg base ["_law_e", "_law_kinds", "_law_words", "_law_found", "_law_k"] "_law_class" (defScope sClass) (ga K "_law_class") cdv A outer s H E p).nox.pn := List.mem_cons_self
  refine ⟨_, PSs.nox (pss_cons (ps_set (i := 1) nd rfl (Or.inr rfl) (pe_lst (pa_cons (pe_callB (call_isX TD hp hz hf) rfl (T.f "isinstance") (by decide +kernel) (pa_cons (pv 0) (pa_cons (pe_glob (v := .ref (ga K "BadName")) rfl (T.g "BadName") rfl) pa_nil)))
      (pa_cons (pe_callB (call_isX TD hp hz hf) rfl (T.f "isinstance") (by decide +kernel) (pa_cons (pv 0) (pa_cons (pe_glob (v := .ref (ga K "BadWidth")) rfl (T.g "BadWidth") rfl) pa_nil)))
      (pa_cons (pe_callB (call_isX TD hp hz hf) rfl (T.f "isinstance") (by decide +kernel) (pa_cons (pv 0) (pa_cons (pe_glob (v := .ref (ga K "BadNumber")) rfl (T.g "BadNumber") rfl) pa_nil)))
      (pa_cons (pe_callB (call_isX TD hp hz hf) rfl (T.f "isinstance") (by decide +kernel) (pa_cons (pv 0) (pa_cons (pe_glob (v := .ref (ga K "BadBound")) rfl (T.g "BadBound") rfl) pa_nil))) pa_nil))))))
    (pss_cons (ps_set (i := 1) nd rfl (Or.inr rfl) (pe_op op_cat (pv 1) (pe_lst (pa_cons (pe_callB (call_isX TD hp hz hf) rfl (T.f "isinstance") (by decide +kernel) (pa_cons (pv 0) (pa_cons (pe_glob (v := .ref (ga K "BadFormula")) rfl (T.g "BadFormula") rfl) pa_nil)))
      (pa_cons (pe_callB (call_isX TD hp hz hf) rfl (T.f "isinstance") (by decide +kernel) (pa_cons (pv 0) (pa_cons (pe_glob (v := .ref (ga K "BadValue")) rfl (T.g "BadValue") rfl) pa_nil)))
      (pa_cons (pe_callB (call_isX TD hp hz hf) rfl (T.f "isinstance") (by decide +kernel) (pa_cons (pv 0) (pa_cons (pe_glob (v := .ref (ga K "TooMany")) rfl (T.g "TooMany") rfl) pa_nil)))
      (pa_cons (pe_callB (call_isX TD hp hz hf) rfl (T.f "isinstance") (by decide +kernel) (pa_cons (pv 0) (pa_cons (pe_glob (v := .ref (ga K "TooLong")) rfl (T.g "TooLong") rfl) pa_nil))) pa_nil)))))))
    (pss_cons (ps_set (i := 2) nd rfl (Or.inr rfl) (pe_lst (pa_cons pe_str (pa_cons pe_str (pa_cons pe_str (pa_cons pe_str (pa_cons pe_str (pa_cons pe_str (pa_cons pe_str (pa_cons pe_str pa_nil))))))))))
    (pss_cons (ps_setLcH (i := 3) (own := [("_law_k", 4)]) (n := 8) (lo := 0) (g := gName 4) (tt := tTest (tOp (rIxL K) (tVar 1) (tVar 4))) (te := tOp (rIxL K) (tVar 2) (tVar 4)) hc nd rfl rfl (sw_true rfl rfl rfl (by decide +kernel)) (pi_range1H rfl (T.f "range") (pa_cons pe_int pa_nil))
        (fun σ H R q => ⟨8, rfl, by decide, by decide, q⟩) (blkOk_by (N := ["_law_e", "_law_kinds", "_law_words", "_law_found", "_law_k"]) (sc := defScope sClass) (by decide +kernel)) (fun _ _ _ _ _ => pg_name (i := 4) nd rfl (Or.inl rfl))
        (fun _ _ _ _ _ => pts_one (pt_val (pe_ix ix_list (pv 1) (pv 4) (fun _ _ => rfl)))) (fun _ _ _ _ _ => pe_ix ix_list (pv 2) (pv 4) (fun _ _ => rfl)))
    (pss_cons (ps_if (PW.pt (pw_or (pt_cmpR op_ne (pe_callB call_len_seq rfl (T.f "len") (by decide +kernel) (pa_cons (pv 3) pa_nil)) pe_int (nomark _))
      (pw_or1 (pt_not (pt_val (pe_callB (call_isX TD hp hz hf) rfl (T.f "isinstance") (by decide +kernel) (pa_cons (pv 0) (pa_cons (pe_bltn (v := .ty "ValueError") rfl (T.f "ValueError") (by decide +kernel) rfl) pa_nil))))))))
      (pss_one (ps_ret pe_str)) pss_nil)
    (pss_one (ps_ret (pe_ix ix_list (pv 3) pe_int (fun _ _ => rfl))))))))), ?_⟩
  have idx8 : idx < 8 := (List.getElem?_eq_some_iff.mp hw).1
  have HS : ∀ {H' : Hp}, Same H H' → H' d = some (.xd fs) := fun s' => s' _ _ hd
  -- the first kinds
  refine ⟨_, rfl, V.ref (ga K "BadName"), .ref (ga K "BadName"), _, fs, rfl, fun _ h => h, hk 0 "BadName" rfl, hd, ?_⟩
  refine ⟨_, rfl, V.ref (ga K "BadWidth"), .ref (ga K "BadWidth"), _, fs, rfl, fun _ h => h, hk 1 "BadWidth" rfl, hd, ?_⟩
  refine ⟨_, rfl, V.ref (ga K "BadNumber"), .ref (ga K "BadNumber"), _, fs, rfl, fun _ h => h, hk 2 "BadNumber" rfl, hd, ?_⟩
  refine ⟨_, rfl, V.ref (ga K "BadBound"), .ref (ga K "BadBound"), _, fs, rfl, fun _ h => h, hk 3 "BadBound" rfl, hd, ?_⟩
  refine ⟨by show 4 ≤ sizeLine; rw [sizeLine_eq]; decide, fun A1 f1 => ?_⟩
  generalize hX1 : upd H A1 _ = H1
  have s1 : Same H H1 := fun b o e => by rw [← hX1, upd_ne (ne_of_none e f1)]; exact e
  have e1 : H1 A1 = some (.lst [.bl (decide (0 = idx)), .bl (decide (1 = idx)), .bl (decide (2 = idx)), .bl (decide (3 = idx))]) := by rw [← hX1, upd_same]
  clear hX1
  -- the others
  refine ⟨_, rfl, ?_⟩
  refine ⟨_, rfl, V.ref (ga K "BadFormula"), .ref (ga K "BadFormula"), _, fs, rfl, fun _ h => h, hk 4 "BadFormula" rfl, HS s1, ?_⟩
  refine ⟨_, rfl, V.ref (ga K "BadValue"), .ref (ga K "BadValue"), _, fs, rfl, fun _ h => h, hk 5 "BadValue" rfl, HS s1, ?_⟩
  refine ⟨_, rfl, V.ref (ga K "TooMany"), .ref (ga K "TooMany"), _, fs, rfl, fun _ h => h, hk 6 "TooMany" rfl, HS s1, ?_⟩
  refine ⟨_, rfl, V.ref (ga K "TooLong"), .ref (ga K "TooLong"), _, fs, rfl, fun _ h => h, hk 7 "TooLong" rfl, HS s1, ?_⟩
  refine ⟨by show 4 ≤ sizeLine; rw [sizeLine_eq]; decide, fun A2 f2 => ?_⟩
  generalize hX2 : upd H1 A2 _ = H2
  have s2 : Same H1 H2 := fun b o e => by rw [← hX2, upd_ne (ne_of_none e f2)]; exact e
  have e2 : H2 A2 = some (.lst [.bl (decide (4 = idx)), .bl (decide (5 = idx)), .bl (decide (6 = idx)), .bl (decide (7 = idx))]) := by rw [← hX2, upd_same]
  clear hX2
  refine ⟨A1, A2, _, _, rfl, rfl, s2 _ _ e1, e2, by show 8 ≤ sizeLine; rw [sizeLine_eq]; decide, fun A3 f3 => ?_⟩
  generalize hX3 : upd H2 A3 _ = H3
  have s3 : Same H2 H3 := fun b o e => by rw [← hX3, upd_ne (ne_of_none e f3)]; exact e
  have e3 : H3 A3 = some (.lst [.bl (decide (0 = idx)), .bl (decide (1 = idx)), .bl (decide (2 = idx)), .bl (decide (3 = idx)), .bl (decide (4 = idx)), .bl (decide (5 = idx)), .bl (decide (6 = idx)), .bl (decide (7 = idx))]) := by rw [← hX3, upd_same]; rfl
  clear hX3
  refine ⟨by show 8 ≤ sizeLine; rw [sizeLine_eq]; decide, fun A4 f4 => ?_⟩
  generalize hX4 : upd H3 A4 _ = H4
  have s4 : Same H3 H4 := fun b o e => by rw [← hX4, upd_ne (ne_of_none e f4)]; exact e
  have e4 : H4 A4 = some (.lst (words.map V.str)) := by rw [← hX4, upd_same]; rfl
  clear hX4
  have e3' := s4 _ _ e3
  have s04 : Same H H4 := ((s1.trans s2).trans s3).trans s4
  clear e1 e2 e3 f1 f2 f3 f4
  have hat : ∀ i, i < 8 → atI [V.bl (decide (0 = idx)), .bl (decide (1 = idx)), .bl (decide (2 = idx)), .bl (decide (3 = idx)), .bl (decide (4 = idx)), .bl (decide (5 = idx)), .bl (decide (6 = idx)), .bl (decide (7 = idx))] (0 + (i : Nat)) = some (.bl (decide (i = idx))) := fun i hi =>
    match i, hi with
    | 0, _ | 1, _ | 2, _ | 3, _ | 4, _ | 5, _ | 6, _ | 7, _ => rfl
    | n + 8, h => absurd h (by omega)
  have hwd : atI (words.map V.str) (0 + (idx : Nat)) = some (V.str wd) := by
    rw [Int.zero_add]
    exact atI_nat (by rw [List.getElem?_map, hw]; rfl)
  -- the word
  intro D5 f5
  have up5 : ∀ {H' : Hp} {o : HO}, Same H4 H' → Same H4 (upd H' D5 o) := fun {H' o} s' b o' e => by rw [upd_ne (ne_of_none e f5)]; exact s' _ _ e
  refine ⟨fun i H' => H' D5 = some (.lst (if i ≤ idx then [] else [.str wd])) ∧ Same H4 H', ⟨by rw [upd_same, if_pos (Nat.zero_le _)], up5 (Same.refl H4)⟩, fun i H' hi ⟨hD, sD⟩ => ?_, fun H5 ⟨hD, s5⟩ => ?_⟩
  · refine ⟨rfl, _, rfl, _, rfl, A3, _, _, _, rfl, rfl, SqL.of (sD _ _ e3'), hat i hi, _, rfl, ?_⟩
    refine ite2 (fun h => ?_) (fun h => ?_)
    · have e : i = idx := of_decide_eq_true h
      subst e
      refine ⟨_, rfl, _, rfl, A4, _, _, _, rfl, rfl, SqL.of (sD _ _ e4), hwd, [], ?_, ?_, ?_, up5 sD⟩
      · rw [hD, if_pos (Nat.le_refl _)]
      · show 0 < sizeLine
        rw [sizeLine_eq]
        decide
      · rw [upd_same, if_neg (by omega)]
        rfl
    · have ne : i ≠ idx := fun e => h (decide_eq_true e)
      refine ⟨?_, sD⟩
      rw [hD]
      by_cases c : i ≤ idx
      · rw [if_pos c, if_pos (by omega)]
      · rw [if_neg c, if_neg (by omega)]
  rw [if_neg (by omega)] at hD
  refine ⟨_, rfl, D5, _, rfl, .inl (SqL.of hD), rfl, _, rfl, ?_⟩
  refine ⟨_, rfl, V.ty "ValueError", .type "ValueError", _, fs, rfl, fun _ h => h, hv, HS (s04.trans s5), _, rfl, ?_⟩
  refine ⟨_, rfl, D5, _, _, _, rfl, rfl, SqL.of hD, rfl, k H5 (s04.trans s5)⟩
end
end K2
set_option Elab.async false
set_option linter.all false
set_option maxRecDepth 100000
set_option maxHeartbeats 4000000
namespace K2
open PySem PySem.Spec PyProof.Rows L2 He Sw L2H
section
variable {P : Program} {w : World} {K : PySem.W.Frag} {mg : Str → Option Value} {base : Heap}
/-! ### what lists do not touch -/
def SameT (H H' : Hp) : Prop := ∀ b o, H b = some o → (∀ xs, o ≠ .lst xs) → H' b = some o
theorem SameT.of {H H' : Hp} (s : Same H H') : SameT H H' := fun b o e _ => s b o e
theorem SameT.trans {H H1 H2 : Hp} (x : SameT H H1) (y : SameT H1 H2) : SameT H H2 := fun b o e n => y b o (x b o e n) n
theorem SameT.but {H H' : Hp} {a : Addr} {xs : List V} (s : SameBut a H H') (ha : H a = some (.lst xs)) : SameT H H' := fun b o e n => s b o (fun z => by
  rw [z, ha] at e
  injection e with e
  exact n xs e.symm) e
theorem Shp.sameT {H H' : Hp} {kd : Str} {t : Addr} {as : List V} {own : List Str} (h : Shp H kd t as own) (s : SameT H H') : Shp H' kd t as own := by
  have n : ∀ {xs : List V} (ys : List V), HO.tup xs ≠ .lst ys := fun _ z => by cases z
  cases h with
  | leaf h => exact .leaf h
  | seq h e => exact .seq h (s _ _ e n)
  | shift e => exact .shift (s _ _ e n)
  | sum e => exact .sum (s _ _ e n)
  | call e e2 => exact .call (s _ _ e n) (s _ _ e2 n)
theorem Fm.sameT : ∀ {n : Nat} {H H' : Hp} {k : Kd}, Fm K n H k → SameT H H' → Fm K n H' k
  | n + 1, H, H', k, ⟨ks, ⟨C, dx, t, kd, own, h1, h2, h3, h4⟩, r⟩, s => ⟨ks, ⟨C, dx, t, kd, own, h1, s _ _ h2 (fun _ z => by cases z), h3.sameT s, h4⟩, fun q hq => (r q hq).sameT s⟩
/-! ### _law_fits -/
def spFits (K : PySem.W.Frag) : Sp := fun vs H Q _ => ∃ (k : Kd), vs = [.ref k.a, .int (k.p : Nat), .int (k.d : Nat)] ∧ KidAt K H k ∧ Q (.bl true) H
theorem scFits : FnScope ["_law_formula", "_law_parts", "_law_depth"] ["_law_formula", "_law_parts", "_law_depth"] (defScope sFits) := ⟨rfl, rfl, rfl, by decide +kernel, rfl, by decide +kernel, by decide +kernel⟩
theorem ok_fits {fd fdI : FuncData} (T : Txt K mg) (F : FnG K "_law_fits" sFits fd) (FI : FnG K "_law_is_integer" sLInt fdI) : FnOk P w K mg base CX0 2 (ga K "_law_fits") fd ["_law_formula", "_law_parts", "_law_depth"] (spFits K) := by
  have GI : FnOk P w K mg base CX0 1 (ga K "_law_is_integer") fdI ["_law_thing"] spIsInt := ok_lInt T FI
  have bI : Binds K fdI ["_law_thing"] [] := FI.bindsN fun _ _ _ _ _ _ us hl => match us, hl with | [_], _ => rfl
  refine F.ok scFits (fun vs H Q E h => ?_) (fun cdv A outer s H vs Q E hr h => ?_)
  · obtain ⟨k, rfl, _⟩ := h
    rfl
  obtain ⟨k, rfl, ⟨C, dx, kd, th, I, e⟩, q⟩ := h
  have np := I.no "parts" (by decide +kernel)
  have nd := I.no "depth" (by decide +kernel)
  refine ⟨_, PSs.nox (pss_cons (ps_if (PW.pt (pw_or (pt_not (pt_val (pe_call GI hr rfl (T.g "_law_is_integer") FI.kp bI .nil pass0 (pa_cons (pe_fld (pv 0) rfl) pa_nil))))
      (pw_or1 (pt_not (pt_val (pe_call GI hr rfl (T.g "_law_is_integer") FI.kp bI .nil pass0 (pa_cons (pe_fld (pv 0) rfl) pa_nil))))))) (pss_one (ps_ret pe_bl)) pss_nil)
    (pss_one (ps_ret (pe_and (pe_cmpR op_eq (pe_fld (pv 0) rfl) (pv 1) (nomark _)) (pe_one (pe_cmpR op_eq (pe_fld (pv 0) rfl) (pv 2) (nomark _))))))), ?_⟩
  refine ⟨_, rfl, k.a, C, dx, _, .int (k.p : Nat), rfl, e, I.cl, np, rfl, _, _, rfl, .int _, _, rfl, ?_⟩
  refine ite2 (fun h => Bool.noConfusion (show false = true from h)) (fun _ => ?_)
  refine ⟨_, rfl, k.a, C, dx, _, .int (k.d : Nat), rfl, e, I.cl, nd, rfl, _, _, rfl, .int _, _, rfl, ?_⟩
  refine ite2 (fun h => Bool.noConfusion (show false = true from h)) (fun _ => ?_)
  refine ⟨_, rfl, k.a, C, dx, _, .int (k.p : Nat), rfl, e, I.cl, np, rfl, _, rfl, rfl, _, rfl, ?_⟩
  refine ite2 (fun _ => ?_) (fun h => absurd (decide_eq_true rfl) h)
  refine ⟨_, rfl, k.a, C, dx, _, .int (k.d : Nat), rfl, e, I.cl, nd, rfl, _, rfl, rfl, ?_⟩
  rw [decide_eq_true rfl]
  exact q
abbrev DrawOk (P : Program) (w : World) (K : PySem.W.Frag) (mg : Str → Option Value) (base : Heap) (fdD : FuncData) : Prop := FnOk P w K mg base CX0 1 (ga K "_law_draw") fdD ["_law_state", "_law_many"] spDraw
theorem StAt.new {H H' : Hp} {st O : Addr} {ns : Addr × List Int} {xs : List V} (h : StAt H' st ns) (h0 : StAt H st ns) (hO : H O = none) : StAt (upd H' O (.lst xs)) st ns := by
  obtain ⟨a, b, c, h1, h2, h3⟩ := h
  obtain ⟨_, _, _, g1, g2, _⟩ := h0
  exact ⟨a, b, c, by rw [upd_ne (ne_of_none g1 hO)]; exact h1, by rw [upd_ne (ne_of_none g2 hO)]; exact h2, h3⟩
theorem SameBut.new {H H' : Hp} {st O : Addr} {o : HO} (h : SameBut st H H') (hO : H O = none) : SameBut st H (upd H' O o) := fun b u hb e => by rw [upd_ne (ne_of_none e hO)]; exact h b u hb e
theorem SameBut.none {H H' : Hp} {st O : Addr} {ns : Addr × List Int} (h : SameBut st H H') (S : StAt H st ns) (S' : StAt H' st ns) (hO : H' O = none) : H O = none := by
  cases e : H O with
  | none => rfl
  | some o =>
    by_cases z : O = st
    · obtain ⟨_, _, _, g1, _⟩ := S'
      rw [z, g1] at hO
      cases hO
    · rw [h O o z e] at hO
      cases hO
/-! ### _law_ops -/
def opL : List Str := ["negative", "double", "times", "minus", "shift", "sum", "call"]
def spOps : Sp := fun vs H Q _ => ∃ (st : Addr) (ns : Addr × List Int), vs = [.ref st] ∧ StAt H st ns ∧ ∀ l H' (os : List Str), (∀ o ∈ os, o ∈ opL) → StAt H' st ns → SameBut st H H' → H l = none → H' l = some (.lst (os.map V.str)) → os.length ≤ 100 → Q (.ref l) H'
theorem scOps : FnScope ["_law_state", "_law_menu", "_law_mode", "_law_ops_here", "_law_k"] ["_law_state"] (defScope sOps) := ⟨rfl, rfl, rfl, by decide +kernel, rfl, by decide +kernel, by decide +kernel⟩
theorem ok_ops {fd fdD : FuncData} (T : Txt K mg) (F : FnG K "_law_ops" sOps fd) (FD : FnG K "_law_draw" sDraw fdD) : FnOk P w K mg base CX0 2 (ga K "_law_ops") fd ["_law_state"] spOps := by
  have GD : DrawOk P w K mg base fdD := ok_draw T FD
  have bD : Binds K fdD ["_law_state", "_law_many"] [] := FD.bindsN fun _ _ _ _ _ _ us hl => match us, hl with | [_, _], _ => rfl
  refine F.ok scOps (fun vs H Q E h => ?_) (fun cdv A outer s H vs Q E hr h => ?_)
  · obtain ⟨st, ns, rfl, _⟩ := h
    rfl
  obtain ⟨st, ns, rfl, S, k⟩ := h
  have nd := scOps.nd
  refine ⟨_, PSs.nox (pss_cons (ps_set (i := 1) nd rfl (Or.inl rfl) (pe_lst (pa_cons pe_str (pa_cons pe_str (pa_cons pe_str (pa_cons pe_str (pa_cons pe_str (pa_cons pe_str (pa_cons pe_str pa_nil)))))))))
    (pss_cons (ps_set (i := 2) nd rfl (Or.inl rfl) (pe_call GD hr rfl (T.g "_law_draw") FD.kp bD .nil pass0 (pa_cons (pv 0) (pa_cons pe_int pa_nil))))
    (pss_cons (ps_set (i := 3) nd rfl (Or.inl rfl) (pe_lst pa_nil))
    (C8.pss_cut (ps_if (pt_cmpR op_eq (pv 2) pe_int (nomark _))
      (pss_one (ps_set (i := 3) nd rfl (Or.inl rfl) (pe_op op_cat (pe_op op_cat (pe_op op_rep (pe_lst (pa_cons pe_str pa_nil)) (pe_op op_add pe_int (pe_call GD hr rfl (T.g "_law_draw") FD.kp bD .nil pass0 (pa_cons (pv 0) (pa_cons pe_int pa_nil)))))
        (pe_op op_rep (pe_lst (pa_cons pe_str pa_nil)) pe_int)) (pe_op op_rep (pe_lst (pa_cons pe_str pa_nil)) pe_int)))) pss_nil)
    (C8.pss_cut (ps_if (pt_cmpR op_eq (pv 2) pe_int (nomark _))
      (pss_one (ps_set (i := 3) nd rfl (Or.inl rfl) (pe_op op_rep (pe_lst (pa_cons pe_str pa_nil)) (pe_op op_add pe_int (pe_call GD hr rfl (T.g "_law_draw") FD.kp bD .nil pass0 (pa_cons (pv 0) (pa_cons pe_int pa_nil))))))) pss_nil)
    (pss_cons (ps_for PassesOwn.never rfl (pi_range1 rfl (T.f "range") (pa_cons pe_int pa_nil)) (pg_name (i := 4) nd rfl (Or.inl rfl))
      (pss_one (ps_expr (pe_bm PySem.F.plainAttrs_list PySem.F.slot_list_append PySem.F.type_list_append mt_append (pv 3) (pa_cons (pe_ix ix_list (pv 1) (pe_call GD hr rfl (T.g "_law_draw") FD.kp bD .nil pass0 (pa_cons (pv 0) (pa_cons pe_int pa_nil))) (fun _ _ => rfl)) pa_nil)))))
    (pss_one (ps_ret (pv 3))))))))), ?_⟩
  refine ⟨tsz (by show 7 ≤ 1000; decide), fun M hM => ?_⟩
  have nM : M ≠ st := fun z => by
    obtain ⟨_, _, _, h1, _⟩ := S
    rw [z, h1] at hM
    cases hM
  have s1 : Same H (upd H M (.lst (opL.map V.str))) := fun b o q => by rw [upd_ne (ne_of_none q hM)]; exact q
  have eM : (upd H M (.lst (opL.map V.str))) M = some (.lst (opL.map V.str)) := upd_same
  change tSeq _ _ _ _ (upd H M (.lst (opL.map V.str)))
  generalize upd H M (.lst (opL.map V.str)) = H1 at s1 eM ⊢
  refine ⟨_, rfl, st, 3, ns, rfl, by decide, by decide, S.same s1, fun mode H2 m0 m1 S2 B2 => ?_⟩
  have eM2 := B2 _ _ nM eM
  have S1 := S.same s1
  -- the operations so far, at O
  refine ⟨tsz (by show 0 ≤ 1000; decide), fun O hO => ?_⟩
  have hO1 := B2.none S1 S2 hO
  refine ⟨fun σ H' => ∃ (O : Addr) (os : List Str), σ = [some (.ref st), some (.ref M), some (.int mode), some (.ref O), none] ∧ StAt H' st ns ∧ SameBut st H1 H' ∧ H1 O = none ∧ H' O = some (.lst (os.map V.str)) ∧ (∀ o ∈ os, o ∈ opL) ∧ os.length ≤ 40, ?_, ?_⟩
  · refine ⟨_, rfl, rfl, _, rfl, ?_⟩
    refine ite2 (fun _ => ?_) (fun _ => ?_)
    · have S3 : StAt (upd H2 O (.lst [])) st ns := StAt.new S2 S1 hO1
      have B3 : SameBut st H1 (upd H2 O (.lst [])) := B2.new hO1
      generalize upd H2 O (.lst []) = H3 at S3 B3 ⊢
      refine ⟨tsz (by show 1 ≤ 1000; decide), fun a ha => ?_⟩
      have ha1 := B3.none S1 S3 ha
      have S4 : StAt (upd H3 a (.lst [.str "negative"])) st ns := StAt.new S3 S1 ha1
      have B4 : SameBut st H1 (upd H3 a (.lst [.str "negative"])) := B3.new ha1
      have ea : (upd H3 a (.lst [.str "negative"])) a = some (.lst [.str "negative"]) := upd_same
      have na : a ≠ st := fun z => by
        obtain ⟨_, _, _, g1, _⟩ := S3
        rw [z, g1] at ha
        cases ha
      generalize upd H3 a (.lst [.str "negative"]) = H4 at S4 B4 ea ⊢
      refine ⟨_, rfl, st, 6, ns, rfl, by decide, by decide, S4, fun r H5 r0 r1 S5 B5 => ⟨_, _, rfl, rfl, a, 13 + r, _, rfl, rfl, B5 _ _ na ea, by omega, by omega, ?_, fun b hb => ?_⟩⟩
      · rw [sizeLine_eq]
        show 1 * (13 + r).toNat ≤ _
        omega
      have B05 := B4.trans B5
      have hb1 := B05.none S1 S5 hb
      have eb : (List.replicate (13 + r).toNat [V.str "negative"]).flatten = (List.replicate (13 + r).toNat ("negative" : Str)).map V.str := by simp
      rw [eb]
      have S6 : StAt (upd H5 b (.lst ((List.replicate (13 + r).toNat ("negative" : Str)).map V.str))) st ns := StAt.new S5 S1 hb1
      have B6 : SameBut st H1 (upd H5 b (.lst ((List.replicate (13 + r).toNat ("negative" : Str)).map V.str))) := B05.new hb1
      have eb6 : (upd H5 b (.lst ((List.replicate (13 + r).toNat ("negative" : Str)).map V.str))) b = some (.lst ((List.replicate (13 + r).toNat ("negative" : Str)).map V.str)) := upd_same
      generalize upd H5 b (.lst ((List.replicate (13 + r).toNat ("negative" : Str)).map V.str)) = H6 at S6 B6 eb6 ⊢
      refine ⟨tsz (by show 1 ≤ 1000; decide), fun c hc => ?_⟩
      have s7 : Same H6 (upd H6 c (.lst [.str "double"])) := fun b o e => by rw [upd_ne (ne_of_none e hc)]; exact e
      have ec : (upd H6 c (.lst [.str "double"])) c = some (.lst [.str "double"]) := upd_same
      generalize upd H6 c (.lst [.str "double"]) = H7 at s7 ec ⊢
      refine ⟨c, 4, _, rfl, rfl, ec, by decide, by decide, by rw [sizeLine_eq]; decide, fun d hd => ?_⟩
      have s8 : Same H7 (upd H7 d (.lst (List.replicate (4 : Int).toNat [V.str "double"]).flatten)) := fun b o e => by rw [upd_ne (ne_of_none e hd)]; exact e
      have ed : (upd H7 d (.lst (List.replicate (4 : Int).toNat [V.str "double"]).flatten)) d = some (.lst ((List.replicate 4 ("double" : Str)).map V.str)) := upd_same
      generalize upd H7 d (.lst (List.replicate (4 : Int).toNat [V.str "double"]).flatten) = H8 at s8 ed ⊢
      refine ⟨b, d, _, _, rfl, rfl, s8 _ _ (s7 _ _ eb6), ed, ?_, fun e he => ?_⟩
      · rw [List.length_map, List.length_map, List.length_replicate, List.length_replicate, sizeLine_eq]
        omega
      rw [← List.map_append]
      have s9 : Same H8 (upd H8 e (.lst ((List.replicate (13 + r).toNat ("negative" : Str) ++ List.replicate 4 ("double" : Str)).map V.str))) := fun b o q => by rw [upd_ne (ne_of_none q he)]; exact q
      have ee : (upd H8 e (.lst ((List.replicate (13 + r).toNat ("negative" : Str) ++ List.replicate 4 ("double" : Str)).map V.str))) e = some (.lst ((List.replicate (13 + r).toNat ("negative" : Str) ++ List.replicate 4 ("double" : Str)).map V.str)) := upd_same
      generalize upd H8 e (.lst ((List.replicate (13 + r).toNat ("negative" : Str) ++ List.replicate 4 ("double" : Str)).map V.str)) = H9 at s9 ee ⊢
      refine ⟨tsz (by show 1 ≤ 1000; decide), fun f hf => ?_⟩
      have sA : Same H9 (upd H9 f (.lst [.str "negative"])) := fun b o q => by rw [upd_ne (ne_of_none q hf)]; exact q
      have ef : (upd H9 f (.lst [.str "negative"])) f = some (.lst [.str "negative"]) := upd_same
      generalize upd H9 f (.lst [.str "negative"]) = HA at sA ef ⊢
      refine ⟨f, 16, _, rfl, rfl, ef, by decide, by decide, by rw [sizeLine_eq]; decide, fun g hg => ?_⟩
      have sB : Same HA (upd HA g (.lst (List.replicate (16 : Int).toNat [V.str "negative"]).flatten)) := fun b o q => by rw [upd_ne (ne_of_none q hg)]; exact q
      have eg : (upd HA g (.lst (List.replicate (16 : Int).toNat [V.str "negative"]).flatten)) g = some (.lst ((List.replicate 16 ("negative" : Str)).map V.str)) := upd_same
      generalize upd HA g (.lst (List.replicate (16 : Int).toNat [V.str "negative"]).flatten) = HB at sB eg ⊢
      refine ⟨e, g, _, _, rfl, rfl, sB _ _ (sA _ _ ee), eg, ?_, fun h hh => ?_⟩
      · rw [List.length_map, List.length_map, List.length_append, List.length_replicate, List.length_replicate, List.length_replicate, sizeLine_eq]
        omega
      have s6B := (((s7.trans s8).trans s9).trans sA).trans sB
      have SB := S6.same s6B
      have BB := B6.trans (SameBut.of s6B)
      have hh1 := BB.none S1 SB hh
      rw [← List.map_append]
      refine ⟨h, _, rfl, StAt.new SB S1 hh1, BB.new hh1, hh1, upd_same, fun o ho => ?_, ?_⟩
      · simp only [List.mem_append, List.mem_replicate] at ho
        rcases ho with (⟨_, rfl⟩ | ⟨_, rfl⟩) | ⟨_, rfl⟩ <;> decide +kernel
      · rw [List.length_append, List.length_append, List.length_replicate, List.length_replicate, List.length_replicate]
        omega
    · exact ⟨O, [], rfl, StAt.new S2 S1 hO1, B2.new hO1, hO1, upd_same, (fun o ho => by cases ho), by decide⟩
  rintro σ H3 ⟨O3, os3, rfl, S3, B3, hO3, e3, i3, l3⟩
  refine ⟨fun σ H' => ∃ (O : Addr) (os : List Str), σ = [some (.ref st), some (.ref M), some (.int mode), some (.ref O), none] ∧ StAt H' st ns ∧ SameBut st H1 H' ∧ H1 O = none ∧ H' O = some (.lst (os.map V.str)) ∧ (∀ o ∈ os, o ∈ opL) ∧ os.length ≤ 40, ?_, ?_⟩
  · refine ⟨_, rfl, rfl, _, rfl, ?_⟩
    refine ite2 (fun _ => ?_) (fun _ => ?_)
    · refine ⟨tsz (by show 1 ≤ 1000; decide), fun a ha => ?_⟩
      have ha1 := B3.none S1 S3 ha
      have S4 : StAt (upd H3 a (.lst [.str "negative"])) st ns := StAt.new S3 S1 ha1
      have B4 : SameBut st H1 (upd H3 a (.lst [.str "negative"])) := B3.new ha1
      have ea : (upd H3 a (.lst [.str "negative"])) a = some (.lst [.str "negative"]) := upd_same
      have na : a ≠ st := fun z => by
        obtain ⟨_, _, _, g1, _⟩ := S3
        rw [z, g1] at ha
        cases ha
      generalize upd H3 a (.lst [.str "negative"]) = H4 at S4 B4 ea ⊢
      refine ⟨_, rfl, st, 3, ns, rfl, by decide, by decide, S4, fun r H5 r0 r1 S5 B5 => ⟨_, _, rfl, rfl, a, 36 + r, _, rfl, rfl, B5 _ _ na ea, by omega, by omega, ?_, fun b hb => ?_⟩⟩
      · rw [sizeLine_eq]
        show 1 * (36 + r).toNat ≤ _
        omega
      have B05 := B4.trans B5
      have hb1 := B05.none S1 S5 hb
      have eb : (List.replicate (36 + r).toNat [V.str "negative"]).flatten = (List.replicate (36 + r).toNat ("negative" : Str)).map V.str := by simp
      rw [eb]
      refine ⟨b, _, rfl, StAt.new S5 S1 hb1, B05.new hb1, hb1, upd_same, fun o ho => ?_, ?_⟩
      · simp only [List.mem_replicate] at ho
        obtain ⟨_, rfl⟩ := ho
        decide +kernel
      · rw [List.length_replicate]
        omega
    · exact ⟨O3, os3, rfl, S3, B3, hO3, e3, i3, l3⟩
  rintro σ H4 ⟨O4, os4, rfl, S4, B4, hO4, e4, i4, l4⟩
  have nO : O4 ≠ st := fun z => by
    obtain ⟨_, _, _, g1, _⟩ := S1
    rw [z, g1] at hO4
    cases hO4
  -- twenty more
  refine ⟨_, rfl, by decide, by decide, for_range (lo := 0) (n := 20) (fun i σ H' => ∃ (kv : Option V) (os : List Str), σ = [some (.ref st), some (.ref M), some (.int mode), some (.ref O4), kv] ∧ StAt H' st ns ∧ SameBut st H1 H' ∧ H' O4 = some (.lst (os.map V.str)) ∧ (∀ o ∈ os, o ∈ opL) ∧ os.length ≤ 40 + i) ⟨none, os4, rfl, S4, B4, e4, i4, l4⟩ ?_ ?_⟩
  · rintro i σ H5 hi ⟨kv, os, rfl, S5, B5, e5, i5, l5⟩
    refine ⟨_, rfl, .inl ⟨rfl, _, SqL.of e5⟩, _, rfl, _, rfl, st, 7, ns, rfl, by decide, by decide, S5, fun r H6 r0 r1 S6 B6 => ?_⟩
    obtain ⟨j, rfl⟩ := Int.eq_ofNat_of_zero_le r0
    have hj : j < opL.length := by show j < 7; omega
    have hw : (opL.map V.str)[j]? = some (V.str opL[j]) := by rw [List.getElem?_map, List.getElem?_eq_getElem hj]; rfl
    have B06 := B5.trans B6
    refine ⟨M, _, _, _, rfl, rfl, SqL.of (B06 _ _ nM eM), atI_nat hw, O4, _, _, rfl, rfl, B6 _ _ nO e5, ?_, ?_⟩
    · rw [List.length_map, sizeLine_eq]
      omega
    · refine ⟨_, os ++ [opL[j]], rfl, StAt.new S6 S1 hO4, B06.new hO4, by rw [upd_same]; simp, fun o ho => ?_, ?_⟩
      · rcases List.mem_append.mp ho with ho | ho
        · exact i5 o ho
        · rw [List.mem_singleton.mp ho]
          exact List.getElem_mem hj
      · rw [List.length_append]
        show os.length + 1 ≤ 40 + (i + 1)
        omega
  · rintro σ H5 ⟨kv, os, rfl, S5, B5, e5, i5, l5⟩
    exact ⟨_, rfl, k O4 H5 os i5 S5 ((SameBut.of s1).trans B5) (none_back s1 hO4) e5 (by omega)⟩
end
end K2
set_option Elab.async false
set_option linter.all false
set_option maxRecDepth 100000
set_option maxHeartbeats 4000000
namespace K2
open PySem PySem.Spec PyProof.Rows L2 He Sw L2H
/-! ### words as lists of signs -/
def mk (l : List Nat) : Str := ⟨l.toArray⟩
theorem mk_add (a b : List Nat) : mk a ++ mk b = mk (a ++ b) := by
  show (⟨a.toArray ++ b.toArray⟩ : Str) = ⟨(a ++ b).toArray⟩
  simp
theorem mk_len (l : List Nat) : (mk l).length = l.length := by
  show l.toArray.size = _
  simp
theorem mk_inj {a b : List Nat} (h : mk a = mk b) : a = b := by
  have e : a.toArray = b.toArray := congrArg Str.cps h
  simpa using e
def Lo (l : List Nat) : Prop := ∀ x ∈ l, 97 ≤ x ∧ x < 123
theorem LET_ix : ∀ j : _root_.Fin 26, LET.cps[j.val]? = some (97 + j.val) := by decide +kernel
theorem LET_find : ∀ j : _root_.Fin 26, Txt.find LET ⟨#[97 + j.val]⟩ = (j.val : Int) := by decide +kernel
theorem LET_mem : ∀ j : _root_.Fin 26, 97 + j.val ∈ LET.cps.toList := by decide +kernel
theorem LET_len : LET.length = 26 := by decide +kernel
theorem low_mk {l : List Nat} (h : Lo l) : low (mk l) = true := by
  unfold low
  show (l.toArray.toList.all fun c => decide (c ∈ LET.cps.toList)) = true
  rw [List.all_eq_true]
  intro c hc
  have hc : c ∈ l := by simpa using hc
  obtain ⟨h1, h2⟩ := h c hc
  have e := LET_mem ⟨c - 97, by omega⟩
  have e2 : 97 + (c - 97) = c := by omega
  exact decide_eq_true (by rw [← e2]; exact e)
theorem good_mk {l : List Nat} (h : Lo l) (h1 : 1 ≤ l.length) (h8 : l.length ≤ 8) (hn : mk l ∉ noNames) : isNmS (mk l) = true := by
  unfold isNmS
  rw [mk_len, inV_strs, decide_eq_false hn, low_mk h, decide_eq_true (by omega : (1 : Int) ≤ (l.length : Nat)), decide_eq_true (by omega : ((l.length : Nat) : Int) ≤ 8)]
  rfl
/-- no more of them than places -/
theorem pig : ∀ (L B : List Str), L.Nodup → (∀ x ∈ L, x ∈ B) → L.length ≤ B.length
  | [], B, _, _ => Nat.zero_le _
  | x :: xs, B, hn, h => by
    have hx := h x List.mem_cons_self
    have hn' := List.nodup_cons.mp hn
    have r := pig xs (B.erase x) hn'.2 fun y hy => (List.mem_erase_of_ne (fun z => hn'.1 (by rw [← z]; exact hy))).mpr (h y (List.mem_cons_of_mem _ hy))
    have e := List.length_erase_of_mem hx
    have p := List.length_pos_of_mem hx
    show xs.length + 1 ≤ B.length
    omega
def turned (w : List Nat) (c j : Nat) : Str := mk (w ++ [97 + (c + j) % 26])
theorem turned_nodup (w : List Nat) (c : Nat) : ((List.range 26).map (turned w c)).Nodup := by
  unfold List.Nodup
  rw [List.pairwise_map]
  refine (List.pairwise_lt_range (n := 26)).imp_of_mem fun {a b} ha hb hlt e => ?_
  have ha := List.mem_range.mp ha
  have hb := List.mem_range.mp hb
  have e2 := mk_inj e
  have e3 : 97 + (c + a) % 26 = 97 + (c + b) % 26 := by simpa using e2
  omega
/-- not all the 26 can be barred -/
theorem some_free {w : List Nat} {c : Nat} {B : List Str} (hB : B.length ≤ 20) (h : ∀ j, j < 26 → turned w c j ∈ B) : False := by
  have r := pig _ B (turned_nodup w c) fun x hx => by
    obtain ⟨j, hj, rfl⟩ := List.mem_map.mp hx
    exact h j (List.mem_range.mp hj)
  rw [List.length_map, List.length_range] at r
  omega
theorem cut_last (w : List Nat) (x : Nat) : cutS (mk (w ++ [x])) none (some (-1)) = mk w := by
  unfold cutS
  have e1 : HT.sIx (mk (w ++ [x])).length 0 none = 0 := rfl
  have e2 : HT.sIx (mk (w ++ [x])).length (mk (w ++ [x])).length (some (-1)) = w.length := by
    rw [mk_len]
    show (if (-1 : Int) < 0 then ((-1 : Int) + ((w ++ [x]).length : Int)).toNat else min (-1 : Int).toNat (w ++ [x]).length) = _
    rw [if_pos (by decide), List.length_append]
    show ((-1 : Int) + ((w.length + 1 : Nat) : Int)).toNat = _
    omega
  rw [e1, e2]
  show (⟨(((w ++ [x]).toArray.toList.drop 0).take (w.length - 0)).toArray⟩ : Str) = ⟨w.toArray⟩
  simp
theorem at_last (w : List Nat) (x : Nat) : atI (mk (w ++ [x])).cps.toList (-1) = some x := by
  unfold atI ixN
  have e : (mk (w ++ [x])).cps.toList = w ++ [x] := by show (w ++ [x]).toArray.toList = _; simp
  rw [e, if_neg (by decide), List.length_append]
  show ((if -((w.length + 1 : Nat) : Int) ≤ -1 then some ((-1 : Int) + ((w.length + 1 : Nat) : Int)).toNat else none).bind fun j => (w ++ [x])[j]?) = some x
  rw [if_pos (by omega), show ((-1 : Int) + ((w.length + 1 : Nat) : Int)).toNat = w.length by omega]
  show (w ++ [x])[w.length]? = some x
  simp
section
variable {P : Program} {w : World} {K : PySem.W.Frag} {mg : Str → Option Value} {base : Heap}
/-! ### _law_names -/
def GoodN (z : Str) : Prop := isNmS z = true ∧ z.length ≤ 100
def spNames : Sp := fun vs H Q _ => ∃ (st : Addr) (ns : Addr × List Int), vs = [.ref st, .int 4] ∧ StAt H st ns ∧ ∀ l H' (zs : List Str), zs.length = 4 → (∀ z ∈ zs, GoodN z) → StAt H' st ns → SameBut st H H' → H l = none → H' l = some (.lst (zs.map V.str)) → Q (.ref l) H'
theorem scNames : FnScope ["_law_state", "_law_many", "_law_letters", "_law_kept", "_law_found", "_law_k", "_law_count", "_law_word", "_law_j"] ["_law_state", "_law_many"] (defScope sNames) := ⟨rfl, rfl, rfl, by decide +kernel, rfl, by decide +kernel, by decide +kernel⟩
abbrev ng (st KL O : Addr) (k c z j : Option V) : L2.St := [some (.ref st), some (.int 4), some (.str LET), some (.ref KL), some (.ref O), k, c, z, j]
theorem ok_names {fd fdD : FuncData} (T : Txt K mg) (F : FnG K "_law_names" sNames fd) (FD : FnG K "_law_draw" sDraw fdD) : FnOk P w K mg base CX0 2 (ga K "_law_names") fd ["_law_state", "_law_many"] spNames := by
  have GD : DrawOk P w K mg base fdD := ok_draw T FD
  have bD : Binds K fdD ["_law_state", "_law_many"] [] := FD.bindsN fun _ _ _ _ _ _ us hl => match us, hl with | [_, _], _ => rfl
  refine F.ok scNames (fun vs H Q E h => ?_) (fun cdv A outer s H vs Q E hr h => ?_)
  · obtain ⟨st, ns, rfl, _⟩ := h
    rfl
  obtain ⟨st, ns, rfl, S, k⟩ := h
  have nd := scNames.nd
  refine ⟨_, PSs.nox (pss_cons (ps_set (i := 2) nd rfl (Or.inl rfl) pe_str)
    (pss_cons (ps_set (i := 3) nd rfl (Or.inl rfl) (pe_lst (pa_cons pe_str (pa_cons pe_str (pa_cons pe_str (pa_cons pe_str (pa_cons pe_str (pa_cons pe_str (pa_cons pe_str (pa_cons pe_str (pa_cons pe_str pa_nil)))))))))))
    (pss_cons (ps_set (i := 4) nd rfl (Or.inl rfl) (pe_lst pa_nil))
    (pss_cons (ps_for PassesOwn.never rfl (pi_range1 rfl (T.f "range") (pa_cons (pv 1) pa_nil)) (pg_name (i := 5) nd rfl (Or.inl rfl))
      (pss_cons (ps_set (i := 6) nd rfl (Or.inl rfl) pe_int)
      (C8.pss_cut (ps_if (pt_cmpR op_eq (pe_call GD hr rfl (T.g "_law_draw") FD.kp bD .nil pass0 (pa_cons (pv 0) (pa_cons pe_int pa_nil))) pe_int (nomark _))
        (pss_one (ps_set (i := 6) nd rfl (Or.inl rfl) (pe_op op_add pe_int (pe_call GD hr rfl (T.g "_law_draw") FD.kp bD .nil pass0 (pa_cons (pv 0) (pa_cons pe_int pa_nil)))))) pss_nil)
      (pss_cons (ps_set (i := 7) nd rfl (Or.inl rfl) pe_str)
      (pss_cons (ps_for PassesOwn.never rfl (pi_range1 rfl (T.f "range") (pa_cons (pv 6) pa_nil)) (pg_name (i := 8) nd rfl (Or.inl rfl))
        (pss_one (ps_set (i := 7) nd rfl (Or.inl rfl) (pe_op op_add_str (pv 7) (pe_item_str (pv 2) (pe_call GD hr rfl (T.g "_law_draw") FD.kp bD .nil pass0 (pa_cons (pv 0) (pa_cons pe_int pa_nil))) (fun _ _ => rfl))))))
      (pss_cons (ps_for PassesOwn.never rfl (pi_range1 rfl (T.f "range") (pa_cons pe_int pa_nil)) (pg_name (i := 8) nd rfl (Or.inl rfl))
        (pss_one (ps_if (PW.pt (pw_or (pt_cmpR op_in_seq (pv 7) (pv 4) rfl) (pw_or1 (pt_cmpR op_in_seq (pv 7) (pv 3) rfl))))
          (pss_one (ps_set (i := 7) nd rfl (Or.inl rfl) (pe_op op_add_str (pe_slice sl_str (pv 7) po_none (po_some (pe_un un_neg pe_int)))
            (pe_item_str (pv 2) (pe_op op_mod (pe_op op_add (pe_m1 PySem.F.slot_str_find PySem.F.type_str_find mt_find (pv 2) (pe_ix ix_str (pv 7) (pe_un un_neg pe_int) (fun _ _ => rfl))) pe_int) pe_int) (fun _ _ => rfl))))) pss_nil)))
      (pss_one (ps_expr (pe_bm PySem.F.plainAttrs_list PySem.F.slot_list_append PySem.F.type_list_append mt_append (pv 4) (pa_cons (pv 7) pa_nil))))))))))
    (pss_one (ps_ret (pv 4))))))), ?_⟩
  refine ⟨tsz (by show 9 ≤ 1000; decide), fun KL hKL => ?_⟩
  have s1 : Same H (upd H KL (.lst (noNames.map V.str))) := fun b o q => by rw [upd_ne (ne_of_none q hKL)]; exact q
  have eK : (upd H KL (.lst (noNames.map V.str))) KL = some (.lst (noNames.map V.str)) := upd_same
  have nK : KL ≠ st := fun z => by
    obtain ⟨_, _, _, h1, _⟩ := S
    rw [z, h1] at hKL
    cases hKL
  change tSeq _ _ _ _ (upd H KL (.lst (noNames.map V.str)))
  generalize upd H KL (.lst (noNames.map V.str)) = H1 at s1 eK ⊢
  have S1 := S.same s1
  refine ⟨tsz (by show 0 ≤ 1000; decide), fun O hO => ?_⟩
  have nO : O ≠ st := fun z => by
    obtain ⟨_, _, _, h1, _⟩ := S1
    rw [z, h1] at hO
    cases hO
  have S2 : StAt (upd H1 O (.lst [])) st ns := StAt.new S1 S1 hO
  have B2 : SameBut st H1 (upd H1 O (.lst [])) := SameBut.new (fun _ _ _ e => e) hO
  have e2 : (upd H1 O (.lst [])) O = some (.lst (([] : List Str).map V.str)) := upd_same
  generalize upd H1 O (.lst []) = H2 at S2 B2 e2 ⊢
  refine ⟨_, rfl, _, rfl, by decide, by decide, for_range (lo := 0) (n := 4) (fun i σ H' => ∃ (kv cv zv jv : Option V) (zs : List Str), σ = ng st KL O kv cv zv jv ∧ StAt H' st ns ∧ SameBut st H1 H' ∧ H' O = some (.lst (zs.map V.str)) ∧ zs.length = i ∧ ∀ z ∈ zs, GoodN z) ⟨none, none, none, none, [], rfl, S2, B2, e2, rfl, fun z hz => by cases hz⟩ ?_ ?_⟩
  · rintro i σ H3 hi ⟨kv, cv, zv, jv, zs, rfl, S3, B3, e3, lz, gz⟩
    refine ⟨fun σ H' => ∃ (kv zv jv : Option V) (ct : Int), σ = ng st KL O kv (some (.int ct)) zv jv ∧ 1 ≤ ct ∧ ct ≤ 8 ∧ StAt H' st ns ∧ SameBut st H1 H' ∧ H' O = some (.lst (zs.map V.str)), ?_, ?_⟩
    · refine ⟨_, rfl, st, 3, ns, rfl, by decide, by decide, S3, fun r' H4 _ _ S4 B4 => ⟨rfl, _, rfl, ?_⟩⟩
      refine ite2 (fun _ => ?_) (fun _ => ?_)
      · refine ⟨_, rfl, st, 8, ns, rfl, by decide, by decide, S4, fun r H5 r0 r1 S5 B5 => ⟨_, _, rfl, rfl, _, _, _, 1 + r, rfl, by omega, by omega, S5, (B3.trans B4).trans B5, B5 _ _ nO (B4 _ _ nO e3)⟩⟩
      · exact ⟨_, _, _, 1, rfl, by omega, by omega, S4, B3.trans B4, B4 _ _ nO e3⟩
    rintro σ H4 ⟨kv4, zv4, jv4, ct, rfl, c1, c8, S4, B4, e4⟩
    obtain ⟨n, rfl⟩ := Int.eq_ofNat_of_zero_le (show 0 ≤ ct by omega)
    -- the letters
    refine ⟨_, rfl, _, rfl, by omega, by omega, for_range (lo := 0) (n := ((n : Nat) : Int).toNat) (fun i σ H' => ∃ (jv : Option V) (w : List Nat), σ = ng st KL O kv4 (some (.int (n : Nat))) (some (.str (mk w))) jv ∧ w.length = i ∧ Lo w ∧ StAt H' st ns ∧ SameBut st H1 H' ∧ H' O = some (.lst (zs.map V.str))) ⟨jv4, [], rfl, rfl, (fun x hx => by cases hx), S4, B4, e4⟩ ?_ ?_⟩
    · rintro i σ H5 hi ⟨jv, w, rfl, lw, ow, S5, B5, e5⟩
      refine ⟨_, rfl, _, rfl, _, rfl, st, 26, ns, rfl, by decide, by decide, S5, fun r H6 x0 x1 S6 B6 => ?_⟩
      obtain ⟨j, rfl⟩ := Int.eq_ofNat_of_zero_le x0
      have hc := LET_ix ⟨j, by omega⟩
      refine ⟨LET, _, 97 + j, rfl, rfl, x0, by omega, (by rw [LET_len]; omega), hc, _, _, rfl, rfl, ?_, ?_⟩
      · rw [mk_len, sizeLine_eq]
        show w.length + 1 ≤ _
        omega
      · refine ⟨some (.int (0 + (i : Nat))), w ++ [97 + j], ?_, ?_, ?_, S6, B5.trans B6, B6 _ _ nO e5⟩
        · rw [← mk_add]
          rfl
        · rw [List.length_append, lw]
          rfl
        · intro x hx
          rcases List.mem_append.mp hx with hx | hx
          · exact ow x hx
          · rw [List.mem_singleton.mp hx]
            omega
    rintro σ H5 ⟨jv5, w5, rfl, lw5, ow5, S5, B5, e5⟩
    have lw1 : 1 ≤ w5.length := by omega
    have lw8 : w5.length ≤ 8 := by omega
    obtain ⟨w, x, rfl⟩ : ∃ w x, w5 = w ++ [x] := ⟨w5.dropLast, w5.getLast (by intro z; rw [z] at lw1; cases lw1), (List.dropLast_concat_getLast _).symm⟩
    have ow : Lo w := fun y hy => ow5 y (List.mem_append_left _ hy)
    obtain ⟨x0, x1⟩ := ow5 x (List.mem_append_right _ List.mem_cons_self)
    have lw : w.length ≤ 7 := by
      rw [List.length_append] at lw8
      have : [x].length = 1 := rfl
      omega
    generalize hc0 : x - 97 = c0
    have ex : x = 97 + c0 := by omega
    subst ex
    have c26 : c0 < 26 := by omega
    -- until it is free
    refine ⟨_, rfl, by decide, by decide, for_range (lo := 0) (n := 26) (fun i σ H' => H' = H5 ∧ ∃ (jv : Option V) (c : Nat), σ = ng st KL O kv4 (some (.int (n : Nat))) (some (.str (mk (w ++ [97 + c])))) jv ∧ c < 26 ∧
      ((mk (w ++ [97 + c]) ∉ zs ∧ mk (w ++ [97 + c]) ∉ noNames) ∨ (c = (c0 + i) % 26 ∧ ∀ j, j < i → turned w c0 j ∈ zs ++ noNames))) ⟨rfl, jv5, c0, rfl, c26, .inr ⟨by omega, fun j hj => absurd hj (by omega)⟩⟩ ?_ ?_⟩
    · rintro i σ H6 hi ⟨rfl, jv, c, rfl, cc, al⟩
      refine ⟨_, rfl, _, rfl, O, _, rfl, .inl (SqL.of e5), rfl, flat_strs _, _, rfl, ?_⟩
      have chg : (mk (w ++ [97 + c]) ∈ zs ∨ mk (w ++ [97 + c]) ∈ noNames) → c = (c0 + i) % 26 ∧ (∀ j, j < i → turned w c0 j ∈ zs ++ noNames) ∧ turned w c0 i ∈ zs ++ noNames := fun hin => by
        rcases al with ⟨n1, n2⟩ | ⟨a1, a2⟩
        · rcases hin with hin | hin
          · exact absurd hin n1
          · exact absurd hin n2
        · refine ⟨a1, a2, ?_⟩
          unfold turned
          rw [← a1]
          exact List.mem_append.mpr hin
      refine ite2 (fun h1 => ?_) (fun h1 => ?_)
      · have hin : mk (w ++ [97 + c]) ∈ zs := by
          have h1 : inV (.str (mk (w ++ [97 + c]))) (zs.map V.str) = true := h1
          rw [inV_strs] at h1
          exact of_decide_eq_true h1
        obtain ⟨a1, a2, a3⟩ := chg (.inl hin)
        refine ite2 (fun _ => ?_) (fun h => absurd rfl h)
        refine ⟨_, rfl, _, rfl, _, rfl, mk (w ++ [97 + c]), rfl, ?_, ?_⟩
        · rw [mk_len, List.length_append, sizeLine_eq]
          show w.length + 1 ≤ _
          omega
        have hf := LET_find ⟨c, cc⟩
        have hx := LET_ix ⟨(c + 1) % 26, Nat.mod_lt _ (by decide)⟩
        have em : ((c : Nat) + 1 : Int) % 26 = (((c + 1) % 26 : Nat) : Int) := by omega
        refine ⟨_, rfl, _, rfl, ⟨_, rfl⟩, _, rfl, _, rfl, mk (w ++ [97 + c]), -1, 97 + c, rfl, rfl, ?_, at_last w (97 + c), LET, ⟨#[97 + c]⟩, rfl, rfl, ?_⟩
        · rw [mk_len, List.length_append, sizeLine_eq]
          show w.length + 1 ≤ _
          omega
        rw [hf]
        refine ⟨_, _, rfl, rfl, _, _, rfl, rfl, (show (0 : Int) < 26 by decide), LET, ((c : Nat) + 1 : Int) % 26, 97 + (c + 1) % 26, rfl, rfl, by omega, by omega, by rw [LET_len]; omega, by rw [em]; exact hx, _, _, rfl, rfl, ?_, ?_⟩
        · rw [cut_last, mk_len, sizeLine_eq]
          show w.length + 1 ≤ _
          omega
        refine ⟨rfl, some (.int (0 + (i : Nat))), (c + 1) % 26, ?_, Nat.mod_lt _ (by decide), .inr ⟨by omega, fun j hj => ?_⟩⟩
        · rw [cut_last]
          have ea : mk w ++ (⟨#[97 + (c + 1) % 26]⟩ : Str) = mk (w ++ [97 + (c + 1) % 26]) := mk_add w [97 + (c + 1) % 26]
          rw [ea]
          rfl
        · rcases Nat.lt_succ_iff_lt_or_eq.mp hj with hj | rfl
          · exact a2 j hj
          · exact a3
      have n1 : mk (w ++ [97 + c]) ∉ zs := by
        have h1 : ¬ (inV (.str (mk (w ++ [97 + c]))) (zs.map V.str) = true) := h1
        rw [inV_strs] at h1
        exact fun z => h1 (decide_eq_true z)
      refine ⟨_, rfl, _, rfl, KL, _, rfl, .inl (SqL.of (B5 _ _ nK eK)), rfl, flat_strs _, _, rfl, ?_⟩
      refine ite2 (fun h2 => ?_) (fun h2 => ?_)
      · have hin : mk (w ++ [97 + c]) ∈ noNames := by
          have h2 : inV (.str (mk (w ++ [97 + c]))) (noNames.map V.str) = true := h2
          rw [inV_strs] at h2
          exact of_decide_eq_true h2
        obtain ⟨a1, a2, a3⟩ := chg (.inr hin)
        refine ⟨_, rfl, _, rfl, _, rfl, mk (w ++ [97 + c]), rfl, ?_, ?_⟩
        · rw [mk_len, List.length_append, sizeLine_eq]
          show w.length + 1 ≤ _
          omega
        have hf := LET_find ⟨c, cc⟩
        have hx := LET_ix ⟨(c + 1) % 26, Nat.mod_lt _ (by decide)⟩
        have em : ((c : Nat) + 1 : Int) % 26 = (((c + 1) % 26 : Nat) : Int) := by omega
        refine ⟨_, rfl, _, rfl, ⟨_, rfl⟩, _, rfl, _, rfl, mk (w ++ [97 + c]), -1, 97 + c, rfl, rfl, ?_, at_last w (97 + c), LET, ⟨#[97 + c]⟩, rfl, rfl, ?_⟩
        · rw [mk_len, List.length_append, sizeLine_eq]
          show w.length + 1 ≤ _
          omega
        rw [hf]
        refine ⟨_, _, rfl, rfl, _, _, rfl, rfl, (show (0 : Int) < 26 by decide), LET, ((c : Nat) + 1 : Int) % 26, 97 + (c + 1) % 26, rfl, rfl, by omega, by omega, by rw [LET_len]; omega, by rw [em]; exact hx, _, _, rfl, rfl, ?_, ?_⟩
        · rw [cut_last, mk_len, sizeLine_eq]
          show w.length + 1 ≤ _
          omega
        refine ⟨rfl, some (.int (0 + (i : Nat))), (c + 1) % 26, ?_, Nat.mod_lt _ (by decide), .inr ⟨by omega, fun j hj => ?_⟩⟩
        · rw [cut_last]
          have ea : mk w ++ (⟨#[97 + (c + 1) % 26]⟩ : Str) = mk (w ++ [97 + (c + 1) % 26]) := mk_add w [97 + (c + 1) % 26]
          rw [ea]
          rfl
        · rcases Nat.lt_succ_iff_lt_or_eq.mp hj with hj | rfl
          · exact a2 j hj
          · exact a3
      · have n2 : mk (w ++ [97 + c]) ∉ noNames := by
          have h2 : ¬ (inV (.str (mk (w ++ [97 + c]))) (noNames.map V.str) = true) := h2
          rw [inV_strs] at h2
          exact fun z => h2 (decide_eq_true z)
        exact ⟨rfl, some (.int (0 + (i : Nat))), c, rfl, cc, .inl ⟨n1, n2⟩⟩
    · rintro σ H6 ⟨rfl, jv, c, rfl, cc, al⟩
      have free : mk (w ++ [97 + c]) ∉ noNames := by
        rcases al with ⟨_, n2⟩ | ⟨_, a2⟩
        · exact n2
        · refine (some_free (w := w) (c := c0) (B := zs ++ noNames) ?_ a2).elim
          rw [List.length_append, lz]
          show i + 9 ≤ 20
          omega
      have lo2 : Lo (w ++ [97 + c]) := fun y hy => by
        rcases List.mem_append.mp hy with hy | hy
        · exact ow y hy
        · rw [List.mem_singleton.mp hy]
          omega
      have len2 : (w ++ [97 + c]).length = w.length + 1 := by rw [List.length_append]; rfl
      have gz2 : GoodN (mk (w ++ [97 + c])) := ⟨good_mk lo2 (by omega) (by omega) free, by rw [mk_len]; omega⟩
      refine ⟨_, rfl, .inl ⟨rfl, _, SqL.of e5⟩, _, rfl, O, _, _, rfl, rfl, e5, ?_, ?_⟩
      · rw [List.length_map, sizeLine_eq]
        omega
      · refine ⟨kv4, _, _, jv, zs ++ [mk (w ++ [97 + c])], rfl, StAt.new S5 S1 hO, B5.new hO, by rw [upd_same]; simp, ?_, fun z hz => ?_⟩
        · rw [List.length_append, lz]
          rfl
        · rcases List.mem_append.mp hz with hz | hz
          · exact gz z hz
          · rw [List.mem_singleton.mp hz]
            exact gz2
  · rintro σ H3 ⟨kv, cv, zv, jv, zs, rfl, S3, B3, e3, lz, gz⟩
    exact ⟨_, rfl, k O H3 zs lz gz S3 ((SameBut.of s1).trans B3) (none_back s1 hO) e3⟩
end
end K2
set_option Elab.async false
set_option linter.all false
set_option maxRecDepth 100000
set_option maxHeartbeats 4000000
namespace K2
open PySem PySem.Spec PyProof.Rows L2 He Sw L2H
section
variable {P : Program} {w : World} {K : PySem.W.Frag} {mg : Str → Option Value} {base : Heap}
/-! ### the pool's entries -/
structure En where
  t : Addr
  k : Kd
  il : Addr
  ls : List Str
def EnAt (K : PySem.W.Frag) (H : Hp) (e : En) : Prop := H e.t = some (.tup [.ref e.k.a, .int (e.k.p : Nat), .int (e.k.d : Nat), .ref e.il]) ∧ H e.il = some (.lst (e.ls.map V.str)) ∧ FmD K H e.k ∧ (∀ x, x ∈ e.k.ix ↔ x ∈ e.ls) ∧ e.ls.length ≤ e.k.p
theorem EnAt.same {H H' : Hp} {e : En} (h : EnAt K H e) (s : Same H H') : EnAt K H' e := by
  obtain ⟨h1, h2, h3, h4⟩ := h
  exact ⟨s _ _ h1, s _ _ h2, h3.same s, h4⟩
theorem EnAt.but {H H' : Hp} {e : En} {a v : Addr} {xs : List V} (h : EnAt K H e) (s : SameBut a H H') (ha : H a = some (.lst (.ref v :: xs))) : EnAt K H' e := by
  obtain ⟨h1, h2, h3, h4⟩ := h
  refine ⟨s _ _ (fun z => ?_) h1, s _ _ (fun z => ?_) h2, h3.sameT (SameT.but s ha), h4⟩
  · rw [z, ha] at h1
    cases h1
  · rw [z, ha] at h2
    cases hl : e.ls with
    | nil => rw [hl] at h2; cases h2
    | cons y ys => rw [hl] at h2; cases h2
def trefs (es : List En) : List V := es.map fun e => V.ref e.t
def LenOk (op : Str) (n : Nat) : Prop := 1 ≤ n ∧ n ≤ 4 ∧ (op = "times" ∨ op = "minus" → n = 2) ∧ (op ≠ "times" → op ≠ "minus" → op ≠ "call" → n = 1)
theorem StAt.hd {H : Hp} {st : Addr} {ns : Addr × List Int} (S : StAt H st ns) : ∃ xs, H st = some (.lst (.ref ns.1 :: xs)) := by
  obtain ⟨_, _, _, h1, _⟩ := S
  exact ⟨_, h1⟩
theorem pool_ne {H : Hp} {st pl : Addr} {ns : Addr × List Int} {es : List En} (S : StAt H st ns) (h : H pl = some (.lst (trefs es))) : pl ≠ st := fun z => by
  obtain ⟨_, _, _, h1, _⟩ := S
  rw [z, h1] at h
  have h := HO.lst.inj (Option.some.inj h)
  match es, h with
  | [], h =>
    have h2 : (4 : Nat) = 0 := congrArg List.length h
    omega
  | [_], h =>
    have h2 : (4 : Nat) = 1 := congrArg List.length h
    omega
  | _ :: _ :: _, h =>
    have h2 := congrArg (fun l : List V => l[1]?) h
    cases h2
theorem last_at {es : List En} (h : es ≠ []) : ∃ e ∈ es, atI (trefs es) (-1) = some (V.ref e.t) := by
  refine ⟨es.getLast h, List.getLast_mem h, ?_⟩
  unfold atI ixN trefs
  have l1 : 1 ≤ es.length := List.length_pos_iff.mpr h
  rw [if_neg (by decide), List.length_map, if_pos (by omega), show ((-1 : Int) + (es.length : Nat)).toNat = es.length - 1 by omega]
  show (es.map fun e => V.ref e.t)[es.length - 1]? = _
  rw [List.getElem?_map, List.getElem?_eq_getElem (by omega)]
  have e2 : es[es.length - 1] = es.getLast h := (List.getLast_eq_getElem h).symm
  rw [e2]
  rfl
theorem pick_at {es : List En} {j : Nat} (h : j < es.length) : ∃ e ∈ es, (trefs es)[j]? = some (V.ref e.t) := ⟨es[j], List.getElem_mem h, by unfold trefs; rw [List.getElem?_map, List.getElem?_eq_getElem h]; rfl⟩
/-! ### _law_used -/
def spUsed : Sp := fun vs H Q _ => ∃ (st pl : Addr) (op : Str) (ns : Addr × List Int) (es : List En), vs = [.ref st, .str op, .ref pl] ∧ StAt H st ns ∧ H pl = some (.lst (trefs es)) ∧ es ≠ [] ∧ es.length ≤ 1000 ∧
  ∀ l H' us, LenOk op us.length → (∀ u ∈ us, u ∈ es) → StAt H' st ns → SameBut st H H' → H l = none → H' l = some (.lst (trefs us)) → Q (.ref l) H'
theorem scUsed : FnScope ["_law_state", "_law_op", "_law_pool", "_law_used_here", "_law_k"] ["_law_state", "_law_op", "_law_pool"] (defScope sUsed) := ⟨rfl, rfl, rfl, by decide +kernel, rfl, by decide +kernel, by decide +kernel⟩
abbrev ug (st pl U : Addr) (op : Str) (kv : Option V) : L2.St := [some (.ref st), some (.str op), some (.ref pl), some (.ref U), kv]
theorem ok_used {fd fdD : FuncData} (T : Txt K mg) (F : FnG K "_law_used" sUsed fd) (FD : FnG K "_law_draw" sDraw fdD) : FnOk P w K mg base CX0 2 (ga K "_law_used") fd ["_law_state", "_law_op", "_law_pool"] spUsed := by
  have GD : DrawOk P w K mg base fdD := ok_draw T FD
  have bD : Binds K fdD ["_law_state", "_law_many"] [] := FD.bindsN fun _ _ _ _ _ _ us hl => match us, hl with | [_, _], _ => rfl
  refine F.ok scUsed (fun vs H Q E h => ?_) (fun cdv A outer s H vs Q E hr h => ?_)
  · obtain ⟨st, pl, op, ns, es, rfl, _⟩ := h
    rfl
  obtain ⟨st, pl, op, ns, es, rfl, S, hp, ne, le, k⟩ := h
  have nd := scUsed.nd
  have npl := pool_ne S hp
  refine ⟨_, PSs.nox (pss_cons (ps_set (i := 3) nd rfl (Or.inl rfl) (pe_lst (pa_cons (pe_ix ix_list (pv 2) (pe_un un_neg pe_int) (fun _ _ => rfl)) pa_nil)))
    (C8.pss_cut (ps_if (PW.pt (pw_or (pt_cmpR op_eq (pv 1) pe_str (nomark _)) (pw_or1 (pt_cmpR op_eq (pv 1) pe_str (nomark _)))))
      (pss_one (ps_expr (pe_bm PySem.F.plainAttrs_list PySem.F.slot_list_append PySem.F.type_list_append mt_append (pv 3) (pa_cons (pe_ix ix_list (pv 2) (pe_call GD hr rfl (T.g "_law_draw") FD.kp bD .nil pass0 (pa_cons (pv 0) (pa_cons (pe_callB call_len_seq rfl (T.f "len") (by decide +kernel) (pa_cons (pv 2) pa_nil)) pa_nil))) (fun _ _ => rfl)) pa_nil)))) pss_nil)
    (C8.pss_cut (ps_if (pt_cmpR op_eq (pv 1) pe_str (nomark _))
      (pss_one (ps_for PassesOwn.never rfl (pi_range1 rfl (T.f "range") (pa_cons (pe_call GD hr rfl (T.g "_law_draw") FD.kp bD .nil pass0 (pa_cons (pv 0) (pa_cons pe_int pa_nil))) pa_nil)) (pg_name (i := 4) nd rfl (Or.inl rfl))
        (pss_one (ps_expr (pe_bm PySem.F.plainAttrs_list PySem.F.slot_list_append PySem.F.type_list_append mt_append (pv 3) (pa_cons (pe_ix ix_list (pv 2) (pe_call GD hr rfl (T.g "_law_draw") FD.kp bD .nil pass0 (pa_cons (pv 0) (pa_cons (pe_callB call_len_seq rfl (T.f "len") (by decide +kernel) (pa_cons (pv 2) pa_nil)) pa_nil))) (fun _ _ => rfl)) pa_nil)))))) pss_nil)
    (pss_one (ps_ret (pv 3)))))), ?_⟩
  have lt : (trefs es).length = es.length := by simp [trefs]
  have les : 1 ≤ es.length := List.length_pos_iff.mpr ne
  obtain ⟨e0, he0, hat⟩ := last_at ne
  refine ⟨_, rfl, _, rfl, pl, _, _, _, rfl, rfl, SqL.of hp, hat, tsz (by show 1 ≤ 1000; decide), fun U hU => ?_⟩
  have nU : U ≠ st := fun z => by
    obtain ⟨_, _, _, h1, _⟩ := S
    rw [z, h1] at hU
    cases hU
  have S1 : StAt (upd H U (.lst [.ref e0.t])) st ns := StAt.new S S hU
  have B1 : SameBut st H (upd H U (.lst [.ref e0.t])) := SameBut.new (fun _ _ _ e => e) hU
  have e1 : (upd H U (.lst [.ref e0.t])) U = some (.lst (trefs [e0])) := upd_same
  generalize upd H U (.lst [.ref e0.t]) = H1 at S1 B1 e1 ⊢
  -- one more, drawn from the pool
  have more : ∀ (H2 : Hp) (us : List En) (G : Hp → Prop), StAt H2 st ns → SameBut st H H2 → H2 U = some (.lst (trefs us)) → us.length ≤ 10 → (∀ u ∈ us, u ∈ es) →
      (∀ H3 e, e ∈ es → StAt H3 st ns → SameBut st H H3 → H3 U = some (.lst (trefs (us ++ [e]))) → G H3) →
      H2 pl = some (.lst (trefs es)) ∧ (0 : Int) < (trefs es).length ∧ ((trefs es).length : Int) ≤ 10 ^ 30 ∧ ∀ r H3, 0 ≤ r → r < ((trefs es).length : Int) → StAt H3 st ns → SameBut st H2 H3 →
        ∃ v, H3 pl = some (.lst (trefs es)) ∧ atI (trefs es) r = some v ∧ H3 U = some (.lst (trefs us)) ∧ (trefs us).length < sizeLine ∧ G (upd H3 U (.lst (trefs us ++ [v]))) := by
    intro H2 us G S2 B2 e2 l2 i2 g
    refine ⟨B2 _ _ npl hp, by omega, by omega, fun r H3 r0 r1 S3 B3 => ?_⟩
    obtain ⟨j, rfl⟩ := Int.eq_ofNat_of_zero_le r0
    obtain ⟨e, he, hej⟩ := pick_at (es := es) (j := j) (by omega)
    have B03 := B2.trans B3
    refine ⟨V.ref e.t, B03 _ _ npl hp, atI_nat hej, B3 _ _ nU e2, ?_, g _ e he (StAt.new S3 S hU) (B03.new hU) ?_⟩
    · have : (trefs us).length = us.length := by simp [trefs]
      rw [this, sizeLine_eq]
      omega
    · rw [upd_same]
      simp [trefs]
  -- a second one
  refine ⟨fun σ H' => ∃ (us : List En), σ = ug st pl U op none ∧ StAt H' st ns ∧ SameBut st H H' ∧ H' U = some (.lst (trefs us)) ∧ (∀ u ∈ us, u ∈ es) ∧ us.length = (if op = "times" ∨ op = "minus" then 2 else 1), ?_, ?_⟩
  · have one : (¬ (op = "times" ∨ op = "minus")) → ∃ (us : List En), ug st pl U op none = ug st pl U op none ∧ StAt H1 st ns ∧ SameBut st H H1 ∧ H1 U = some (.lst (trefs us)) ∧ (∀ u ∈ us, u ∈ es) ∧ us.length = (if op = "times" ∨ op = "minus" then 2 else 1) := fun h =>
      ⟨[e0], rfl, S1, B1, e1, (fun u hu => by rw [List.mem_singleton.mp hu]; exact he0), by rw [if_neg h]; rfl⟩
    obtain ⟨p1, p2, p3, p4⟩ := more H1 [e0] (fun H3 => ∃ (us : List En), ug st pl U op none = ug st pl U op none ∧ StAt H3 st ns ∧ SameBut st H H3 ∧ H3 U = some (.lst (trefs us)) ∧ (∀ u ∈ us, u ∈ es) ∧ us.length = 2) S1 B1 e1 (by show 1 ≤ 10; decide) (fun u hu => by rw [List.mem_singleton.mp hu]; exact he0)
      (fun H3 e he S3 B3 e3 => ⟨[e0, e], rfl, S3, B3, e3, (fun u hu => by
        rcases List.mem_cons.mp hu with rfl | hu
        · exact he0
        · rw [List.mem_singleton.mp hu]; exact he), rfl⟩)
    refine ⟨_, rfl, rfl, _, rfl, ?_⟩
    refine ite2 (fun h => ?_) (fun h => ?_)
    · have h : op = "times" := by have := of_decide_eq_true h; injection this
      refine ite2 (fun _ => ?_) (fun h2 => absurd rfl h2)
      refine ⟨_, rfl, .inl ⟨rfl, _, SqL.of e1⟩, _, rfl, _, rfl, _, rfl, pl, _, rfl, .inl (SqL.of p1), st, _, ns, rfl, p2, p3, S1, fun r H3 r0 r1 S3 B3 => ?_⟩
      obtain ⟨v, q1, q2, q3, q4, q5⟩ := p4 r H3 r0 r1 S3 B3
      rw [if_pos (.inl h)]
      exact ⟨pl, _, _, v, rfl, rfl, SqL.of q1, q2, U, _, v, rfl, rfl, q3, q4, q5⟩
    · have n1 : op ≠ "times" := fun z => h (decide_eq_true (by rw [z]))
      refine ⟨_, rfl, rfl, _, rfl, ?_⟩
      refine ite2 (fun h => ?_) (fun h => ?_)
      · have h : op = "minus" := by have := of_decide_eq_true h; injection this
        refine ⟨_, rfl, .inl ⟨rfl, _, SqL.of e1⟩, _, rfl, _, rfl, _, rfl, pl, _, rfl, .inl (SqL.of p1), st, _, ns, rfl, p2, p3, S1, fun r H3 r0 r1 S3 B3 => ?_⟩
        obtain ⟨v, q1, q2, q3, q4, q5⟩ := p4 r H3 r0 r1 S3 B3
        rw [if_pos (.inr h)]
        exact ⟨pl, _, _, v, rfl, rfl, SqL.of q1, q2, U, _, v, rfl, rfl, q3, q4, q5⟩
      · have n2 : op ≠ "minus" := fun z => h (decide_eq_true (by rw [z]))
        exact one (fun z => z.elim n1 n2)
  rintro σ H2 ⟨us, rfl, S2, B2, e2, i2, l2⟩
  refine ⟨fun σ H' => ∃ (us : List En) (kv : Option V), σ = ug st pl U op kv ∧ StAt H' st ns ∧ SameBut st H H' ∧ H' U = some (.lst (trefs us)) ∧ (∀ u ∈ us, u ∈ es) ∧ LenOk op us.length, ?_, ?_⟩
  · refine ⟨_, rfl, rfl, _, rfl, ?_⟩
    refine ite2 (fun h => ?_) (fun h => ?_)
    · have h : op = "call" := by have := of_decide_eq_true h; injection this
      subst h
      rw [if_neg (by decide +kernel)] at l2
      refine ⟨_, rfl, st, 4, ns, rfl, by decide, by decide, S2, fun n H3 n0 n1 S3 B3 => ?_⟩
      obtain ⟨n, rfl⟩ := Int.eq_ofNat_of_zero_le n0
      refine ⟨_, rfl, by omega, by omega, for_range (lo := 0) (n := ((n : Nat) : Int).toNat) (fun i σ H' => ∃ (us : List En) (kv : Option V), σ = ug st pl U "call" kv ∧ StAt H' st ns ∧ SameBut st H H' ∧ H' U = some (.lst (trefs us)) ∧ (∀ u ∈ us, u ∈ es) ∧ us.length = i + 1) ⟨us, none, rfl, S3, B2.trans B3, B3 _ _ nU e2, i2, l2⟩ ?_ ?_⟩
      · rintro i σ H4 hi ⟨us4, kv, rfl, S4, B4, e4, i4, l4⟩
        obtain ⟨p1, p2, p3, p4⟩ := more H4 us4 (fun H5 => ∃ (us : List En) (kv' : Option V), ug st pl U "call" (some (.int (0 + (i : Nat)))) = ug st pl U "call" kv' ∧ StAt H5 st ns ∧ SameBut st H H5 ∧ H5 U = some (.lst (trefs us)) ∧ (∀ u ∈ us, u ∈ es) ∧ us.length = i + 1 + 1) S4 B4 e4 (by omega) i4
          (fun H5 e he S5 B5 e5 => ⟨us4 ++ [e], _, rfl, S5, B5, e5, (fun u hu => by
            rcases List.mem_append.mp hu with hu | hu
            · exact i4 u hu
            · rw [List.mem_singleton.mp hu]; exact he), by rw [List.length_append, l4]; rfl⟩)
        refine ⟨_, rfl, .inl ⟨rfl, _, SqL.of e4⟩, _, rfl, _, rfl, _, rfl, pl, _, rfl, .inl (SqL.of p1), st, _, ns, rfl, p2, p3, S4, fun r H5 r0 r1 S5 B5 => ?_⟩
        obtain ⟨v, q1, q2, q3, q4, q5⟩ := p4 r H5 r0 r1 S5 B5
        exact ⟨pl, _, _, v, rfl, rfl, SqL.of q1, q2, U, _, v, rfl, rfl, q3, q4, q5⟩
      · rintro σ H4 ⟨us4, kv, rfl, S4, B4, e4, i4, l4⟩
        refine ⟨us4, kv, rfl, S4, B4, e4, i4, by omega, by omega, fun z => ?_, fun _ _ z => absurd rfl z⟩
        rcases z with z | z <;> exact absurd z (by decide +kernel)
    · have n3 : op ≠ "call" := fun z => h (decide_eq_true (by rw [z]))
      refine ⟨us, none, rfl, S2, B2, e2, i2, ?_, ?_, fun z => by rw [l2, if_pos z], fun a b _ => by rw [l2, if_neg (fun z => z.elim a b)]⟩
      · rw [l2]; split <;> omega
      · rw [l2]; split <;> omega
  rintro σ H3 ⟨us, kv, rfl, S3, B3, e3, i3, l3⟩
  exact ⟨_, rfl, k U H3 us l3 i3 S3 B3 hU e3⟩
end
end K2
set_option Elab.async false
set_option linter.all false
set_option maxRecDepth 100000
set_option maxHeartbeats 4000000
namespace K2
open PySem PySem.Spec PyProof.Rows L2 He Sw L2H
section
variable {P : Program} {w : World} {K : PySem.W.Frag} {mg : Str → Option Value} {base : Heap}
/-! ### what an operation makes of formulas -/
def kidsOf (op : Str) : List Kd → List Kd
  | [a] => if op = "double" then [a, a] else [a]
  | [a, b] => if op = "times" then [b, a] else [a, b]
  | ks => ks
theorem kids1 (op : Str) (a : Kd) : kidsOf op [a] = if op = "double" then [a, a] else [a] := rfl
theorem kids2 (op : Str) (a b : Kd) : kidsOf op [a, b] = if op = "times" then [b, a] else [a, b] := rfl
def ownOf (op name : Str) : List Str := if op = "sum" then [name] else []
def Bad (op name : Str) (ks : List Kd) : Prop := op = "sum" ∧ ∃ k ∈ ks, name ∈ k.ix
theorem maxD_kids (op : Str) : ∀ ks : List Kd, maxD (kidsOf op ks) = maxD ks
  | [] => rfl
  | [a] => by
    rw [kids1]
    split
    · show max a.d (max a.d 0) = max a.d 0
      omega
    · rfl
  | [a, b] => by
    rw [kids2]
    split
    · show max b.d (max a.d 0) = max a.d (max b.d 0)
      omega
    · rfl
  | _ :: _ :: _ :: _ => rfl
theorem sumP_kids (op : Str) (hop : op ≠ "double") : ∀ ks : List Kd, sumP (kidsOf op ks) = sumP ks
  | [] => rfl
  | [a] => by
    rw [kids1]
    rw [if_neg hop]
  | [a, b] => by
    rw [kids2]
    split
    · show b.p + (a.p + 0) = a.p + (b.p + 0)
      omega
    · rfl
  | _ :: _ :: _ :: _ => rfl
theorem mem_ixs {ks : List Kd} {x : Str} : x ∈ ixs ks ↔ ∃ k ∈ ks, x ∈ k.ix := by
  unfold ixs
  constructor
  · intro h
    obtain ⟨l, hl, hx⟩ := List.mem_flatten.mp h
    obtain ⟨k, hk, rfl⟩ := List.mem_map.mp hl
    exact ⟨k, hk, hx⟩
  · rintro ⟨k, hk, hx⟩
    exact List.mem_flatten.mpr ⟨_, List.mem_map.mpr ⟨k, hk, rfl⟩, hx⟩
theorem mem_kids (op : Str) {k : Kd} : ∀ {ks : List Kd}, k ∈ kidsOf op ks ↔ k ∈ ks
  | [] => Iff.rfl
  | [a] => by
    rw [kids1]
    split <;> simp
  | [a, b] => by
    rw [kids2]
    split
    · simp [or_comm]
    · rfl
  | _ :: _ :: _ :: _ => Iff.rfl
def kds (us : List En) : List Kd := us.map (·.k)
def lss (us : List En) : List Str := (us.map (·.ls)).flatten
theorem mem_lss {us : List En} {x : Str} : x ∈ lss us ↔ ∃ u ∈ us, x ∈ u.ls := by
  unfold lss
  constructor
  · intro h
    obtain ⟨l, hl, hx⟩ := List.mem_flatten.mp h
    obtain ⟨k, hk, rfl⟩ := List.mem_map.mp hl
    exact ⟨k, hk, hx⟩
  · rintro ⟨k, hk, hx⟩
    exact List.mem_flatten.mpr ⟨_, List.mem_map.mpr ⟨k, hk, rfl⟩, hx⟩
theorem lss_len : ∀ {us : List En}, (∀ u ∈ us, u.ls.length ≤ u.k.p) → (lss us).length ≤ sumP (kds us)
  | [], _ => Nat.le_refl _
  | u :: us, h => by
    have h1 := h u List.mem_cons_self
    have h2 := lss_len (us := us) fun q hq => h q (List.mem_cons_of_mem _ hq)
    show (u.ls ++ lss us).length ≤ u.k.p + sumP (kds us)
    rw [List.length_append]
    omega
/-- [one[j] for one in used] -/
theorem lc_us {us : List En} {j : Int} {g : En → Int} {i : Nat} {e : Addr} {H : Hp} {D : Addr} {σ : L2.St} {Qd : Hp → Prop} (he : H e = some (.lst (trefs us))) (hu : ∀ u ∈ us, EnAt K H u) (hl : us.length ≤ 10) (hD : H D = none)
    (hg : ∀ u : En, atI [V.ref u.k.a, .int (u.k.p : Nat), .int (u.k.d : Nat), .ref u.il] j = some (.int (g u))) (hi : ∀ v : V, ((wipe σ [i]).set i (some v))[i]? = some (some v)) (hw : ∀ v : V, wipe ((wipe σ [i]).set i (some v)) [i] = wipe σ [i])
    (hd : ∀ H', H' D = some (.lst ((us.map g).map V.int)) → Same H H' → Qd H') :
    ∃ W : Nat → Nat → Hp → Prop, (∃ m, W 0 m (upd H D (.lst []))) ∧ ∀ k m H, W k m H →
      ((Itl K e).stop k H ∧ Qd H) ∨ ((Itl K e).go k H ∧ ∃ Nx : Hp → Prop, (∀ H', Nx H' → ∃ m', m' < m ∧ W (k + 1) m' H') ∧ ∀ x H', (Itl K e).yld k H x H' → gName i x (wipe σ [i]) H' fun σ2 H2 => wipe σ2 [i] = wipe σ [i] ∧ tYes σ2 H2 fun b H3 =>
        if b = true then tOp (rIxT K) (tVar i) (tC (.int j)) σ2 H3 fun y H4 => ∃ acc, H4 D = some (.lst acc) ∧ acc.length < sizeLine ∧ Nx (upd H4 D (.lst (acc ++ [y]))) else Nx H3) := by
  have updd : ∀ (o o' : HO), upd (upd H D o) D o' = upd H D o' := fun o o' => by
    funext b
    by_cases hb : b = D
    · rw [hb, upd_same, upd_same]
    · rw [upd_ne hb, upd_ne hb, upd_ne hb]
  have up : ∀ {o}, Same H (upd H D o) := fun {o} b u e => by rw [upd_ne (ne_of_none e hD)]; exact e
  refine lc_list (K := K) (a := e) (xs := trefs us) (fun k H' => H' = upd H D (.lst (((us.take k).map g).map V.int))) (by simp) (fun k H' _ eH => by rw [eH]; exact SqL.of (up _ _ he)) (fun k x H' hx eH => ?_) (fun H' eH => ?_)
  · subst eH
    obtain ⟨u, hkj, rfl⟩ : ∃ u, us[k]? = some u ∧ V.ref u.t = x := by
      unfold trefs at hx
      rw [List.getElem?_map] at hx
      cases h : us[k]? with
      | none => rw [h] at hx; cases hx
      | some k => rw [h] at hx; exact ⟨k, rfl, by injection hx⟩
    have eu := (hu u (List.mem_of_getElem? hkj)).1
    refine ⟨hw _, ?_⟩
    refine ⟨_, hi _, u.t, _, _, _, rfl, rfl, SqT.of (up _ _ eu), hg u, _, upd_same, ?_, ?_⟩
    · rw [List.length_map, List.length_map, List.length_take, sizeLine_eq]
      omega
    · show upd (upd H D _) D _ = _
      rw [updd, List.take_add_one, hkj]
      simp
  · subst eH
    have e2 : us.take (trefs us).length = us := List.take_of_length_le (by simp [trefs])
    rw [e2]
    exact hd _ upd_same up
/-- [x for x in xs], texts -/
theorem lc_copyT {zs : List Str} {i : Nat} {e : Addr} {H : Hp} {D : Addr} {σ : L2.St} {Qd : Hp → Prop} (he : H e = some (.lst (zs.map V.str))) (hl : zs.length ≤ 10000) (hD : H D = none)
    (hi : ∀ v : V, ((wipe σ [i]).set i (some v))[i]? = some (some v)) (hw : ∀ v : V, wipe ((wipe σ [i]).set i (some v)) [i] = wipe σ [i])
    (hd : ∀ H', H' D = some (.lst (zs.map V.str)) → Same H H' → Qd H') :
    ∃ W : Nat → Nat → Hp → Prop, (∃ m, W 0 m (upd H D (.lst []))) ∧ ∀ k m H, W k m H →
      ((Itl K e).stop k H ∧ Qd H) ∨ ((Itl K e).go k H ∧ ∃ Nx : Hp → Prop, (∀ H', Nx H' → ∃ m', m' < m ∧ W (k + 1) m' H') ∧ ∀ x H', (Itl K e).yld k H x H' → gName i x (wipe σ [i]) H' fun σ2 H2 => wipe σ2 [i] = wipe σ [i] ∧ tYes σ2 H2 fun b H3 =>
        if b = true then tVar i σ2 H3 fun y H4 => ∃ acc, H4 D = some (.lst acc) ∧ acc.length < sizeLine ∧ Nx (upd H4 D (.lst (acc ++ [y]))) else Nx H3) := by
  have updd : ∀ (o o' : HO), upd (upd H D o) D o' = upd H D o' := fun o o' => by
    funext b
    by_cases hb : b = D
    · rw [hb, upd_same, upd_same]
    · rw [upd_ne hb, upd_ne hb, upd_ne hb]
  have up : ∀ {o}, Same H (upd H D o) := fun {o} b u e => by rw [upd_ne (ne_of_none e hD)]; exact e
  refine lc_list (K := K) (a := e) (xs := zs.map V.str) (fun k H' => H' = upd H D (.lst ((zs.take k).map V.str))) (by simp) (fun k H' _ eH => by rw [eH]; exact SqL.of (up _ _ he)) (fun k x H' hx eH => ?_) (fun H' eH => ?_)
  · subst eH
    obtain ⟨u, hkj, rfl⟩ : ∃ u, zs[k]? = some u ∧ V.str u = x := by
      rw [List.getElem?_map] at hx
      cases h : zs[k]? with
      | none => rw [h] at hx; cases hx
      | some k => rw [h] at hx; exact ⟨k, rfl, by injection hx⟩
    refine ⟨hw _, ?_⟩
    refine ⟨_, hi _, _, upd_same, ?_, ?_⟩
    · rw [List.length_map, List.length_take, sizeLine_eq]
      omega
    · show upd (upd H D _) D _ = _
      rw [updd, List.take_add_one, hkj]
      simp
  · subst eH
    have e2 : zs.take (zs.map V.str).length = zs := List.take_of_length_le (by simp)
    rw [e2]
    exact hd _ upd_same up
theorem sum_us : ∀ us : List En, ((us.map fun u => (u.k.p : Int))).sum = (sumP (kds us) : Nat)
  | [] => rfl
  | k :: ks => by
    have e := sum_us ks
    show (k.k.p : Int) + ((ks.map fun u => (u.k.p : Int))).sum = ((k.k.p + sumP (kds ks) : Nat) : Int)
    omega
/-! ### _law_due -/
def spDue (K : PySem.W.Frag) : Sp := fun vs H Q _ => ∃ (op name : Str) (ul : Addr) (us : List En), vs = [.str op, .ref ul, .str name] ∧ H ul = some (.lst (trefs us)) ∧ LenOk op us.length ∧ (∀ u ∈ us, EnAt K H u) ∧
  (Bad op name (kds us) → ∀ r H', Same H H' → H' r = some (.tup [.str "name", .str name]) → Q (.ref r) H') ∧
  (¬ Bad op name (kds us) → ¬ Fits (kidsOf op (kds us)) → ∀ r H', Same H H' → H' r = some (.tup [.str "many", .non]) → Q (.ref r) H') ∧
  (¬ Bad op name (kds us) → Fits (kidsOf op (kds us)) → ∀ (r il : Addr) (ls : List Str) (H' : Hp), Same H H' → H' r = some (.tup [.str "made", .int ((1 + sumP (kidsOf op (kds us)) : Nat)), .int ((1 + maxD (kidsOf op (kds us)) : Nat)), .ref il]) → H' il = some (.lst (ls.map V.str)) → H il = none →
    (∀ x, x ∈ ownOf op name ++ ixs (kidsOf op (kds us)) ↔ x ∈ ls) → ls.length ≤ 1 + sumP (kidsOf op (kds us)) → Q (.ref r) H')
theorem scDue : FnScope ["_law_op", "_law_used_here", "_law_name", "_law_one", "_law_parts", "_law_depth", "_law_indexes", "_law_word"] ["_law_op", "_law_used_here", "_law_name"] (defScope sDue) := ⟨rfl, rfl, rfl, by decide +kernel, rfl, by decide +kernel, by decide +kernel⟩
theorem ok_due {fd : FuncData} (T : Txt K mg) (F : FnG K "_law_due" sDue fd) : FnOk P w K mg base CX0 1 (ga K "_law_due") fd ["_law_op", "_law_used_here", "_law_name"] (spDue K) := by
  refine F.ok scDue (fun vs H Q E h => ?_) (fun cdv A outer s H vs Q E hr h => ?_)
  · obtain ⟨op, name, ul, us, rfl, _⟩ := h
    rfl
  obtain ⟨op, name, ul, us, rfl, hul, lo, hu, k1, k2, k3⟩ := h
  have nd := scDue.nd
  refine ⟨_, PSs.nox (pss_cons (ps_set (i := 4) nd rfl (Or.inl rfl) (pe_op op_add pe_int (pe_callB (cr_sum rfl) rfl (T.f "sum") (by decide +kernel) (pa_cons (pe_lc (own := [("_law_one", 3)]) (te := tOp (rIxT K) (tVar 3) (tC (.int 1))) (g := gName 3) (tt := tYes) rfl nd (pi_list (pv 1))
        (blkOk_by (N := ["_law_op", "_law_used_here", "_law_name", "_law_one", "_law_parts", "_law_depth", "_law_indexes", "_law_word"]) (sc := defScope sDue) (by decide +kernel)) (fun _ _ _ _ _ => pg_name (i := 3) nd rfl (Or.inl rfl)) (fun _ _ _ _ _ => pts_nil)
        (fun _ _ _ _ _ => pe_ix ix_tup (pv 3) pe_int (fun _ _ => rfl))) pa_nil))))
    (pss_cons (ps_set (i := 5) nd rfl (Or.inl rfl) (pe_op op_add pe_int (pe_callB (cr_max rfl) rfl (T.f "max") (by decide +kernel) (pa_cons (pe_lc (own := [("_law_one", 3)]) (te := tOp (rIxT K) (tVar 3) (tC (.int 2))) (g := gName 3) (tt := tYes) rfl nd (pi_list (pv 1))
        (blkOk_by (N := ["_law_op", "_law_used_here", "_law_name", "_law_one", "_law_parts", "_law_depth", "_law_indexes", "_law_word"]) (sc := defScope sDue) (by decide +kernel)) (fun _ _ _ _ _ => pg_name (i := 3) nd rfl (Or.inl rfl)) (fun _ _ _ _ _ => pts_nil)
        (fun _ _ _ _ _ => pe_ix ix_tup (pv 3) pe_int (fun _ _ => rfl))) pa_nil))))
    (C8.pss_cut (ps_if (pt_cmpR op_eq (pv 0) pe_str (nomark _)) (pss_one (ps_set (i := 4) nd rfl (Or.inl rfl) (pe_op op_add pe_int (pe_op op_mul pe_int (pe_ix ix_tup (pe_ix ix_list (pv 1) pe_int (fun _ _ => rfl)) pe_int (fun _ _ => rfl)))))) pss_nil)
    (pss_cons (ps_set (i := 6) nd rfl (Or.inl rfl) (pe_lst pa_nil))
    (pss_cons (ps_for PassesOwn.never rfl (pi_list (pv 1)) (pg_name (i := 3) nd rfl (Or.inl rfl)) (pss_one (ps_set (i := 6) nd rfl (Or.inl rfl) (pe_op op_cat (pv 6) (pe_ix ix_tup (pv 3) pe_int (fun _ _ => rfl))))))
    (C8.pss_cut (ps_if (PW.pt (pw_and (pt_cmpR op_eq (pv 0) pe_str (nomark _)) (pw_and1 (pt_cmpR op_in_seq (pv 2) (pv 6) rfl)))) (pss_one (ps_ret (pe_tup (pa_cons pe_str (pa_cons (pv 2) pa_nil))))) pss_nil)
    (C8.pss_cut (ps_if (PW.pt (pw_or (pt_cmpR op_gt (pv 4) pe_int (nomark _)) (pw_or1 (pt_cmpR op_gt (pv 5) pe_int (nomark _))))) (pss_one (ps_ret (pe_tup (pa_cons pe_str (pa_cons pe_non pa_nil))))) pss_nil)
    (C8.pss_cut (ps_if (pt_cmpR op_eq (pv 0) pe_str (nomark _)) (pss_one (ps_set (i := 6) nd rfl (Or.inl rfl) (pe_op op_cat (pv 6) (pe_lst (pa_cons (pv 2) pa_nil))))) pss_nil)
    (pss_one (ps_ret (pe_tup (pa_cons pe_str (pa_cons (pv 4) (pa_cons (pv 5) (pa_cons (pe_lc (own := [("_law_word", 7)]) (te := tVar 7) (g := gName 7) (tt := tYes) rfl nd (pi_list (pv 6))
        (blkOk_by (N := ["_law_op", "_law_used_here", "_law_name", "_law_one", "_law_parts", "_law_depth", "_law_indexes", "_law_word"]) (sc := defScope sDue) (by decide +kernel)) (fun _ _ _ _ _ => pg_name (i := 7) nd rfl (Or.inl rfl)) (fun _ _ _ _ _ => pts_nil)
        (fun _ _ _ _ _ => pv 7)) pa_nil))))))))))))))), ?_⟩
  have l10 : us.length ≤ 10 := by have := lo.2.1; omega
  have lk : (kds us).length = us.length := by simp [kds]
  have une : us ≠ [] := fun z => by rw [z] at lo; exact absurd lo.1 (by decide)
  -- parts
  refine ⟨_, rfl, ul, rfl, ⟨_, SqL.of hul⟩, fun D hD => ?_⟩
  refine lc_us (g := fun u => (u.k.p : Int)) hul hu l10 hD (fun _ => rfl) (fun _ => rfl) (fun _ => rfl) (fun H1 e1 s1 => ?_)
  refine ⟨D, us.map fun u => (u.k.p : Int), rfl, SqL.of e1, _, _, rfl, rfl, ?_⟩
  rw [sum_us]
  -- depth
  refine ⟨_, rfl, ul, rfl, ⟨_, SqL.of (s1 _ _ hul)⟩, fun D2 hD2 => ?_⟩
  refine lc_us (g := fun u => (u.k.d : Int)) (s1 _ _ hul) (fun u h => (hu u h).same s1) l10 hD2 (fun _ => rfl) (fun _ => rfl) (fun _ => rfl) (fun H2 e2 s2 => ?_)
  have ed : (us.map fun u => (u.k.d : Int)) = (kds us).map fun k => (k.d : Int) := by unfold kds; rw [List.map_map]; rfl
  refine ⟨D2, us.map fun u => (u.k.d : Int), rfl, SqL.of e2, by rw [List.length_map]; exact lo.1, ?_⟩
  rw [ed]
  refine (max_kids ?_).1
  have s02 := s1.trans s2
  refine ⟨_, _, rfl, rfl, ?_⟩
  -- a double
  refine ⟨fun σ H' => H' = H2 ∧ σ = [some (.str op), some (.ref ul), some (.str name), none, some (.int (1 + (sumP (kidsOf op (kds us)) : Nat))), some (.int (1 + (maxD (kds us) : Nat))), none, none], ?_, ?_⟩
  · refine ⟨_, rfl, rfl, _, rfl, ?_⟩
    refine ite2 (fun h => ?_) (fun h => ?_)
    · have h : op = "double" := by have := of_decide_eq_true h; injection this
      subst h
      have l1 := lo.2.2.2 (by decide +kernel) (by decide +kernel) (by decide +kernel)
      obtain ⟨u, rfl⟩ : ∃ u, us = [u] := List.length_eq_one_iff.mp l1
      have eu := ((hu u List.mem_cons_self).same s02).1
      refine ⟨_, rfl, ul, _, _, _, rfl, rfl, SqL.of (s02 _ _ hul), rfl, u.t, _, _, .int (u.k.p : Nat), rfl, rfl, SqT.of eu, rfl, _, _, rfl, rfl, .inl ⟨by decide, by decide⟩, _, _, rfl, rfl, rfl, ?_⟩
      have e3 : (1 : Int) + 2 * (u.k.p : Nat) = 1 + (sumP (kidsOf "double" (kds [u])) : Nat) := by
        show (1 : Int) + 2 * (u.k.p : Nat) = 1 + ((u.k.p + (u.k.p + 0) : Nat) : Int)
        omega
      rw [← e3]
      rfl
    · have h : op ≠ "double" := fun z => h (decide_eq_true (by rw [z]))
      rw [sumP_kids op h]
      exact ⟨rfl, rfl⟩
  rintro σ H2 ⟨rfl, rfl⟩
  -- the indexes
  refine ⟨tsz (by show 0 ≤ 1000; decide), fun O hO => ?_⟩
  have s3 : Same H2 (upd H2 O (.lst [])) := fun b o q => by rw [upd_ne (ne_of_none q hO)]; exact q
  have e3 : (upd H2 O (.lst [])) O = some (.lst ((lss (us.take 0)).map V.str)) := upd_same
  generalize upd H2 O (.lst []) = H3 at s3 e3 ⊢
  have s03 := s02.trans s3
  have lsl : ∀ i, (lss (us.take i)).length ≤ 3000 := fun i => by
    have h1 := lss_len (us := us.take i) fun u h => (hu u (List.mem_of_mem_take h)).2.2.2.2
    have h2 : ∀ vs : List En, (∀ u ∈ vs, u ∈ us) → sumP (kds vs) ≤ 300 * vs.length := by
      intro vs
      induction vs with
      | nil => intro _; exact Nat.le_refl _
      | cons v vs ih =>
        intro h
        have a1 := ih fun u hu' => h u (List.mem_cons_of_mem _ hu')
        have a2 := (hu v (h v List.mem_cons_self)).2.2.1.small.1
        show v.k.p + sumP (kds vs) ≤ 300 * (vs.length + 1)
        omega
    have h3 := h2 (us.take i) fun u h => List.mem_of_mem_take h
    have h4 : (us.take i).length ≤ us.length := by rw [List.length_take]; exact Nat.min_le_right _ _
    omega
  have ltr : (trefs us).length = us.length := by simp [trefs]
  refine ⟨_, rfl, ul, rfl, ⟨_, SqL.of (s03 _ _ hul)⟩, for_list (xs := trefs us) (fun i σ H' => ∃ (ov : Option V) (O : Addr), σ = [some (.str op), some (.ref ul), some (.str name), ov, some (.int (1 + (sumP (kidsOf op (kds us)) : Nat))), some (.int (1 + (maxD (kds us) : Nat))), some (.ref O), none] ∧ Same H H' ∧ H' O = some (.lst ((lss (us.take i)).map V.str)))
    ⟨none, O, rfl, s03, e3⟩ (fun i σ H' _ ⟨_, _, _, sH, _⟩ => SqL.of (sH _ _ hul)) ?_ ?_⟩
  · rintro i x σ H4 hx ⟨ov, O, rfl, s4, e4⟩
    obtain ⟨u, hkj, rfl⟩ : ∃ u, us[i]? = some u ∧ V.ref u.t = x := by
      unfold trefs at hx
      rw [List.getElem?_map] at hx
      cases h : us[i]? with
      | none => rw [h] at hx; cases hx
      | some k => rw [h] at hx; exact ⟨k, rfl, by injection hx⟩
    have eu := (hu u (List.mem_of_getElem? hkj)).same s4
    refine ⟨_, rfl, _, rfl, u.t, _, _, .ref u.il, rfl, rfl, SqT.of eu.1, rfl, O, u.il, _, _, rfl, rfl, e4, eu.2.1, ?_, fun p hp => ?_⟩
    · have a1 := lsl i
      have a2 := eu.2.2.2.2
      have a3 := eu.2.2.1.small.1
      rw [List.length_map, List.length_map, sizeLine_eq]
      omega
    · refine ⟨_, p, rfl, s4.trans (fun b o q => by rw [upd_ne (ne_of_none q hp)]; exact q), ?_⟩
      rw [upd_same, ← List.map_append]
      have : lss (us.take (i + 1)) = lss (us.take i) ++ u.ls := by
        unfold lss
        rw [List.take_add_one, hkj]
        simp
      rw [this]
  rintro σ H5 ⟨ov, O5, rfl, s5, e5⟩
  have e5 : H5 O5 = some (.lst ((lss us).map V.str)) := by
    rw [ltr, List.take_length] at e5
    exact e5
  have lsu : (lss us).length ≤ 3000 := by have := lsl us.length; rw [List.take_length] at this; exact this
  have memL : ∀ x, x ∈ lss us ↔ ∃ k ∈ kds us, x ∈ k.ix := fun x => by
    rw [mem_lss]
    constructor
    · rintro ⟨u, h1, h2⟩
      exact ⟨u.k, List.mem_map.mpr ⟨u, h1, rfl⟩, ((hu u h1).2.2.2.1 x).mpr h2⟩
    · rintro ⟨k, h1, h2⟩
      obtain ⟨u, h3, rfl⟩ := List.mem_map.mp h1
      exact ⟨u, h3, ((hu u h3).2.2.2.1 x).mp h2⟩
  generalize hsg : [some (V.str op), some (V.ref ul), some (V.str name), ov, some (V.int (1 + (sumP (kidsOf op (kds us)) : Nat))), some (V.int (1 + (maxD (kds us) : Nat))), some (V.ref O5), none] = sg
  -- an index twice
  refine ⟨fun σ H' => H' = H5 ∧ σ = sg ∧ ¬ Bad op name (kds us), ?_, ?_⟩
  · subst hsg
    refine ⟨_, rfl, rfl, _, rfl, ?_⟩
    refine ite2 (fun h => ?_) (fun h => ?_)
    · have h : op = "sum" := by have := of_decide_eq_true h; injection this
      refine ⟨_, rfl, _, rfl, O5, _, rfl, .inl (SqL.of e5), rfl, flat_strs _, _, rfl, ?_⟩
      refine ite2 (fun h2 => ?_) (fun h2 => ?_)
      · have h2 : inV (.str name) ((lss us).map V.str) = true := h2
        rw [inV_strs] at h2
        have hb : Bad op name (kds us) := ⟨h, (memL name).mp (of_decide_eq_true h2)⟩
        refine ⟨_, rfl, tsz (by show 2 ≤ 1000; decide), fun r hr => k1 hb r _ (s5.trans fun b o q => by rw [upd_ne (ne_of_none q hr)]; exact q) upd_same⟩
      · have h2 : ¬ (inV (.str name) ((lss us).map V.str) = true) := h2
        rw [inV_strs] at h2
        exact ⟨rfl, rfl, fun hb => h2 (decide_eq_true ((memL name).mpr hb.2))⟩
    · have h : op ≠ "sum" := fun z => h (decide_eq_true (by rw [z]))
      exact ⟨rfl, rfl, fun hb => h hb.1⟩
  rintro sg H6 ⟨rfl, rfl, nb⟩
  -- too great
  refine ⟨fun σ H' => H' = H6 ∧ σ = sg ∧ Fits (kidsOf op (kds us)), ?_, ?_⟩
  · have many : ¬ Fits (kidsOf op (kds us)) → 2 ≤ sizeLine ∧ ∀ r, H6 r = none → Q (.ref r) (upd H6 r (.tup [.str "many", .non])) := fun nf => ⟨tsz (by decide), fun r hr => k2 nb nf r _ (s5.trans fun b o q => by rw [upd_ne (ne_of_none q hr)]; exact q) upd_same⟩
    subst hsg
    refine ⟨_, rfl, _, _, rfl, rfl, _, rfl, ?_⟩
    refine ite2 (fun h => ?_) (fun h => ?_)
    · refine ite2 (fun _ => ?_) (fun h2 => absurd rfl h2)
      have h : (300 : Int) < 1 + (sumP (kidsOf op (kds us)) : Nat) := of_decide_eq_true h
      exact many fun f => by have := f.1; omega
    have h : ¬ ((300 : Int) < 1 + (sumP (kidsOf op (kds us)) : Nat)) := fun z => h (decide_eq_true z)
    refine ⟨_, rfl, _, _, rfl, rfl, _, rfl, ?_⟩
    refine ite2 (fun h4 => ?_) (fun h4 => ?_)
    · have h4 : (40 : Int) < 1 + (maxD (kds us) : Nat) := of_decide_eq_true h4
      exact many fun f => by have := f.2; rw [maxD_kids] at this; omega
    have h4 : ¬ ((40 : Int) < 1 + (maxD (kds us) : Nat)) := fun z => h4 (decide_eq_true z)
    exact ⟨rfl, rfl, by omega, by rw [maxD_kids]; omega⟩
  rintro sg H7 ⟨rfl, rfl, fit⟩
  -- the own index
  refine ⟨fun σ H' => ∃ (O : Addr) (ls : List Str), σ = [some (V.str op), some (V.ref ul), some (V.str name), ov, some (V.int (1 + (sumP (kidsOf op (kds us)) : Nat))), some (V.int (1 + (maxD (kds us) : Nat))), some (V.ref O), none] ∧ Same H H' ∧ H' O = some (.lst (ls.map V.str)) ∧ (∀ x, x ∈ ownOf op name ++ ixs (kidsOf op (kds us)) ↔ x ∈ ls) ∧ ls.length ≤ 1 + sumP (kidsOf op (kds us)) ∧ ls.length ≤ 10000, ?_, ?_⟩
  · have ml : ∀ x, x ∈ ixs (kidsOf op (kds us)) ↔ x ∈ lss us := fun x => by
      rw [mem_ixs, memL]
      constructor
      · rintro ⟨k, h1, h2⟩
        exact ⟨k, (mem_kids op).mp h1, h2⟩
      · rintro ⟨k, h1, h2⟩
        exact ⟨k, (mem_kids op).mpr h1, h2⟩
    have lsp : (lss us).length ≤ sumP (kidsOf op (kds us)) := by
      have h1 := lss_len (us := us) fun u h => (hu u h).2.2.2.2
      by_cases hd : op = "double"
      · subst hd
        have l1 := lo.2.2.2 (by decide +kernel) (by decide +kernel) (by decide +kernel)
        obtain ⟨u, rfl⟩ : ∃ u, us = [u] := List.length_eq_one_iff.mp l1
        have h1 : (lss [u]).length ≤ u.k.p + 0 := h1
        show _ ≤ u.k.p + (u.k.p + 0)
        omega
      · rw [sumP_kids op hd]
        exact h1
    subst hsg
    refine ⟨_, rfl, rfl, _, rfl, ?_⟩
    refine ite2 (fun h => ?_) (fun h => ?_)
    · have h : op = "sum" := by have := of_decide_eq_true h; injection this
      refine ⟨_, rfl, _, rfl, tsz (by show 1 ≤ 1000; decide), fun a ha => ?_⟩
      have s8 : Same H7 (upd H7 a (.lst [.str name])) := fun b o q => by rw [upd_ne (ne_of_none q ha)]; exact q
      have ea : (upd H7 a (.lst [.str name])) a = some (.lst ([name].map V.str)) := upd_same
      generalize upd H7 a (.lst [.str name]) = H8 at s8 ea ⊢
      refine ⟨O5, a, _, _, rfl, rfl, s8 _ _ e5, ea, ?_, fun p hp => ?_⟩
      · rw [List.length_map, List.length_map, sizeLine_eq]
        show _ + 1 ≤ _
        omega
      · refine ⟨p, lss us ++ [name], rfl, (s5.trans s8).trans (fun b o q => by rw [upd_ne (ne_of_none q hp)]; exact q), by rw [upd_same, List.map_append], fun x => ?_, ?_, ?_⟩
        · unfold ownOf
          rw [if_pos h, List.mem_append, List.mem_append, ml]
          exact or_comm
        · rw [List.length_append]
          show _ + 1 ≤ _
          omega
        · rw [List.length_append]
          show _ + 1 ≤ _
          omega
    · have h : op ≠ "sum" := fun z => h (decide_eq_true (by rw [z]))
      refine ⟨O5, lss us, rfl, s5, e5, fun x => ?_, by omega, by omega⟩
      unfold ownOf
      rw [if_neg h]
      exact ml x
  rintro σ H8 ⟨O8, ls, rfl, s8, e8, m8, l8, l9⟩
  -- the answer
  refine ⟨_, rfl, _, rfl, _, rfl, O8, rfl, ⟨_, SqL.of e8⟩, fun D3 hD3 => ?_⟩
  refine lc_copyT e8 l9 hD3 (fun _ => rfl) (fun _ => rfl) (fun H9 e9 s9 => ?_)
  refine ⟨tsz (by show 4 ≤ 1000; decide), fun r hr => ?_⟩
  have up : ∀ {o}, Same H9 (upd H9 r o) := fun {o} b u e => by rw [upd_ne (ne_of_none e hr)]; exact e
  refine k3 nb fit r D3 ls _ ((s8.trans s9).trans up) ?_ (up _ _ e9) (none_back s8 hD3) m8 l8
  rw [upd_same, maxD_kids, Int.natCast_add, Int.natCast_add]
  rfl
end
end K2
set_option Elab.async false
set_option linter.all false
set_option maxRecDepth 100000
set_option maxHeartbeats 4000000
namespace K2
open PySem PySem.Spec PyProof.Rows L2 He Sw L2H
section
variable {P : Program} {w : World} {K : PySem.W.Frag} {mg : Str → Option Value} {base : Heap}
/-! ### _law_make -/
def BadX (K : PySem.W.Frag) (H : Hp) (name : Str) (E : XK) : Prop := ∀ H' d, Same H H' → H d = none → H' d = some (.xd [("value", .str name)]) → E (.ref (ga K "BadName")) (some d) H'
def spMake (K : PySem.W.Frag) : Sp := fun vs H Q E => ∃ (op name : Str) (fl : Addr) (n : Int) (ks : List Kd), vs = [.str op, .ref fl, .str name, .int n] ∧ op ∈ opL ∧ H fl = some (.lst (refs ks)) ∧ LenOk op ks.length ∧ (∀ k ∈ ks, FmD K H k) ∧ GoodN name ∧ 0 ≤ n ∧ n ≤ 64 ∧
  (Bad op name ks → BadX K H name E) ∧ (¬ Bad op name ks → Res K H (kidsOf op ks) (ownOf op name) Q E)
theorem scMake : FnScope ["_law_op", "_law_used_here", "_law_name", "_law_number", "_law_last"] ["_law_op", "_law_used_here", "_law_name", "_law_number"] (defScope sMake) := ⟨rfl, rfl, rfl, by decide +kernel, rfl, by decide +kernel, by decide +kernel⟩
theorem Res.qref {H : Hp} {ks : List Kd} {own : List Str} {Q : VK} {E : XK} (r : Res K H ks own Q E) : Res K H ks own (QRef Q) E := ⟨fun f H' x s h => ⟨⟨x, rfl⟩, r.1 f H' x s h⟩, r.2⟩
theorem Fm.at {n : Nat} {H : Hp} {k : Kd} (h : Fm K n H k) : ∃ x ∈ clsL, ∃ dx fs, H k.a = some (.ins (ga K x) dx fs) := by
  obtain ⟨ks, C, dx, t, kd, own, ⟨x, hx, rfl⟩, h2, _⟩ := h.node
  exact ⟨x, hx, dx, _, h2⟩
theorem fcS : FC K (ga K "Sum") := ⟨"Sum", by decide +kernel, rfl⟩
theorem fcC : FC K (ga K "Call") := ⟨"Call", by decide +kernel, rfl⟩
theorem ok_make {fd fdA fdS fdM fdN fdL fdU fdC fdV : FuncData} (T : Txt K mg) (F : FnG K "_law_make" sMake fd)
    (FA : FnF K "__add__" "Formula.__add__" sAdd fdA) (FS : FnF K "__sub__" "Formula.__sub__" sSub fdS) (FM : FnF K "__mul__" "Formula.__mul__" sMul fdM) (FN : FnF K "__neg__" "Formula.__neg__" sNeg fdN) (FL : FnF K "__lshift__" "Formula.__lshift__" sShl fdL)
    (FU : FnM K "Sum" "Sum.__init__" sSum [] fdU) (FC' : FnM K "Call" "Call.__init__" sCall [] fdC) (FV : FnM K "Number" "Number.__init__" sNum [] fdV)
    (GA : FnOk P w K mg base (L2N.CX P w) 6 (ma K (ga K "Formula") "__add__") fdA ["self", "other"] (spBin K))
    (GS : FnOk P w K mg base (L2N.CX P w) 6 (ma K (ga K "Formula") "__sub__") fdS ["self", "other"] (spBin K))
    (GM : FnOk P w K mg base (L2N.CX P w) 6 (ma K (ga K "Formula") "__mul__") fdM ["self", "other"] (spBin K))
    (GN : FnOk P w K mg base (L2N.CX P w) 6 (ma K (ga K "Formula") "__neg__") fdN ["self"] (spNeg K))
    (GL : FnOk P w K mg base (L2N.CX P w) 6 (ma K (ga K "Formula") "__lshift__") fdL ["self", "other"] (spShl K))
    (GU : FnOk P w K mg base (L2N.CX P w) 43 (ma K (ga K "Sum") "__init__") fdU ["self", "index", "below", "body"] (spSumI K))
    (GC : FnOk P w K mg base (L2N.CX P w) 5 (ma K (ga K "Call") "__init__") fdC ["self", "name", "things"] (spCallI K))
    (GV : FnOk P w K mg base (L2N.CX P w) 5 (ma K (ga K "Number") "__init__") fdV ["self", "n"] (spNumI K)) :
    FnOk P w K mg base (L2N.CX P w) 45 (ga K "_law_make") fd ["_law_op", "_law_used_here", "_law_name", "_law_number"] (spMake K) := by
  have bA : Binds K fdA ["self", "other"] [] := FA.bindsN fun _ _ _ _ _ _ us hl => match us, hl with | [_, _], _ => rfl
  have bS : Binds K fdS ["self", "other"] [] := FS.bindsN fun _ _ _ _ _ _ us hl => match us, hl with | [_, _], _ => rfl
  have bM : Binds K fdM ["self", "other"] [] := FM.bindsN fun _ _ _ _ _ _ us hl => match us, hl with | [_, _], _ => rfl
  have bN : Binds K fdN ["self"] [] := FN.bindsN fun _ _ _ _ _ _ us hl => match us, hl with | [_], _ => rfl
  have bL : Binds K fdL ["self", "other"] [] := FL.bindsN fun _ _ _ _ _ _ us hl => match us, hl with | [_, _], _ => rfl
  have bU : Binds K fdU ["self", "index", "below", "body"] [] := FU.bindsN fun _ _ _ _ _ _ us hl => match us, hl with | [_, _, _, _], _ => rfl
  have bC : Binds K fdC ["self", "name", "things"] [] := FC'.bindsN fun _ _ _ _ _ _ us hl => match us, hl with | [_, _, _], _ => rfl
  have bV : Binds K fdV ["self", "n"] [] := FV.bindsN fun _ _ _ _ _ _ us hl => match us, hl with | [_, _], _ => rfl
  refine F.ok scMake (fun vs H Q E h => ?_) (fun cdv A outer s H vs Q E hr h => ?_)
  · obtain ⟨op, name, fl, n, ks, rfl, _⟩ := h
    rfl
  obtain ⟨op, name, fl, n, ks, rfl, hop, hfl, lo, hk, hn, n0, n1, kb, kr⟩ := h
  have nd := scMake.nd
  have hr6 : Room 6 _ := hr.mono (by decide)
  refine ⟨_, pss_cons (ps_set (i := 4) nd rfl (Or.inl rfl) (pe_ix ix_list (pv 1) pe_int (fun _ _ => rfl)))
    (pss_cons (ps_if (pt_cmpR op_eq (pv 0) pe_str (nomark _)) (pss_one (ps_ret (pe_un (un_own GN hr6 bN (L2N.passes_call (E := E) (L2N.takes_of rfl rfl rfl rfl) (fun _ _ _ _ h => h))) (pv 4)))) pss_nil)
    (pss_cons (ps_if (pt_cmpR op_eq (pv 0) pe_str (nomark _)) (pss_one (ps_ret (pe_op (op_own GA hr6 bA (L2N.passes_call (E := E) (L2N.takes_of rfl rfl rfl rfl) (fun _ _ _ _ h => h)) rfl) (pv 4) (pv 4)))) pss_nil)
    (pss_cons (ps_if (pt_cmpR op_eq (pv 0) pe_str (nomark _)) (pss_one (ps_ret (pe_op (op_own GM hr6 bM (L2N.passes_call (E := E) (L2N.takes_of rfl rfl rfl rfl) (fun _ _ _ _ h => h)) rfl) (pe_ix ix_list (pv 1) pe_int (fun _ _ => rfl)) (pv 4)))) pss_nil)
    (pss_cons (ps_if (pt_cmpR op_eq (pv 0) pe_str (nomark _)) (pss_one (ps_ret (pe_op (op_own GS hr6 bS (L2N.passes_call (E := E) (L2N.takes_of rfl rfl rfl rfl) (fun _ _ _ _ h => h)) rfl) (pv 4) (pe_ix ix_list (pv 1) pe_int (fun _ _ => rfl))))) pss_nil)
    (pss_cons (ps_if (pt_cmpR op_eq (pv 0) pe_str (nomark _)) (pss_one (ps_ret (pe_op (op_ownI GL hr6 bL (L2N.passes_call (E := E) (L2N.takes_of rfl rfl rfl rfl) (fun _ _ _ _ h => h))) (pv 4) (pv 3)))) pss_nil)
    (pss_cons (ps_if (pt_cmpR op_eq (pv 0) pe_str (nomark _)) (pss_one (ps_ret (pe_make (fcS.ins T).mkr GU hr rfl (T.g "Sum") bU .nil (L2N.passes_call (E := E) (L2N.takes_of rfl rfl rfl rfl) (fun _ _ _ _ h => h))
      (pa_cons (pv 2) (pa_cons (pe_make (fcNu.ins T).mkr GV hr6 rfl (T.g "Number") bV .nil (L2N.passes_call (E := E) (L2N.takes_of rfl rfl rfl rfl) (fun _ _ _ _ h => h)) (pa_cons (pv 3) pa_nil)) (pa_cons (pv 4) pa_nil)))))) pss_nil)
    (pss_one (ps_ret (pe_make (fcC.ins T).mkr GC hr6 rfl (T.g "Call") bC .nil (L2N.passes_call (E := E) (L2N.takes_of rfl rfl rfl rfl) (fun _ _ _ _ h => h)) (pa_cons (pv 2) (pa_cons (pv 1) pa_nil))))))))))), ?_⟩
  obtain ⟨k0, kt, rfl⟩ : ∃ k0 kt, ks = k0 :: kt := by
    cases ks with
    | nil => exact absurd lo.1 (by decide)
    | cons a b => exact ⟨a, b, rfl⟩
  have hk0 := hk k0 List.mem_cons_self
  obtain ⟨x0, hx0, dx0, fs0, ea0⟩ := hk0.at
  refine ⟨_, rfl, fl, _, _, .ref k0.a, rfl, rfl, SqL.of hfl, atI_nat (j := 0) rfl, ?_⟩
  have one : op ≠ "times" → op ≠ "minus" → op ≠ "call" → kt = [] := fun a b c => by
    have := lo.2.2.2 a b c
    exact List.length_eq_zero_iff.mp (by simpa using this)
  have two : op = "times" ∨ op = "minus" → ∃ k1, kt = [k1] := fun z => by
    have := lo.2.2.1 z
    exact List.length_eq_one_iff.mp (by simpa using this)
  simp only [opL, List.mem_cons, List.not_mem_nil, or_false] at hop
  rcases hop with rfl | rfl | rfl | rfl | rfl | rfl | rfl
  · -- the negative
    obtain rfl := one (by decide +kernel) (by decide +kernel) (by decide +kernel)
    refine ⟨_, rfl, rfl, _, rfl, ite2 (fun _ => ?_) (fun h => absurd (by decide +kernel) h)⟩
    exact ⟨_, rfl, k0.a, _, dx0, fs0, rfl, ea0, T.neg x0 hx0, k0, rfl, hk0, kr (fun z => absurd z.1 (by decide +kernel))⟩
  · -- the double
    obtain rfl := one (by decide +kernel) (by decide +kernel) (by decide +kernel)
    refine ⟨_, rfl, rfl, _, rfl, ite2 (fun h => absurd h (by decide +kernel)) (fun _ => ?_)⟩
    refine ⟨_, rfl, rfl, _, rfl, ite2 (fun _ => ?_) (fun h => absurd (by decide +kernel) h)⟩
    exact ⟨_, rfl, _, rfl, k0.a, k0.a, _, _, dx0, dx0, fs0, fs0, rfl, rfl, ea0, ea0, T.bin x0 hx0 x0 hx0 "add" (by decide), k0, k0, rfl, hk0, hk0, (kr (fun z => absurd z.1 (by decide +kernel))).qref⟩
  · -- times
    obtain ⟨k1, rfl⟩ := two (.inl rfl)
    have hk1 := hk k1 (List.mem_cons_of_mem _ List.mem_cons_self)
    obtain ⟨x1, hx1, dx1, fs1, ea1⟩ := hk1.at
    refine ⟨_, rfl, rfl, _, rfl, ite2 (fun h => absurd h (by decide +kernel)) (fun _ => ?_)⟩
    refine ⟨_, rfl, rfl, _, rfl, ite2 (fun h => absurd h (by decide +kernel)) (fun _ => ?_)⟩
    refine ⟨_, rfl, rfl, _, rfl, ite2 (fun _ => ?_) (fun h => absurd (by decide +kernel) h)⟩
    exact ⟨_, rfl, fl, _, _, .ref k1.a, rfl, rfl, SqL.of hfl, rfl, _, rfl, k1.a, k0.a, _, _, dx1, dx0, fs1, fs0, rfl, rfl, ea1, ea0, T.bin x1 hx1 x0 hx0 "mul" (by decide), k1, k0, rfl, hk1, hk0, (kr (fun z => absurd z.1 (by decide +kernel))).qref⟩
  · -- minus
    obtain ⟨k1, rfl⟩ := two (.inr rfl)
    have hk1 := hk k1 (List.mem_cons_of_mem _ List.mem_cons_self)
    obtain ⟨x1, hx1, dx1, fs1, ea1⟩ := hk1.at
    refine ⟨_, rfl, rfl, _, rfl, ite2 (fun h => absurd h (by decide +kernel)) (fun _ => ?_)⟩
    refine ⟨_, rfl, rfl, _, rfl, ite2 (fun h => absurd h (by decide +kernel)) (fun _ => ?_)⟩
    refine ⟨_, rfl, rfl, _, rfl, ite2 (fun h => absurd h (by decide +kernel)) (fun _ => ?_)⟩
    refine ⟨_, rfl, rfl, _, rfl, ite2 (fun _ => ?_) (fun h => absurd (by decide +kernel) h)⟩
    exact ⟨_, rfl, _, rfl, fl, _, _, .ref k1.a, rfl, rfl, SqL.of hfl, rfl, k0.a, k1.a, _, _, dx0, dx1, fs0, fs1, rfl, rfl, ea0, ea1, T.bin x0 hx0 x1 hx1 "sub" (by decide), k0, k1, rfl, hk0, hk1, (kr (fun z => absurd z.1 (by decide +kernel))).qref⟩
  · -- shift
    obtain rfl := one (by decide +kernel) (by decide +kernel) (by decide +kernel)
    refine ⟨_, rfl, rfl, _, rfl, ite2 (fun h => absurd h (by decide +kernel)) (fun _ => ?_)⟩
    refine ⟨_, rfl, rfl, _, rfl, ite2 (fun h => absurd h (by decide +kernel)) (fun _ => ?_)⟩
    refine ⟨_, rfl, rfl, _, rfl, ite2 (fun h => absurd h (by decide +kernel)) (fun _ => ?_)⟩
    refine ⟨_, rfl, rfl, _, rfl, ite2 (fun h => absurd h (by decide +kernel)) (fun _ => ?_)⟩
    refine ⟨_, rfl, rfl, _, rfl, ite2 (fun _ => ?_) (fun h => absurd (by decide +kernel) h)⟩
    exact ⟨_, rfl, _, rfl, k0.a, _, dx0, fs0, n, rfl, rfl, ea0, T.shl x0 hx0, k0, n, rfl, n0, n1, hk0, (kr (fun z => absurd z.1 (by decide +kernel))).qref⟩
  · -- a sum
    obtain rfl := one (by decide +kernel) (by decide +kernel) (by decide +kernel)
    refine ⟨_, rfl, rfl, _, rfl, ite2 (fun h => absurd h (by decide +kernel)) (fun _ => ?_)⟩
    refine ⟨_, rfl, rfl, _, rfl, ite2 (fun h => absurd h (by decide +kernel)) (fun _ => ?_)⟩
    refine ⟨_, rfl, rfl, _, rfl, ite2 (fun h => absurd h (by decide +kernel)) (fun _ => ?_)⟩
    refine ⟨_, rfl, rfl, _, rfl, ite2 (fun h => absurd h (by decide +kernel)) (fun _ => ?_)⟩
    refine ⟨_, rfl, rfl, _, rfl, ite2 (fun h => absurd h (by decide +kernel)) (fun _ => ?_)⟩
    refine ⟨_, rfl, rfl, _, rfl, ite2 (fun _ => ?_) (fun h => absurd (by decide +kernel) h)⟩
    refine ⟨_, rfl, _, rfl, fun y dy hy hdy ny => ⟨y, _, dy, n, rfl, n0, by omega, upd_same, fcNu, fun H1 t sb e1 et => ⟨rfl, _, rfl, fun x dx hx hdx nx => ?_⟩⟩⟩
    have s1 : Same H H1 := fun b o q => sb b o (ne_of_none q hy) (by rw [upd_ne (ne_of_none q hy), upd_ne (ne_of_none q hdy)]; exact q)
    have s2 : Same H1 (upd (upd H1 dx (.own x)) x (.ins (ga K "Sum") dx [])) := fun b o q => by rw [upd_ne (ne_of_none q hx), upd_ne (ne_of_none q hdx)]; exact q
    refine ⟨x, _, dx, y, name, k0, rfl, hn.1, hn.2, upd_same, fcS, ⟨dy, t, n, s2 _ _ e1, s2 _ _ et⟩, hk0.same (s1.trans s2), fun hin => ?_, fun hni => ?_⟩
    · exact fun H' d s hd hx' => kb ⟨rfl, k0, List.mem_cons_self, hin⟩ H' d ((s1.trans s2).trans s) (none_back (s1.trans s2) hd) hx'
    · have r := (kr (fun z => by
        obtain ⟨_, k, hk', hx'⟩ := z
        rw [List.mem_singleton.mp hk'] at hx'
        exact hni hx')).back s1
      exact resI_of fcS (fun q hq => by rw [List.mem_singleton.mp hq]; exact hk0.same s1) r hx hdx
  · -- a call
    refine ⟨_, rfl, rfl, _, rfl, ite2 (fun h => absurd h (by decide +kernel)) (fun _ => ?_)⟩
    refine ⟨_, rfl, rfl, _, rfl, ite2 (fun h => absurd h (by decide +kernel)) (fun _ => ?_)⟩
    refine ⟨_, rfl, rfl, _, rfl, ite2 (fun h => absurd h (by decide +kernel)) (fun _ => ?_)⟩
    refine ⟨_, rfl, rfl, _, rfl, ite2 (fun h => absurd h (by decide +kernel)) (fun _ => ?_)⟩
    refine ⟨_, rfl, rfl, _, rfl, ite2 (fun h => absurd h (by decide +kernel)) (fun _ => ?_)⟩
    refine ⟨_, rfl, rfl, _, rfl, ite2 (fun h => absurd h (by decide +kernel)) (fun _ => ?_)⟩
    refine ⟨_, rfl, _, rfl, fun x dx hx hdx nx => ?_⟩
    have s2 : Same H (upd (upd H dx (.own x)) x (.ins (ga K "Call") dx [])) := fun b o q => by rw [upd_ne (ne_of_none q hx), upd_ne (ne_of_none q hdx)]; exact q
    have ek : kidsOf "call" (k0 :: kt) = k0 :: kt := by
      match kt with
      | [] => rfl
      | [_] => rfl
      | _ :: _ :: _ => rfl
    have r := kr (fun z => absurd z.1 (by decide +kernel))
    rw [ek] at r
    exact ⟨x, _, dx, fl, name, k0 :: kt, rfl, hn.1, hn.2, upd_same, fcC, s2 _ _ hfl, lo.1, lo.2.1, (fun k h => (hk k h).same s2), resI_of fcC hk r hx hdx⟩
end
end K2
set_option Elab.async false
set_option linter.all false
set_option maxRecDepth 100000
set_option maxHeartbeats 4000000
namespace Sw
open PySem PySem.Spec PyProof.Rows L2 L2H
/-- e.f of the exception that is handled, its class being told by the reading -/
def tXfE (K : PySem.W.Frag) (a : Addr) (cls : Value) (d : Option Addr) (f : Str) (te : TE) : TE := fun σ H Q => te σ H fun x H1 => x = .ref a ∧ ∃ (C dd : Addr) (fs : List (Str × V)) (v : V), cls = .ref C ∧ XfC K C ∧ PySem.W.findIn K (.ref C) f = some none ∧ d = some dd ∧ H1 dd = some (.xd fs) ∧ fs.lookup f = some v ∧ Q v H1
theorem pe_xfE {X : Cx} {a : Addr} {oe : Obj} {cls : Value} {d : Option Addr} {pn : List (Addr × Obj)} {e : Expr} {te : TE} {pos : Pos} {n : Str}
    (hz : Zc cls d oe) (hf : ∃ vs, oe.data = .fields vs) (he : PE (X.suite a ((a, oe) :: pn)) e te) (hb : attributeBase e n X.env (eval e X.env) = eval e X.env := by rfl) :
    PE (X.suite a ((a, oe) :: pn)) (.Attribute e n pos) (tXfE X.K a cls d n te) := by
  refine ⟨fun pins s σ H Q I h => ?_⟩
  refine attr_of hb (thn (he.run pins s σ H _ I h) fun u s1 hh => ?_)
  obtain ⟨x, H1, I1, rx, ex, C, dd, fs, v, ec, T, hno, ed, ea, l, q⟩ := hh
  subst ex
  obtain rfl : u = Value.ref a := rx
  subst ec
  subst ed
  obtain ⟨ha, _⟩ := I1.pin (a, oe) (List.mem_append_left _ List.mem_cons_self)
  obtain ⟨vs, hd⟩ := hf
  have hx : ObjOk X.prog X.w H1 s1.heap dd (.xd fs) := I1.hok dd _ ea
  obtain ⟨mA, hns, hr⟩ := hx
  obtain ⟨od, ho, hl⟩ := lookIn_ns hns
  obtain ⟨u, hu, ru⟩ := RelO.some_of (v := v) (o := mA n) (by rw [← l]; exact hr n)
  have J : PySem.W.InstAt s1.heap a oe C (some od) := ⟨ha, hz.1, by unfold PySem.W.notCls; rw [hd] <;> rfl, by rw [hz.2]; exact ho⟩
  exact HandSPX.exc_get I1.kIn J T.ga T.gg T.exC (PySem.W.findObj_own T.hdC hno rfl (by rw [hl, hu])) (handed_of ru) ⟨v, H1, I1.tok _, ru, q⟩
end Sw
namespace K2
open PySem PySem.Spec PyProof.Rows L2 He Sw L2H
section
variable {P : Program} {w : World} {K : PySem.W.Frag} {mg : Str → Option Value} {base : Heap}
/-! ### _law_tried -/
def spTried (K : PySem.W.Frag) : Sp := fun vs H Q _ => ∃ (op name : Str) (fl : Addr) (n : Int) (ks : List Kd), vs = [.str op, .ref fl, .str name, .int n] ∧ op ∈ opL ∧ H fl = some (.lst (refs ks)) ∧ LenOk op ks.length ∧ (∀ k ∈ ks, FmD K H k) ∧ GoodN name ∧ 0 ≤ n ∧ n ≤ 64 ∧
  (Bad op name ks → ∀ r H', Same H H' → H' r = some (.tup [.str "refused", .str "name", .str name]) → Q (.ref r) H') ∧
  (¬ Bad op name ks → ¬ Fits (kidsOf op ks) → ∀ r H', Same H H' → H' r = some (.tup [.str "refused", .str "many", .non]) → Q (.ref r) H') ∧
  (¬ Bad op name ks → Fits (kidsOf op ks) → ∀ (r x : Addr) H', Same H H' → FmD K H' (nd x (ownOf op name) (kidsOf op ks)) → H' r = some (.tup [.str "made", .ref x, .non]) → Q (.ref r) H')
theorem ix_BadName : ∀ j : _root_.Fin kinds.length, decide (("BadName" : Str) = kinds[j]) = decide (j.val = 0) := by decide +kernel
theorem ix_TooMany : ∀ j : _root_.Fin kinds.length, decide (("TooMany" : Str) = kinds[j]) = decide (j.val = 6) := by decide +kernel
theorem scTried : FnScope ["_law_op", "_law_used_here", "_law_name", "_law_number", "_law_found", "_law_e"] ["_law_op", "_law_used_here", "_law_name", "_law_number"] (defScope sTried) := ⟨rfl, rfl, rfl, by decide +kernel, rfl, by decide +kernel, by decide +kernel⟩
theorem ok_tried {fd fdC fdM : FuncData} (T : Txt K mg) (F : FnG K "_law_tried" sTried fd) (FC' : FnG K "_law_class" sClass fdC) (FM : FnG K "_law_make" sMake fdM)
    (GM : FnOk P w K mg base (L2N.CX P w) 45 (ga K "_law_make") fdM ["_law_op", "_law_used_here", "_law_name", "_law_number"] (spMake K)) :
    FnOk P w K mg base CX0 46 (ga K "_law_tried") fd ["_law_op", "_law_used_here", "_law_name", "_law_number"] (spTried K) := by
  have GC : FnE P w K mg base CX0 1 (ga K "_law_class") fdC ["_law_e"] (spClass K) := ok_class T FC'
  have bC : Binds K fdC ["_law_e"] [] := FC'.bindsN fun _ _ _ _ _ _ us hl => match us, hl with | [_], _ => rfl
  have bM : Binds K fdM ["_law_op", "_law_used_here", "_law_name", "_law_number"] [] := FM.bindsN fun _ _ _ _ _ _ us hl => match us, hl with | [_, _, _, _], _ => rfl
  refine F.ok scTried (fun vs H Q E h => ?_) (fun cdv A outer s H vs Q E hr h => ?_)
  · obtain ⟨op, name, fl, n, ks, rfl, _⟩ := h
    rfl
  obtain ⟨op, name, fl, n, ks, rfl, hop, hfl, lo, hk, hn, n0, n1, k1, k2, k3⟩ := h
  have nod := scTried.nd
  refine ⟨_, pss_cons (ps_set (i := 4) nod rfl (Or.inl rfl) pe_non)
    (pss_cons (L2N.ps_try_as (i := 5) (x := "SameError") (c := .ref (ga K "SameError")) (Wout := fun _ _ _ _ => False) rfl rfl nod rfl rfl ⟨rfl, by decide, .inl (T.g "SameError")⟩ (fun _ _ ⟨_, _, _, _, _, _, _, _, _, _, _, _, _, _, _, _, w⟩ => w.elim)
      (fun W pn xe tkW po => pss_one (ps_set (i := 4) nod rfl (Or.inl rfl) (pe_tup (pa_cons pe_str (pa_cons (pe_callS (E := L2.WE W) GM hr rfl (T.g "_law_make") FM.kp bM (fun σ => L2N.passAt tkW σ) (pa_cons (pv 0) (pa_cons (pv 1) (pa_cons (pv 2) (pa_cons (pv 3) pa_nil))))) (pa_cons pe_non pa_nil))))))
      (fun a oe cls d pn hz hf => pss_one (ps_set (i := 4) nod rfl (Or.inl rfl) (pe_tup (pa_cons pe_str
        (pa_cons (pe_callE (E := fun _ _ _ _ => False) (p := (a, oe)) (Z := fun p => p.1 = a ∧ Zc cls d p.2 ∧ ∃ ws, p.2.data = .fields ws) ⟨rfl, hz.zc, hf⟩ GC (roomH_mark (hr.mono (by decide)) _) ⟨rfl, by obtain ⟨ws, e⟩ := hf; exact ⟨ws, e, hz.2.2 ws e⟩⟩ List.mem_cons_self rfl (T.g "_law_class") FC'.kp bC (fun _ _ _ _ _ _ _ h => h.elim) (pa_cons (pv 5) pa_nil))
        (pa_cons (pe_xfE hz.zc hf (pv 5)) pa_nil)))))))
    (pss_one (ps_ret (pv 4)))), ?_⟩
  refine ⟨_, rfl, _, rfl, _, rfl, _, rfl, op, name, fl, n, ks, rfl, hop, hfl, lo, hk, hn, n0, n1, fun hb H' d s0 hd ed => ?_, fun hb => ⟨fun fit H' x s0 hx => ?_, fun nf H' d s0 hd ed => ?_⟩⟩
  · have TB := T.err "BadName" (by decide +kernel)
    refine ⟨true, T.exm "BadName" (by decide +kernel), fun _ a ha => ?_, fun z => nomatch z⟩
    refine ⟨_, rfl, fun p ⟨pa, hz, hf⟩ => ⟨ga K "BadName", d, [("value", .str name)], 0, "name", by rw [pa], hz, hf, TB.e, ed, fun j y hj => ?_, T.kve "BadName" (by decide +kernel), by decide +kernel, fun H1 s1 => ?_⟩⟩
    · have hy : y ∈ kinds := List.mem_of_getElem? hj
      have hl : j < kinds.length := (List.getElem?_eq_some_iff.mp hj).1
      obtain ⟨_, hyj⟩ := List.getElem?_eq_some_iff.mp hj
      rw [T.kit "BadName" (by decide +kernel) y hy, ← hyj]
      exact congrArg some (ix_BadName ⟨j, hl⟩)
    · refine ⟨_, rfl, rfl, ga K "BadName", d, [("value", .str name)], .str name, rfl, TB.xf, TB.nv, rfl, s1 _ _ ed, rfl, ?_⟩
      refine ⟨tsz (by show 3 ≤ 1000; decide), fun r hr => ?_⟩
      have up : ∀ {o}, Same H1 (upd H1 r o) := fun {o} b u e => by rw [upd_ne (ne_of_none e hr)]; exact e
      exact ⟨_, rfl, k1 hb r _ ((s0.trans s1).trans up) upd_same⟩
  · refine ⟨tsz (by show 3 ≤ 1000; decide), fun r hr => ?_⟩
    have up : ∀ {o}, Same H' (upd H' r o) := fun {o} b u e => by rw [upd_ne (ne_of_none e hr)]; exact e
    exact ⟨_, rfl, k3 hb fit r x _ (s0.trans up) (hx.same up) upd_same⟩
  · have TB := T.err "TooMany" (by decide +kernel)
    refine ⟨true, T.exm "TooMany" (by decide +kernel), fun _ a ha => ?_, fun z => nomatch z⟩
    refine ⟨_, rfl, fun p ⟨pa, hz, hf⟩ => ⟨ga K "TooMany", d, [("value", .non)], 6, "many", by rw [pa], hz, hf, TB.e, ed, fun j y hj => ?_, T.kve "TooMany" (by decide +kernel), by decide +kernel, fun H1 s1 => ?_⟩⟩
    · have hy : y ∈ kinds := List.mem_of_getElem? hj
      have hl : j < kinds.length := (List.getElem?_eq_some_iff.mp hj).1
      obtain ⟨_, hyj⟩ := List.getElem?_eq_some_iff.mp hj
      rw [T.kit "TooMany" (by decide +kernel) y hy, ← hyj]
      exact congrArg some (ix_TooMany ⟨j, hl⟩)
    · refine ⟨_, rfl, rfl, ga K "TooMany", d, [("value", .non)], .non, rfl, TB.xf, TB.nv, rfl, s1 _ _ ed, rfl, ?_⟩
      refine ⟨tsz (by show 3 ≤ 1000; decide), fun r hr => ?_⟩
      have up : ∀ {o}, Same H1 (upd H1 r o) := fun {o} b u e => by rw [upd_ne (ne_of_none e hr)]; exact e
      exact ⟨_, rfl, k2 hb nf r _ ((s0.trans s1).trans up) upd_same⟩
end
end K2
set_option Elab.async false
set_option linter.all false
set_option maxRecDepth 100000
set_option maxHeartbeats 4000000
namespace K2
open PySem PySem.Spec PyProof.Rows L2 He Sw L2H
section
variable {P : Program} {w : World} {K : PySem.W.Frag} {mg : Str → Option Value} {base : Heap}
theorem passF {X : Cx} : Passes (L2N.CX X.prog X.w) X (fun _ _ _ => False) := L2N.passes_call (W := fun _ _ _ _ => False) (fun _ _ ⟨_, _, _, _, _, _, _, _, _, _, _, _, _, _, _, _, w⟩ => w.elim) (fun _ _ _ _ h => h)
theorem strs_ne {H : Hp} {a b v : Addr} {zs : List Str} {xs : List V} (h1 : H a = some (.lst (zs.map V.str))) (h2 : H b = some (.lst (.ref v :: xs))) : a ≠ b := fun z => by
  rw [z, h2] at h1
  cases zs with
  | nil => cases h1
  | cons y ys => cases h1
theorem ints_ne {H : Hp} {a b v : Addr} {zs : List Int} {xs : List V} (h1 : H a = some (.lst (zs.map V.int))) (h2 : H b = some (.lst (.ref v :: xs))) : a ≠ b := fun z => by
  rw [z, h2] at h1
  cases zs with
  | nil => cases h1
  | cons y ys => cases h1
/-! ### what stands while the law runs -/
structure LawI (K : PySem.W.Frag) (st NL OL PL : Addr) (ns : Addr × List Int) (zs os : List Str) (es : List En) (H : Hp) : Prop where
  S : StAt H st ns
  n : H NL = some (.lst (zs.map V.str))
  o : H OL = some (.lst (os.map V.str))
  p : H PL = some (.lst (trefs es))
  ne : es ≠ []
  e : ∀ e ∈ es, EnAt K H e
section
variable {st NL OL PL : Addr} {ns : Addr × List Int} {zs os : List Str} {es : List En} {H H' : Hp}
theorem LawI.hdP (h : LawI K st NL OL PL ns zs os es H) : ∃ v xs, H PL = some (.lst (.ref v :: xs)) := by
  have p := h.p
  cases he : es with
  | nil => exact absurd he h.ne
  | cons e r => rw [he] at p; exact ⟨_, _, p⟩
theorem LawI.same (h : LawI K st NL OL PL ns zs os es H) (s : Same H H') : LawI K st NL OL PL ns zs os es H' := ⟨h.S.same s, s _ _ h.n, s _ _ h.o, s _ _ h.p, h.ne, fun e he => (h.e e he).same s⟩
theorem LawI.draw (h : LawI K st NL OL PL ns zs os es H) (S' : StAt H' st ns) (s : SameBut st H H') : LawI K st NL OL PL ns zs os es H' := by
  obtain ⟨xs, hd⟩ := h.S.hd
  exact ⟨S', s _ _ (strs_ne h.n hd) h.n, s _ _ (strs_ne h.o hd) h.o, s _ _ (pool_ne h.S h.p) h.p, h.ne, fun e he => (h.e e he).but s hd⟩
theorem LawI.push (h : LawI K st NL OL PL ns zs os es H) {e : En} (he : EnAt K H e) : LawI K st NL OL PL ns zs os (es ++ [e]) (upd H PL (.lst (trefs es ++ [.ref e.t]))) := by
  obtain ⟨v, xs, hd⟩ := h.hdP
  have sb : SameBut PL H (upd H PL (.lst (trefs es ++ [.ref e.t]))) := sameBut_upd
  obtain ⟨a, b, c, g1, g2, g3⟩ := h.S
  refine ⟨⟨a, b, c, sb _ _ (fun z => pool_ne h.S h.p z.symm) g1, sb _ _ (ints_ne g2 hd) g2, g3⟩, sb _ _ (strs_ne h.n hd) h.n, sb _ _ (strs_ne h.o hd) h.o, by rw [upd_same]; simp [trefs], by simp, fun u hu => ?_⟩
  rcases List.mem_append.mp hu with hu | hu
  · exact (h.e u hu).but sb hd
  · rw [List.mem_singleton.mp hu]
    exact he.but sb hd
end
/-- [one[0] for one in used] -/
theorem lc_us0 {us : List En} {i : Nat} {e : Addr} {H : Hp} {D : Addr} {σ : L2.St} {Qd : Hp → Prop} (he : H e = some (.lst (trefs us))) (hu : ∀ u ∈ us, EnAt K H u) (hl : us.length ≤ 10) (hD : H D = none)
    (hi : ∀ v : V, ((wipe σ [i]).set i (some v))[i]? = some (some v)) (hw : ∀ v : V, wipe ((wipe σ [i]).set i (some v)) [i] = wipe σ [i]) (hd : ∀ H', H' D = some (.lst (refs (kds us))) → Same H H' → Qd H') :
    ∃ W : Nat → Nat → Hp → Prop, (∃ m, W 0 m (upd H D (.lst []))) ∧ ∀ k m H, W k m H →
      ((Itl K e).stop k H ∧ Qd H) ∨ ((Itl K e).go k H ∧ ∃ Nx : Hp → Prop, (∀ H', Nx H' → ∃ m', m' < m ∧ W (k + 1) m' H') ∧ ∀ x H', (Itl K e).yld k H x H' → gName i x (wipe σ [i]) H' fun σ2 H2 => wipe σ2 [i] = wipe σ [i] ∧ tYes σ2 H2 fun b H3 =>
        if b = true then tOp (rIxT K) (tVar i) (tC (.int 0)) σ2 H3 fun y H4 => ∃ acc, H4 D = some (.lst acc) ∧ acc.length < sizeLine ∧ Nx (upd H4 D (.lst (acc ++ [y]))) else Nx H3) := by
  have updd : ∀ (o o' : HO), upd (upd H D o) D o' = upd H D o' := fun o o' => by
    funext b
    by_cases hb : b = D
    · rw [hb, upd_same, upd_same]
    · rw [upd_ne hb, upd_ne hb, upd_ne hb]
  have up : ∀ {o}, Same H (upd H D o) := fun {o} b u e => by rw [upd_ne (ne_of_none e hD)]; exact e
  refine lc_list (K := K) (a := e) (xs := trefs us) (fun k H' => H' = upd H D (.lst (refs (kds (us.take k))))) (by simp [kds, refs]) (fun k H' _ eH => by rw [eH]; exact SqL.of (up _ _ he)) (fun k x H' hx eH => ?_) (fun H' eH => ?_)
  · subst eH
    obtain ⟨u, hkj, rfl⟩ : ∃ u, us[k]? = some u ∧ V.ref u.t = x := by
      unfold trefs at hx
      rw [List.getElem?_map] at hx
      cases h : us[k]? with
      | none => rw [h] at hx; cases hx
      | some k => rw [h] at hx; exact ⟨k, rfl, by injection hx⟩
    have eu := (hu u (List.mem_of_getElem? hkj)).1
    refine ⟨hw _, ?_⟩
    refine ⟨_, hi _, u.t, _, _, .ref u.k.a, rfl, rfl, SqT.of (up _ _ eu), rfl, _, upd_same, ?_, ?_⟩
    · have : (refs (kds (us.take k))).length ≤ us.length := by simp [refs, kds, List.length_take]; omega
      rw [sizeLine_eq]
      omega
    · show upd (upd H D _) D _ = _
      rw [updd, List.take_add_one, hkj]
      simp [refs, kds]
  · subst eH
    have e2 : us.take (trefs us).length = us := List.take_of_length_le (by simp [trefs])
    rw [e2]
    exact hd _ upd_same up
/-! ### the law -/
def spLaw (K : PySem.W.Frag) : Sp := fun vs H Q _ => ∃ (a : Addr) (ns : List Int), vs = [.ref a] ∧ SqL K H a (ns.map V.int) ∧ ∀ H', Q (.bl true) H'
theorem scLaw : FnScope ["_law_script", "_law_state", "_law_names_here", "_law_pool", "_law_op", "_law_name", "_law_number", "_law_used_here", "_law_due_here", "_law_found", "_law_one"] ["_law_script"] (defScope sLaw) := ⟨rfl, rfl, rfl, by decide +kernel, rfl, by decide +kernel, by decide +kernel⟩
abbrev lg (a st NL PL : Addr) (v4 v5 v6 v7 v8 v9 : Option V) : L2.St := [some (.ref a), some (.ref st), some (.ref NL), some (.ref PL), v4, v5, v6, v7, v8, v9, none]
abbrev NLAW : List Str := ["_law_script", "_law_state", "_law_names_here", "_law_pool", "_law_op", "_law_name", "_law_number", "_law_used_here", "_law_due_here", "_law_found", "_law_one"]
theorem ok_law {fd fdD fdN fdO fdU fdE fdT fdF fdQ fdI fdM : FuncData} (T : Txt K mg) (F : FnG K "law" sLaw fd) (FD : FnG K "_law_draw" sDraw fdD) (FN : FnG K "_law_names" sNames fdN) (FO : FnG K "_law_ops" sOps fdO) (FU : FnG K "_law_used" sUsed fdU) (FE : FnG K "_law_due" sDue fdE)
    (FT : FnG K "_law_tried" sTried fdT) (FF : FnG K "_law_fits" sFits fdF) (FQ : FnG K "_law_equal" sEqual fdQ) (FI : FnG K "_law_is_integer" sLInt fdI) (FM : FnM K "Name" "Name.__init__" sName [] fdM)
    (GT : FnOk P w K mg base CX0 46 (ga K "_law_tried") fdT ["_law_op", "_law_used_here", "_law_name", "_law_number"] (spTried K))
    (GM : FnOk P w K mg base (L2N.CX P w) 5 (ma K (ga K "Name") "__init__") fdM ["self", "name"] (spNameI K)) :
    FnOk P w K mg base CX0 47 (ga K "law") fd ["_law_script"] (spLaw K) := by
  have GD : DrawOk P w K mg base fdD := ok_draw T FD
  have GN : FnOk P w K mg base CX0 2 (ga K "_law_names") fdN ["_law_state", "_law_many"] spNames := ok_names T FN FD
  have GO : FnOk P w K mg base CX0 2 (ga K "_law_ops") fdO ["_law_state"] spOps := ok_ops T FO FD
  have GU : FnOk P w K mg base CX0 2 (ga K "_law_used") fdU ["_law_state", "_law_op", "_law_pool"] spUsed := ok_used T FU FD
  have GE : FnOk P w K mg base CX0 1 (ga K "_law_due") fdE ["_law_op", "_law_used_here", "_law_name"] (spDue K) := ok_due T FE
  have GF : FnOk P w K mg base CX0 2 (ga K "_law_fits") fdF ["_law_formula", "_law_parts", "_law_depth"] (spFits K) := ok_fits T FF FI
  have GQ : FnOk P w K mg base CX0 1 (ga K "_law_equal") fdQ ["_law_one", "_law_other"] spEqual := ok_equal T FQ
  have bD : Binds K fdD ["_law_state", "_law_many"] [] := FD.bindsN fun _ _ _ _ _ _ us hl => match us, hl with | [_, _], _ => rfl
  have bN : Binds K fdN ["_law_state", "_law_many"] [] := FN.bindsN fun _ _ _ _ _ _ us hl => match us, hl with | [_, _], _ => rfl
  have bO : Binds K fdO ["_law_state"] [] := FO.bindsN fun _ _ _ _ _ _ us hl => match us, hl with | [_], _ => rfl
  have bU : Binds K fdU ["_law_state", "_law_op", "_law_pool"] [] := FU.bindsN fun _ _ _ _ _ _ us hl => match us, hl with | [_, _, _], _ => rfl
  have bE : Binds K fdE ["_law_op", "_law_used_here", "_law_name"] [] := FE.bindsN fun _ _ _ _ _ _ us hl => match us, hl with | [_, _, _], _ => rfl
  have bT : Binds K fdT ["_law_op", "_law_used_here", "_law_name", "_law_number"] [] := FT.bindsN fun _ _ _ _ _ _ us hl => match us, hl with | [_, _, _, _], _ => rfl
  have bF : Binds K fdF ["_law_formula", "_law_parts", "_law_depth"] [] := FF.bindsN fun _ _ _ _ _ _ us hl => match us, hl with | [_, _, _], _ => rfl
  have bQ : Binds K fdQ ["_law_one", "_law_other"] [] := FQ.bindsN fun _ _ _ _ _ _ us hl => match us, hl with | [_, _], _ => rfl
  have bM : Binds K fdM ["self", "name"] [] := FM.bindsN fun _ _ _ _ _ _ us hl => match us, hl with | [_, _], _ => rfl
  refine F.ok scLaw (fun vs H Q E h => ?_) (fun cdv A outer s H vs Q E hr h => ?_)
  · obtain ⟨a, ns, rfl, _⟩ := h
    rfl
  obtain ⟨a, ns, rfl, hS, k⟩ := h
  have nod := scLaw.nd
  have hr1 : Room 1 _ := hr.mono (by decide)
  have hr2 : Room 2 _ := hr.mono (by decide)
  have hr6 : Room 6 _ := hr.mono (by decide)
  refine ⟨_, PSs.nox (pss_cons (ps_set (i := 1) nod rfl (Or.inl rfl) (pe_lst (pa_cons (pe_callTy call_list_of rfl (T.f "list") (by decide +kernel) (pa_cons (pv 0) pa_nil)) (pa_cons pe_int (pa_cons pe_int (pa_cons pe_int pa_nil))))))
    (pss_cons (ps_set (i := 2) nod rfl (Or.inl rfl) (pe_call GN hr2 rfl (T.g "_law_names") FN.kp bN .nil pass0 (pa_cons (pv 1) (pa_cons pe_int pa_nil))))
    (pss_cons (ps_set (i := 3) nod rfl (Or.inl rfl) (pe_lst (pa_cons (pe_tup (pa_cons (pe_make (T.ins "Name" (by decide +kernel)).mkr GM hr6 rfl (T.g "Name") bM .nil passF (pa_cons (pe_ix ix_list (pv 2) pe_int (fun _ _ => rfl)) pa_nil)) (pa_cons pe_int (pa_cons pe_int (pa_cons (pe_lst pa_nil) pa_nil))))) pa_nil)))
    (pss_cons (ps_for PassesOwn.never rfl (pi_list (pe_call GO hr2 rfl (T.g "_law_ops") FO.kp bO .nil pass0 (pa_cons (pv 1) pa_nil))) (pg_name (i := 4) nod rfl (Or.inl rfl))
      (pss_cons (ps_set (i := 5) nod rfl (Or.inl rfl) (pe_ix ix_list (pv 2) (pe_call GD hr1 rfl (T.g "_law_draw") FD.kp bD .nil pass0 (pa_cons (pv 1) (pa_cons pe_int pa_nil))) (fun _ _ => rfl)))
      (pss_cons (ps_set (i := 6) nod rfl (Or.inl rfl) (pe_call GD hr1 rfl (T.g "_law_draw") FD.kp bD .nil pass0 (pa_cons (pv 1) (pa_cons pe_int pa_nil))))
      (pss_cons (ps_set (i := 7) nod rfl (Or.inl rfl) (pe_call GU hr2 rfl (T.g "_law_used") FU.kp bU .nil pass0 (pa_cons (pv 1) (pa_cons (pv 4) (pa_cons (pv 3) pa_nil)))))
      (pss_cons (ps_set (i := 8) nod rfl (Or.inl rfl) (pe_call GE hr1 rfl (T.g "_law_due") FE.kp bE .nil pass0 (pa_cons (pv 4) (pa_cons (pv 7) (pa_cons (pv 5) pa_nil)))))
      (pss_cons (ps_set (i := 9) nod rfl (Or.inl rfl) (pe_call GT hr rfl (T.g "_law_tried") FT.kp bT .nil pass0 (pa_cons (pv 4) (pa_cons (pe_lc (own := [("_law_one", 10)]) (te := tOp (rIxT K) (tVar 10) (tC (.int 0))) (g := gName 10) (tt := tYes) rfl nod (pi_list (pv 7))
          (blkOk_by (N := NLAW) (sc := defScope sLaw) (by decide +kernel)) (fun _ _ _ _ _ => pg_name (i := 10) nod rfl (Or.inl rfl)) (fun _ _ _ _ _ => pts_nil) (fun _ _ _ _ _ => pe_ix ix_tup (pv 10) pe_int (fun _ _ => rfl))) (pa_cons (pv 5) (pa_cons (pv 6) pa_nil))))))
      (pss_one (ps_if (pt_cmpR op_eq (pe_ix ix_tup (pv 8) pe_int (fun _ _ => rfl)) pe_str (nomark _))
        (pss_cons (ps_if (PW.pt (pw_or (pt_cmpR op_ne (pe_ix ix_tup (pv 9) pe_int (fun _ _ => rfl)) pe_str (nomark _))
            (pw_or1 (pt_not (pt_val (pe_call GF hr2 rfl (T.g "_law_fits") FF.kp bF .nil pass0 (pa_cons (pe_ix ix_tup (pv 9) pe_int (fun _ _ => rfl)) (pa_cons (pe_ix ix_tup (pv 8) pe_int (fun _ _ => rfl)) (pa_cons (pe_ix ix_tup (pv 8) pe_int (fun _ _ => rfl)) pa_nil)))))))))
            (pss_one (ps_ret pe_bl)) pss_nil)
          (pss_one (ps_expr (pe_bm PySem.F.plainAttrs_list PySem.F.slot_list_append PySem.F.type_list_append mt_append (pv 3) (pa_cons (pe_tup (pa_cons (pe_ix ix_tup (pv 9) pe_int (fun _ _ => rfl)) (pa_cons (pe_ix ix_tup (pv 8) pe_int (fun _ _ => rfl)) (pa_cons (pe_ix ix_tup (pv 8) pe_int (fun _ _ => rfl)) (pa_cons (pe_ix ix_tup (pv 8) pe_int (fun _ _ => rfl)) pa_nil))))) pa_nil)))))
        (pss_one (ps_if (PW.pt (pw_or (pt_cmpR op_ne (pe_ix ix_tup (pv 9) pe_int (fun _ _ => rfl)) pe_str (nomark _)) (pw_or (pt_cmpR op_ne (pe_ix ix_tup (pv 9) pe_int (fun _ _ => rfl)) (pe_ix ix_tup (pv 8) pe_int (fun _ _ => rfl)) (nomark _))
            (pw_or1 (pt_not (pt_val (pe_call GQ hr1 rfl (T.g "_law_equal") FQ.kp bQ .nil pass0 (pa_cons (pe_ix ix_tup (pv 9) pe_int (fun _ _ => rfl)) (pa_cons (pe_ix ix_tup (pv 8) pe_int (fun _ _ => rfl)) pa_nil))))))))
          ) (pss_one (ps_ret pe_bl)) pss_nil))))))))))
    (pss_one (ps_ret (pe_cmpR op_eq (pe_callB call_len_seq rfl (T.f "len") (by decide +kernel) (pa_cons (pe_lc (own := [("_law_one", 10)]) (te := tVar 10) (g := gName 10)
        (tt := tNot (tB (tCall (spFits K) [] E0 (tCons (tOp (rIxT K) (tVar 10) (tC (.int 0))) (tCons (tOp (rIxT K) (tVar 10) (tC (.int 1))) (tCons (tOp (rIxT K) (tVar 10) (tC (.int 2))) tNil)))))) rfl nod (pi_list (pv 3))
          (blkOk_by (N := NLAW) (sc := defScope sLaw) (by decide +kernel)) (fun _ _ _ _ _ => pg_name (i := 10) nod rfl (Or.inl rfl))
          (fun _ _ _ _ _ => pts_one (pt_not (pt_val (pe_call GF hr2 rfl (T.g "_law_fits") FF.kp bF .nil pass0 (pa_cons (pe_ix ix_tup (pv 10) pe_int (fun _ _ => rfl)) (pa_cons (pe_ix ix_tup (pv 10) pe_int (fun _ _ => rfl)) (pa_cons (pe_ix ix_tup (pv 10) pe_int (fun _ _ => rfl)) pa_nil)))))))
          (fun _ _ _ _ _ => pv 10)) pa_nil)) pe_int (nomark _)))))))), ?_⟩
  refine ⟨_, rfl, a, _, rfl, .inl hS, fun l hl => ⟨tsz (by show 4 ≤ 1000; decide), fun st hst => ?_⟩⟩
  have nls : l ≠ st := fun e => by
    rw [← e, upd_same] at hst
    cases hst
  generalize hX : upd (upd H l _) st _ = H1
  have S1 : StAt H1 st (l, ns) := ⟨0, 0, 0, by rw [← hX, upd_same], by rw [← hX, upd_ne nls, upd_same], by decide, by decide, by decide, by decide⟩
  clear hX hst
  -- the names
  refine ⟨_, rfl, st, (l, ns), rfl, S1, fun NL H2 zs lz gz S2 B2 hN eN => ?_⟩
  have zat : ∀ j, j < 4 → ∃ z ∈ zs, (zs.map V.str)[j]? = some (V.str z) := fun j hj => ⟨zs[j]'(by omega), List.getElem_mem _, by rw [List.getElem?_map, List.getElem?_eq_getElem (by omega)]; rfl⟩
  obtain ⟨z0, hz0, ez0⟩ := zat 0 (by decide)
  have fcM : FC K (ga K "Name") := ⟨"Name", by decide +kernel, rfl⟩
  -- the pool
  refine ⟨_, rfl, NL, _, _, .str z0, rfl, rfl, SqL.of eN, atI_nat (j := 0) ez0, fun x dx hx hdx nx => ⟨x, _, dx, z0, rfl, (gz z0 hz0).1, (gz z0 hz0).2, upd_same, fcM, fun H3 t sb e3 et => ⟨rfl, ?_⟩⟩⟩
  have s3 : Same H2 H3 := fun b o q => sb b o (ne_of_none q hx) (by rw [upd_ne (ne_of_none q hx), upd_ne (ne_of_none q hdx)]; exact q)
  have f0 : FmD K H3 ⟨x, 1, 1, []⟩ := FmD.of (ks := []) ⟨_, dx, t, "name", [], fcM, e3, .leaf (.inr rfl), rfl, rfl, rfl, (show 1 ≤ 300 by decide), (show 1 ≤ 40 by decide)⟩ (fun q hq => by cases hq)
  refine ⟨tsz (by show 0 ≤ 1000; decide), fun il hil => ?_⟩
  have s4 : Same H3 (upd H3 il (.lst [])) := fun b o q => by rw [upd_ne (ne_of_none q hil)]; exact q
  have e4 : (upd H3 il (.lst [])) il = some (.lst []) := upd_same
  generalize upd H3 il (.lst []) = H4 at s4 e4 ⊢
  refine ⟨tsz (by show 4 ≤ 1000; decide), fun et0 het => ?_⟩
  have s5 : Same H4 (upd H4 et0 (.tup [.ref x, .int 1, .int 1, .ref il])) := fun b o q => by rw [upd_ne (ne_of_none q het)]; exact q
  have e5 : (upd H4 et0 (.tup [.ref x, .int 1, .int 1, .ref il])) et0 = some (.tup [.ref x, .int 1, .int 1, .ref il]) := upd_same
  generalize upd H4 et0 (.tup [.ref x, .int 1, .int 1, .ref il]) = H5 at s5 e5 ⊢
  refine ⟨tsz (by show 1 ≤ 1000; decide), fun PL hPL => ?_⟩
  have s6 : Same H5 (upd H5 PL (.lst [.ref et0])) := fun b o q => by rw [upd_ne (ne_of_none q hPL)]; exact q
  have e6 : (upd H5 PL (.lst [.ref et0])) PL = some (.lst [.ref et0]) := upd_same
  generalize upd H5 PL (.lst [.ref et0]) = H6 at s6 e6 ⊢
  have s26 := ((s3.trans s4).trans s5).trans s6
  have S6 := S2.same s26
  have E6 : EnAt K H6 ⟨et0, ⟨x, 1, 1, []⟩, il, []⟩ := ⟨s6 _ _ e5, s6 _ _ (s5 _ _ e4), f0.same ((s4.trans s5).trans s6), fun _ => Iff.rfl, Nat.zero_le _⟩
  -- the operations
  refine ⟨_, rfl, st, (l, ns), rfl, S6, fun OL H7 os ios S7 B7 hOL eOL los => ?_⟩
  have L7 : LawI K st NL OL PL (l, ns) zs os [⟨et0, ⟨x, 1, 1, []⟩, il, []⟩] H7 := by
    obtain ⟨xs, hd⟩ := S6.hd
    exact ⟨S7, B7 _ _ (strs_ne (s26 _ _ eN) hd) (s26 _ _ eN), eOL, B7 _ _ (pool_ne (es := [⟨et0, ⟨x, 1, 1, []⟩, il, []⟩]) S6 e6) e6, by simp, fun e he => by rw [List.mem_singleton.mp he]; exact E6.but B7 hd⟩
  have lmo : (os.map V.str).length = os.length := by simp
  refine ⟨OL, rfl, ⟨_, SqL.of eOL⟩, for_list (xs := os.map V.str) (fun i σ H' => ∃ (v4 v5 v6 v7 v8 v9 : Option V) (es : List En), σ = lg a st NL PL v4 v5 v6 v7 v8 v9 ∧ LawI K st NL OL PL (l, ns) zs os es H' ∧ es.length ≤ 1 + i)
    ⟨none, none, none, none, none, none, _, rfl, L7, by show 1 ≤ 1; decide⟩ (fun i σ H' _ ⟨_, _, _, _, _, _, _, _, L, _⟩ => SqL.of L.o) ?_ ?_⟩
  · rintro i x' σ H8 hx' ⟨v4, v5, v6, v7, v8, v9, es, rfl, L8, les⟩
    have hi : i < os.length := by
      have := (List.getElem?_eq_some_iff.mp hx').1
      rw [List.length_map] at this
      exact this
    obtain ⟨op, hop, rfl⟩ : ∃ op, op ∈ opL ∧ V.str op = x' := by
      rw [List.getElem?_map, List.getElem?_eq_getElem hi] at hx'
      exact ⟨os[i], ios _ (List.getElem_mem hi), by injection hx'⟩
    -- a name
    refine ⟨_, rfl, _, rfl, st, 4, (l, ns), rfl, by decide, by decide, L8.S, fun r H9 r0 r1 S9 B9 => ?_⟩
    have L9 := L8.draw S9 B9
    obtain ⟨j, rfl⟩ := Int.eq_ofNat_of_zero_le r0
    obtain ⟨name, hname, ename⟩ := zat j (by omega)
    refine ⟨NL, _, _, .str name, rfl, rfl, SqL.of L9.n, atI_nat ename, ?_⟩
    -- a number
    refine ⟨_, rfl, st, 65, (l, ns), rfl, by decide, by decide, L9.S, fun n HA n0 n1 SA BA => ?_⟩
    have LA := L9.draw SA BA
    -- what is used
    refine ⟨_, rfl, _, rfl, _, rfl, st, PL, op, (l, ns), es, rfl, LA.S, LA.p, LA.ne, by omega, fun ul HB us lo hus SB BB hul eul => ?_⟩
    have LB := LA.draw SB BB
    have hu : ∀ u ∈ us, EnAt K HB u := fun u h => LB.e u (hus u h)
    have l10 : us.length ≤ 10 := by have := lo.2.1; omega
    have lk : (kds us).length = us.length := by simp [kds]
    have gn := gz name hname
    have fk : ∀ {H'}, Same HB H' → ∀ k ∈ kds us, FmD K H' k := fun {H'} s k hk => by
      obtain ⟨u, h1, rfl⟩ := List.mem_map.mp hk
      exact ((hu u h1).same s).2.2.1
    -- what is due
    refine ⟨_, rfl, _, rfl, _, rfl, op, name, ul, us, rfl, eul, lo, hu, fun hb r HC sC er => ?_, fun nb nf r HC sC er => ?_, fun nb fit r il' ls HC sC er eil hil' mem lls => ?_⟩
    · -- a barred index
      have LC := LB.same sC
      refine ⟨_, rfl, _, rfl, ul, rfl, ⟨_, SqL.of (sC _ _ eul)⟩, fun D hD => ?_⟩
      refine lc_us0 (sC _ _ eul) (fun u h => (hu u h).same sC) l10 hD (fun _ => rfl) (fun _ => rfl) (fun HD eD sD => ?_)
      have sBD := sC.trans sD
      refine ⟨_, rfl, _, rfl, op, name, D, n, kds us, rfl, hop, eD, by rw [lk]; exact lo, fk sBD, gn, n0, by omega, fun _ r2 HE sE er2 => ?_, fun nb _ => absurd hb nb, fun nb _ => absurd hb nb⟩
      have erE := sE _ _ (sD _ _ er)
      refine ⟨_, rfl, r, _, _, .str "name", rfl, rfl, SqT.of erE, rfl, rfl, _, rfl, ?_⟩
      refine ite2 (fun h => absurd h (by decide +kernel)) (fun _ => ?_)
      refine ⟨_, rfl, r2, _, _, .str "refused", rfl, rfl, SqT.of er2, rfl, rfl, _, rfl, ?_⟩
      refine ite2 (fun h => absurd h (by decide +kernel)) (fun _ => ?_)
      refine ⟨_, rfl, r2, _, _, .str "name", rfl, rfl, SqT.of er2, rfl, _, rfl, r, _, _, .str "name", rfl, rfl, SqT.of erE, rfl, rfl, _, rfl, ?_⟩
      refine ite2 (fun h => absurd h (by decide +kernel)) (fun _ => ?_)
      refine ⟨_, rfl, r2, _, _, .str name, rfl, rfl, SqT.of er2, rfl, _, rfl, r, _, _, .str name, rfl, rfl, SqT.of erE, rfl, .str name, _, rfl, .str name gn.2, _, rfl, ?_⟩
      refine ite2 (fun h => Bool.noConfusion (show false = true from h)) (fun _ => ?_)
      exact ⟨_, _, _, _, _, _, es, rfl, (LC.same sD).same sE, by omega⟩
    · -- too many
      have LC := LB.same sC
      refine ⟨_, rfl, _, rfl, ul, rfl, ⟨_, SqL.of (sC _ _ eul)⟩, fun D hD => ?_⟩
      refine lc_us0 (sC _ _ eul) (fun u h => (hu u h).same sC) l10 hD (fun _ => rfl) (fun _ => rfl) (fun HD eD sD => ?_)
      have sBD := sC.trans sD
      refine ⟨_, rfl, _, rfl, op, name, D, n, kds us, rfl, hop, eD, by rw [lk]; exact lo, fk sBD, gn, n0, by omega, fun hb => absurd hb nb, fun _ _ r2 HE sE er2 => ?_, fun _ f => absurd f nf⟩
      have erE := sE _ _ (sD _ _ er)
      refine ⟨_, rfl, r, _, _, .str "many", rfl, rfl, SqT.of erE, rfl, rfl, _, rfl, ?_⟩
      refine ite2 (fun h => absurd h (by decide +kernel)) (fun _ => ?_)
      refine ⟨_, rfl, r2, _, _, .str "refused", rfl, rfl, SqT.of er2, rfl, rfl, _, rfl, ?_⟩
      refine ite2 (fun h => absurd h (by decide +kernel)) (fun _ => ?_)
      refine ⟨_, rfl, r2, _, _, .str "many", rfl, rfl, SqT.of er2, rfl, _, rfl, r, _, _, .str "many", rfl, rfl, SqT.of erE, rfl, rfl, _, rfl, ?_⟩
      refine ite2 (fun h => absurd h (by decide +kernel)) (fun _ => ?_)
      refine ⟨_, rfl, r2, _, _, .non, rfl, rfl, SqT.of er2, rfl, _, rfl, r, _, _, .non, rfl, rfl, SqT.of erE, rfl, .non, _, rfl, .non, _, rfl, ?_⟩
      refine ite2 (fun h => Bool.noConfusion (show false = true from h)) (fun _ => ?_)
      exact ⟨_, _, _, _, _, _, es, rfl, (LC.same sD).same sE, by omega⟩
    · -- it is made
      have LC := LB.same sC
      refine ⟨_, rfl, _, rfl, ul, rfl, ⟨_, SqL.of (sC _ _ eul)⟩, fun D hD => ?_⟩
      refine lc_us0 (sC _ _ eul) (fun u h => (hu u h).same sC) l10 hD (fun _ => rfl) (fun _ => rfl) (fun HD eD sD => ?_)
      have sBD := sC.trans sD
      refine ⟨_, rfl, _, rfl, op, name, D, n, kds us, rfl, hop, eD, by rw [lk]; exact lo, fk sBD, gn, n0, by omega, fun hb => absurd hb nb, fun _ f => absurd fit f, fun _ _ r2 x2 HE sE hx2 er2 => ?_⟩
      have erE := sE _ _ (sD _ _ er)
      have eilE := sE _ _ (sD _ _ eil)
      refine ⟨_, rfl, r, _, _, .str "made", rfl, rfl, SqT.of erE, rfl, rfl, _, rfl, ?_⟩
      refine ite2 (fun _ => ?_) (fun h => absurd (by decide +kernel) h)
      refine ⟨_, rfl, r2, _, _, .str "made", rfl, rfl, SqT.of er2, rfl, rfl, _, rfl, ?_⟩
      refine ite2 (fun h => absurd h (by decide +kernel)) (fun _ => ?_)
      refine ⟨_, rfl, r2, _, _, .ref x2, rfl, rfl, SqT.of er2, rfl, _, rfl, r, _, _, _, rfl, rfl, SqT.of erE, rfl, _, rfl, r, _, _, _, rfl, rfl, SqT.of erE, rfl, nd x2 (ownOf op name) (kidsOf op (kds us)), rfl, hx2.kid T, _, rfl, ?_⟩
      refine ite2 (fun h => Bool.noConfusion (show false = true from h)) (fun _ => ?_)
      have LE := (LC.same sD).same sE
      refine ⟨_, rfl, .inl ⟨rfl, _, SqL.of LE.p⟩, _, rfl, r2, _, _, .ref x2, rfl, rfl, SqT.of er2, rfl, _, rfl, r, _, _, _, rfl, rfl, SqT.of erE, rfl, _, rfl, r, _, _, _, rfl, rfl, SqT.of erE, rfl, _, rfl, r, _, _, .ref il', rfl, rfl, SqT.of erE, rfl, tsz (by show 4 ≤ 1000; decide), fun nt hnt => ?_⟩
      have sF : Same HE (upd HE nt (.tup [.ref x2, .int ((1 + sumP (kidsOf op (kds us)) : Nat)), .int ((1 + maxD (kidsOf op (kds us)) : Nat)), .ref il'])) := fun b o q => by rw [upd_ne (ne_of_none q hnt)]; exact q
      have eF : (upd HE nt (.tup [.ref x2, .int ((1 + sumP (kidsOf op (kds us)) : Nat)), .int ((1 + maxD (kidsOf op (kds us)) : Nat)), .ref il'])) nt = some (.tup [.ref x2, .int ((1 + sumP (kidsOf op (kds us)) : Nat)), .int ((1 + maxD (kidsOf op (kds us)) : Nat)), .ref il']) := upd_same
      generalize upd HE nt (.tup [.ref x2, .int ((1 + sumP (kidsOf op (kds us)) : Nat)), .int ((1 + maxD (kidsOf op (kds us)) : Nat)), .ref il']) = HF at sF eF ⊢
      have LF := LE.same sF
      have EF : EnAt K HF ⟨nt, nd x2 (ownOf op name) (kidsOf op (kds us)), il', ls⟩ := ⟨eF, sF _ _ eilE, hx2.same sF, mem, lls⟩
      refine ⟨PL, _, _, rfl, rfl, LF.p, ?_, ?_⟩
      · have : (trefs es).length = es.length := by simp [trefs]
        rw [this, sizeLine_eq]
        omega
      · exact ⟨_, _, _, _, _, _, es ++ [⟨nt, nd x2 (ownOf op name) (kidsOf op (kds us)), il', ls⟩], rfl, LF.push EF, by rw [List.length_append]; show es.length + 1 ≤ _; omega⟩
  · -- all of them once more
    rintro σ H8 ⟨v4, v5, v6, v7, v8, v9, es, rfl, L8, les⟩
    refine ⟨_, rfl, PL, rfl, ⟨_, SqL.of L8.p⟩, fun D hD => ?_⟩
    have up : ∀ {o}, Same H8 (upd H8 D o) := fun {o} b u e => by rw [upd_ne (ne_of_none e hD)]; exact e
    refine lc_list (K := K) (a := PL) (xs := trefs es) (fun _ H' => H' = upd H8 D (.lst [])) rfl (fun _ H' _ eH => by rw [eH]; exact SqL.of (up _ _ L8.p)) (fun i x H' hx eH => ?_) (fun H' eH => ?_)
    · subst eH
      obtain ⟨e, hkj, rfl⟩ : ∃ e, es[i]? = some e ∧ V.ref e.t = x := by
        unfold trefs at hx
        rw [List.getElem?_map] at hx
        cases h : es[i]? with
        | none => rw [h] at hx; cases hx
        | some k => rw [h] at hx; exact ⟨k, rfl, by injection hx⟩
      have ee := (L8.e e (List.mem_of_getElem? hkj)).same (H' := upd H8 D (.lst [])) up
      refine ⟨rfl, ?_⟩
      refine ⟨_, rfl, e.t, _, _, .ref e.k.a, rfl, rfl, SqT.of ee.1, rfl, _, rfl, e.t, _, _, .int (e.k.p : Nat), rfl, rfl, SqT.of ee.1, rfl, _, rfl, e.t, _, _, .int (e.k.d : Nat), rfl, rfl, SqT.of ee.1, rfl, e.k, rfl, ee.2.2.1.kid T, _, rfl, ?_⟩
      exact ite2 (fun h => Bool.noConfusion (show false = true from h)) (fun _ => rfl)
    · subst eH
      refine ⟨D, _, rfl, .inl (SqL.of upd_same), rfl, ?_⟩
      exact k _
end
end K2
set_option Elab.async false
set_option linter.all false
set_option maxRecDepth 100000
set_option maxHeartbeats 4000000
namespace K2
open PySem PySem.Spec PyProof.Rows L2 He Sw L2H
theorem allOf {α : Type} {l : List α} {p : α → Bool} (h : l.all p = true) : ∀ x ∈ l, p x = true := List.all_eq_true.mp h
theorem short_cls : ∀ z ∈ clsS, ShortOk z := by
  intro z hz
  simp only [clsS, List.mem_cons, List.not_mem_nil, or_false] at hz
  rcases hz with rfl | rfl | rfl | rfl | rfl <;> constructor <;> decide +kernel
theorem cls_str {x : Str} (hx : x ∈ clsL) : ∃ z ∈ clsS, x = Str.ofString z := by
  have e : clsL = clsS.map Str.ofString := rfl
  rw [e] at hx
  obtain ⟨z, hz, rfl⟩ := List.mem_map.mp hx
  exact ⟨z, hz, rfl⟩
theorem noCls_ok {K : PySem.W.Frag} {C : Addr} {name : Str} {z : String} (h : noClsB K C name z = true) (k : ShortOk z) : NoCls K C name := by
  obtain ⟨h1, h⟩ := ba h
  obtain ⟨h2, h⟩ := ba h
  obtain ⟨h3, h4⟩ := ba h
  exact ⟨h1, eqO_ok h2, eqO_ok h3, z, h4, k⟩
theorem op_ok {K : PySem.W.Frag} (c : SaysF fa fn K) {x : Str} (hx : x ∈ clsL) {nm : String} (hn : nm ∈ binL) :
    PySem.W.selfFirst K (ga K x) = true ∧ PySem.W.findIn K (.ref (ga K x)) (PySem.dunder nm) = some (some (.ref (mF K (PySem.dunder nm)))) ∧ PySem.W.isFn K (.ref (mF K (PySem.dunder nm))) = true ∧ NoCls K (ga K x) (dunderR nm) := by
  obtain ⟨z, hz, rfl⟩ := cls_str hx
  have h : opB K (ga K (Str.ofString z)) nm z = true := allOf (allOf (p := fun z => binL.all fun nm => opB K (ga K (Str.ofString z)) nm z) (c.fact 21) z hz) nm hn
  obtain ⟨h1, h⟩ := ba h
  obtain ⟨h2, h⟩ := ba h
  obtain ⟨h3, h4⟩ := ba h
  exact ⟨h1, eqO_ok h2, h3, noCls_ok h4 (short_cls z hz)⟩
theorem txt {K : PySem.W.Frag} {h : Heap} {mg : Str → Option Value} (X : K.In h) (G : h.Ns mainGlobals mg) (c : SaysF fa fn K) : Txt K mg where
  glo := fun x hx => glo_ok X G (allOf (c.fact 0) x hx)
  fre := fun x hx => free_ok X G (allOf (c.fact 1) x hx)
  err := fun x hx => errB_ok (allOf (c.fact 2) x hx)
  kit := fun x hx y hy => of_decide_eq_true (allOf (allOf (c.fact 3) x hx) y hy)
  exm := fun x hx => exm_ok (allOf (c.fact 4) x hx)
  kve := fun x hx => of_decide_eq_true (allOf (c.fact 5) x hx)
  seI := clfnB_ok (c.fact 6)
  foI := clfnB_ok (c.fact 7)
  ve := veinB_ok (c.fact 8)
  let_ := str_ok X G (c.fact 9)
  mLet := int_ok X G (c.fact 10)
  mPar := int_ok X G (c.fact 11)
  mDep := int_ok X G (c.fact 12)
  nEnd := int_ok X G (c.fact 13)
  mShf := int_ok X G (c.fact 19)
  mThg := int_ok X G (c.fact 20)
  noN := fun H => tupB_ok (c.fact 14) H
  ins := fun x hx => by
    have q : ((Fa.cls x).ok K && ((Fa.mkr x).ok K && insB K (ga K x))) = true := allOf (p := fun x => (Fa.cls x).ok K && ((Fa.mkr x).ok K && insB K (ga K x))) (c.fact 15) x hx
    obtain ⟨h1, h⟩ := ba q
    obtain ⟨h2, h⟩ := ba h
    obtain ⟨h3, h⟩ := ba h
    obtain ⟨h4, h⟩ := ba h
    obtain ⟨h5, h6⟩ := ba h
    exact ⟨cls_ok h1, mkr_ok h2, eqO_ok h3, eqO_ok h4, of_decide_eq_true h5, of_decide_eq_true h6, fun f hf => noat_ok (allOf (p := fun f => (Fa.noat x f).ok K) (allOf (p := fun x => fldL.all fun f => (Fa.noat x f).ok K) (c.fact 16) x hx) f hf)⟩
  kF := fun x hx => of_decide_eq_true (allOf (p := fun x => kitB2 K x "Formula" true) (c.fact 17) x hx)
  kNN := of_decide_eq_true (ba (show (kitB2 K "Number" "Name" false && kitB2 K "Number" "Number" true) = true from c.fact 18)).1
  kNu := of_decide_eq_true (ba (show (kitB2 K "Number" "Name" false && kitB2 K "Number" "Number" true) = true from c.fact 18)).2
  bin := fun x hx y hy nm hn => by
    obtain ⟨a1, a2, a3, a4⟩ := op_ok c hx hn
    obtain ⟨b1, b2, b3, b4⟩ := op_ok c hy hn
    exact ⟨a1, b1, a2, a3, ⟨_, b2⟩, a4.m2, b4, Option.isSome_iff_exists.mp (allOf (p := fun y => (PySem.W.subIn K (.ref (ga K y)) (.ref (ga K x))).isSome) (allOf (p := fun x => clsL.all fun y => (PySem.W.subIn K (.ref (ga K y)) (.ref (ga K x))).isSome) (c.fact 22) x hx) y hy)⟩
  shl := fun x hx => by
    have h : shlB K (ga K x) = true := allOf (p := fun x => shlB K (ga K x)) (c.fact 23) x hx
    obtain ⟨h1, h⟩ := ba h
    obtain ⟨h2, h⟩ := ba h
    obtain ⟨h3, h⟩ := ba h
    obtain ⟨h4, h⟩ := ba h
    obtain ⟨h5, h6⟩ := ba h
    obtain ⟨h7, h8⟩ := ba h5
    obtain ⟨r1, e1⟩ := Option.isSome_iff_exists.mp h7
    obtain ⟨r2, e2⟩ := Option.isSome_iff_exists.mp h8
    exact ⟨h1, eqO_ok h2, h3, eqO_ok h4, ⟨r1, r2, e1, e2⟩, of_decide_eq_true h6⟩
  neg := fun x hx => by
    have h : negB K (ga K x) = true := allOf (p := fun x => negB K (ga K x)) (c.fact 24) x hx
    obtain ⟨h1, h2⟩ := ba h
    exact ⟨eqO_ok h1, h2⟩
theorem facts {P : Program} {w : World} {K : PySem.W.Frag} {h : Heap} {mg : Str → Option Value} {f : Addr} (X : K.In h) (G : h.Ns mainGlobals mg) (hfa : mg ("law" : Str) = some (.ref f)) (c : SaysF fa fn K) :
    ∃ fd : FuncData, (∀ (s : Shared) (v : Value), BindsTo s fd ⟨[v], []⟩ [("_law_script", v)]) ∧ ∀ base : Heap, FnOk P w K mg base CX0 47 f fd ["_law_script"] (spLaw K) := by
  have T := txt X G c
  obtain ⟨fdSE, FSE⟩ := c.def_ 0 (d := dM "SameError" "__init__" "SameError.__init__" sSE [.non]) rfl
  obtain ⟨fdBN, FBN⟩ := c.def_ 1 (d := dM "BadName" "__init__" "BadName.__init__" sBName []) rfl
  obtain ⟨fdTM, FTM⟩ := c.def_ 2 (d := dM "TooMany" "__init__" "TooMany.__init__" sMany []) rfl
  obtain ⟨fdII, FII⟩ := c.def_ 3 (d := dF "is_integer" sIsInt) rfl
  obtain ⟨fdIR, FIR⟩ := c.def_ 4 (d := dF "is_row" sIsRow) rfl
  obtain ⟨fdIN, FIN⟩ := c.def_ 5 (d := dF "is_name" sIsName) rfl
  obtain ⟨fdCN, FCN⟩ := c.def_ 6 (d := dF "check_name" sCkName) rfl
  obtain ⟨fdCS, FCS⟩ := c.def_ 7 (d := dF "check_shift" sCkShift) rfl
  obtain ⟨fdFo, FFo⟩ := c.def_ 8 (d := dM "Formula" "__init__" "Formula.__init__" sForm []) rfl
  obtain ⟨fdA, FA⟩ := c.def_ 9 (d := dM "Formula" "__add__" "Formula.__add__" sAdd []) rfl
  obtain ⟨fdS, FS⟩ := c.def_ 10 (d := dM "Formula" "__sub__" "Formula.__sub__" sSub []) rfl
  obtain ⟨fdM, FM⟩ := c.def_ 11 (d := dM "Formula" "__mul__" "Formula.__mul__" sMul []) rfl
  obtain ⟨fdN, FN⟩ := c.def_ 12 (d := dM "Formula" "__neg__" "Formula.__neg__" sNeg []) rfl
  obtain ⟨fdL, FL⟩ := c.def_ 13 (d := dM "Formula" "__lshift__" "Formula.__lshift__" sShl []) rfl
  obtain ⟨fdNu, FNu⟩ := c.def_ 14 (d := dM "Number" "__init__" "Number.__init__" sNum []) rfl
  obtain ⟨fdNa, FNa⟩ := c.def_ 15 (d := dM "Name" "__init__" "Name.__init__" sName []) rfl
  obtain ⟨fdSu, FSu⟩ := c.def_ 16 (d := dM "Sum" "__init__" "Sum.__init__" sSum []) rfl
  obtain ⟨fdCa, FCa⟩ := c.def_ 17 (d := dM "Call" "__init__" "Call.__init__" sCall []) rfl
  obtain ⟨fdCF, FCF⟩ := c.def_ 18 (d := dF "check_formula" sCkForm) rfl
  obtain ⟨fdIF, FIF⟩ := c.def_ 19 (d := dF "inner_formulas" sInner) rfl
  obtain ⟨fdIX, FIX⟩ := c.def_ 20 (d := dF "index_names" sIx) rfl
  obtain ⟨fdLI, FLI⟩ := c.def_ 21 (d := dF "_law_is_integer" sLInt) rfl
  obtain ⟨fdD, FD⟩ := c.def_ 22 (d := dF "_law_draw" sDraw) rfl
  obtain ⟨fdLN, FLN⟩ := c.def_ 23 (d := dF "_law_names" sNames) rfl
  obtain ⟨fdE, FE⟩ := c.def_ 24 (d := dF "_law_equal" sEqual) rfl
  obtain ⟨fdC, FC'⟩ := c.def_ 25 (d := dF "_law_class" sClass) rfl
  obtain ⟨fdO, FO⟩ := c.def_ 26 (d := dF "_law_ops" sOps) rfl
  obtain ⟨fdMk, FMk⟩ := c.def_ 27 (d := dF "_law_make" sMake) rfl
  obtain ⟨fdT, FT⟩ := c.def_ 28 (d := dF "_law_tried" sTried) rfl
  obtain ⟨fdU, FU⟩ := c.def_ 29 (d := dF "_law_used" sUsed) rfl
  obtain ⟨fdDu, FDu⟩ := c.def_ 30 (d := dF "_law_due" sDue) rfl
  obtain ⟨fdFi, FFi⟩ := c.def_ 31 (d := dF "_law_fits" sFits) rfl
  obtain ⟨fd, F⟩ := c.def_ 32 (d := dF "law" sLaw) rfl
  obtain ⟨fdIS, FIS⟩ := c.def_ 33 (d := dF "is_shift" sIsShift) rfl
  have e := hfa.symm.trans (T.g "law")
  cases e
  have b := FunD.bindsA (ps := ["_law_script"]) F fun _ _ _ _ _ _ us hl => match us, hl with | [_], _ => rfl
  refine ⟨fd, fun s v => b s [v] rfl, fun base => ?_⟩
  have GF := ok_form (P := P) (w := w) (base := base) T FFo FTM FSE
  have GA := ok_add (fdM := fdSE) (fdS := fdSE) T FA FCF FFo GF
  have GS := ok_sub (fdM := fdSE) (fdS := fdSE) T FS FCF FFo GF
  have GM := ok_mul (fdM := fdSE) (fdS := fdSE) T FM FCF FFo GF
  have GN := ok_neg (fdM := fdSE) (fdS := fdSE) T FN FFo GF
  have GL := ok_shl T FL FFo FCS FIS FII GF
  have GNu := ok_num T FNu FFo FII GF
  have GNa := ok_name T FNa FFo FCN FIN FBN FSE GF
  have GSu := ok_sum T FSu FFo FCN FIN FBN FSE FCF FIX FIF GF
  have GCa := ok_call T FCa FFo FCN FIN FBN FSE FCF FIR GF
  have GMk := ok_make T FMk FA FS FM FN FL FSu FCa FNu GA GS GM GN GL GSu GCa GNu
  have GT := ok_tried T FT FC' FMk GMk
  exact ok_law T F FD FLN FO FU FDu FT FFi FE FLI FNa GT GNa
end K2
set_option Elab.async false
set_option linter.all false
set_option maxRecDepth 100000
set_option maxHeartbeats 0
open PySem PySem.W PySem.Calls PyProof.Rows
theorem PySem.Challenge.cw_samewords_k02_sizes_and_too_many_holds : PySem.Challenge.rw_samewords_k02_sizes_and_too_many.Holds := by
  w_on; o_law
  refine HandSHeadRun.head_any (r := OpenLaw.row PySem.Challenge.rw_samewords_k02_sizes_and_too_many) (q := view (OpenLaw.row PySem.Challenge.rw_samewords_k02_sizes_and_too_many).prog [47]) (H := K2.hk) (ob := K2.ob) (M := 5000) (loose := K2.loose1 ++ K2.loose2) (d := HandSHeadRun.topDef (OpenLaw.row PySem.Challenge.rw_samewords_k02_sizes_and_too_many).prog 47) (kwd := []) K2.ob_eq
    (by kernel_rfl) (fun s => by kernel_rfl) K2.run (by kernel_rfl) (by kernel_rfl) (by kernel_rfl) (by rfl) (by first | assumption | decide +kernel) (by decide +kernel) ⟨rfl, rfl, rfl, rfl, rfl, by decide +kernel⟩ ?hw ?hc
  case hw => w_witness2
  case hc =>
    refine L2.walk_ofE (l := PySem.Challenge.rw_samewords_k02_sizes_and_too_many) (n := 63) (k := 47) (x := "_law_script") (CX := L2.CX0) rfl (by decide) (by kernel_rfl) ⟨rfl, by decide, by decide⟩ ?F (fun _ _ _ _ z => z)
    intro w mg fa h Y G hmg0
    obtain ⟨K, KX, c⟩ := Y
    have hmg : mg ("law" : PySem.Str) = some (.ref fa) := by
      have e : (HandSHeadRun.topDef (OpenLaw.row PySem.Challenge.rw_samewords_k02_sizes_and_too_many).prog 47).name = ("law" : PySem.Str) := by kernel_rfl
      rw [← e]
      exact hmg0
    obtain ⟨fd, hb, hF⟩ := K2.facts (P := (PySem.Challenge.rw_samewords_k02_sizes_and_too_many).prog) (w := w) KX G hmg c
    exact ⟨K, fd, K2.spLaw K, KX, hb, fun H a ns hl _ hS => ⟨a, ns, rfl, hS, fun _ => rfl⟩, fun base _ _ => hF base⟩
