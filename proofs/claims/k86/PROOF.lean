import PyProof.Rows.All
import Wide.All
import OpenK.AllK
import Wide.FinOn
import PyProof.Conv_bool
import KE.KOpsOwn
import KE.KCallOwn
import HandS.Base
import HandS.Call
import HandS.List
import HandS.More
import HandS.Exc
import HandS.ExcOwn
import HandS.Text
import HandS.Wide
import HandS.Star
import HandS.ClsMeth
import HandS.FStr
import HandS.Words
import HandS.WordsList
import HandS.WordsExc
import HandS.Small
import HandS.IsInst
import HandS.ExcIs
import HandS.Gcd
import HandS.Defaults
import HandS.StrMore
import HandS.Iter
import HandS.Comp
import HandS.TryOnly
import HandS.Steps
import PyProof.StrBlock2
import PyProof.Rows.StrMul
import PyProof.StrLawsRepr
import PyProof.Rows.StrPartPair
import PyProof.Rows.StrDigitsNeg
import PyProof.StrLawsAffix
import HandS.Walk
import HandS.Ends
import PySem.Challenge.RW_tablelaws_k86_fractions
set_option Elab.async false
set_option linter.all false
set_option maxRecDepth 100000
set_option maxHeartbeats 8000000
/-! Calls by one notion: what the call of a value gives (CalS), with what is raised wished for at the slots; own operators of a class over it. -/
namespace PySem.W
open PySem PySem.Spec PySem.Calls PyProof.Rows
section
variable {prog : Program} {w : World} {A : Around} {E : Value → Shared → Prop} {s : Shared} {K : Frag} {x C f L : Addr} {ox : Obj} {od : Option Obj} {h₀ : Heap} {m : Str → Option Value}
theorem tl_bool_call {Q : Value → Shared → Prop} (F : Fr h₀ L s.heap m) (X : K.In h₀) (I : InstAt s.heap x ox C od) (hs : findIn K (.ref C) "__bool__" = some (some (.ref f))) (hf : isFn K (.ref f) = true)
    (h : wpAny (model prog w) A.in1.in1 (call (.ref f) [.ref x]) (BoolBack fun b s' => Q (.bool b) s') E s) : wpAny (model prog w) A (call (.type "bool") [.ref x]) Q E s := by
  refine callType_codes (T := "bool") (Bi := Builtin.«object.__init__») (Q₁ := fun r s₁ => ∃ b, r = .bool b ∧ Q r s₁) PySem.F.called_bool (PySem.F.typeCall_bool_1 _) PySem.F.entry_object_init ?_ ?_
  · refine codeAny_of_tree ?_
    show wpAny _ A.in1.in1 (do checkBuiltinCall "bool.__new__" ⟨[.type "bool", .ref x], []⟩; again (.builtin "bool.__new__" ⟨[.type "bool", .ref x], []⟩)) _ _ s
    refine wpAny_bind (wpAny_of_eq (PySem.F.newCall_bool_1 _) (wpAny_pure ⟨plainId_quiet (by decide +kernel) _, codeAny_builtin PySem.F.entry_bool_new ?_⟩))
    rw [Around.under_plainId (by decide +kernel) _]
    have t : wpAny (model prog w) A.in1.in1 (truthy (.ref x)) (fun b s' => Q (.bool b) s') E s := truthy_K F X I hs hf h
    unfold Builtin.«bool.__new__»
    refine wpAny_bind (wpAny_pure ?_)
    refine wpAny_bind (wpAny_of_eq PySem.F.conv_sub_bool ?_)
    refine wpAny_bind (wpAny_pure ?_)
    refine wpAny_bind (wpAny_mono t (fun b s' q => wpAny_pure ⟨b, rfl, q⟩) fun _ _ y => y)
  · rintro obj s₁ ⟨b, rfl, hq⟩
    exact ⟨typeIs_bool _ _, PySem.F.args_object_init_2 _ _, object_init_meets PySem.F.called_bool.init.lookup PySem.F.called_bool.made (by decide) prog w A.in1 _ s₁ ⟨typeIs_bool _ _, rfl, hq⟩⟩
end
end PySem.W

namespace TL
open PySem PySem.Spec PyProof.Rows L2
theorem cmpBack {Q : Value → Shared → Prop} {v : V} {u : Value} {s : Shared} (r : RelV v u) (h : Q u s) : PySem.W.CmpBack Q u s := by
  cases v with
  | non => cases r; exact h
  | bl b => cases r; exact h
  | int i => obtain ⟨t, rfl⟩ := r; exact h
  | str i => obtain ⟨t, rfl⟩ := r; exact h
  | byt i => obtain ⟨t, rfl⟩ := r; exact h
  | flt i => obtain ⟨t, rfl⟩ := r; exact h
  | ref a => cases r; exact h
  | ty n => cases r; exact h

/-- what a call gives, at the slots: the values, the heap, what is wanted -/
abbrev RS := L2.St → List V → Hp → VK → Prop
/-- the call of u gives what r says, here or a little deeper -/
def CalS (X : Cx) (k : Nat) (u : Value) (r : RS) : Prop :=
  ∀ (A : Around) (pins : List (Addr × Obj)) (s : Shared) (σ : L2.St) (H : Hp) (vs : List V) (us : List Value) (Q : VK), Room k A → A.frames = X.A.frames → Inv X pins σ H s → Vals vs us → r σ vs H Q →
    wpAny (model X.prog X.w) A (call u us) (EP X pins σ Q) X.xe s
abbrev rSp (sp : Sp) (E : L2.St → XK) : RS := fun σ vs H Q => sp vs H Q (E σ)
/-- the call of a class whose __init__ keeps sp -/
def spMk (C : Addr) (sp : Sp) : Sp := fun vs H Q E => ∀ x dx, H x = Option.none → H dx = Option.none → dx ≠ x → sp (V.ref x :: vs) (upd (upd H dx (.own x)) x (.ins C dx [])) (fun v H2 => v = .non ∧ Q (.ref x) H2) E

section
variable {X : Cx} {CX : CXT} {k j : Nat} {C f a : Addr} {sp : Sp} {E : L2.St → XK} {r : RS} {u : Value}
theorem CalS.mono (h : CalS X k u r) (l : k ≤ j) : CalS X j u r := fun A pins s σ H vs us Q hr => h A pins s σ H vs us Q (hr.mono l)
theorem env0_at {A : Around} {pins : List (Addr × Obj)} {s : Shared} {σ : L2.St} {H : Hp} (hA : A.frames = X.A.frames) (I : Inv X pins σ H s) : Env0 X.prog X.w X.K X.mg X.base A X.stack s H := by
  have e := I.env0
  exact ⟨by rw [hA]; exact e.frames, e.mod, e.bs, e.bsz, e.funs, e.frf, e.hok, e.bare⟩
theorem cal_fn (F : FnR X.prog X.w X.K X.mg X.base CX k f sp) (hx : ∀ σ, PassesAt CX X σ (E σ)) : CalS X k (.ref f) (rSp sp E) := by
  intro A pins s σ H vs us Q hr hA I r h
  refine wpAny_call (codeAny_mono (F A X.stack s H us vs Q (E σ) hr (env0_at hA I) r h) fun r s' hq => ?_)
  cases r with
  | error e => exact hx σ pins H s e s' I hq
  | ok fl =>
    cases fl with
    | ret u => exact I.after hq
    | next => exact False.elim hq
    | brk => exact False.elim hq
    | cont => exact False.elim hq
theorem env0_make {P : Program} {w : World} {K : PySem.W.Frag} {mg : Str → Option Value} {base : Heap} {A : Around} {outer : List Env} {s : Shared} {H : Hp} (e : Env0 P w K mg base A outer s H) (C : Addr) (us : List Value) (kw : List (Str × Value)) :
    Env0 P w K mg base (A.under (.builtin "type.__call__" ⟨.ref C :: us, kw⟩)) outer s H := e.make C us kw
theorem cal_mk (M : Mk X.K C f) (F : FnR X.prog X.w X.K X.mg X.base CX k f sp) (hx : ∀ σ, PassesAt CX X σ (E σ)) : CalS X (k + 1) (.ref C) (rSp (spMk C sp) E) := by
  intro A pins s σ H vs us Q hr hA I r h
  have hq := h (s.heap.objs.size + 1) s.heap.objs.size (I.hok.fresh (Nat.le_succ _)) (I.hok.fresh (Nat.le_refl _)) (Nat.ne_of_lt (Nat.lt_succ_self _))
  have I2 := Inv.made (C := C) I
  have r2 : Vals (V.ref (s.heap.objs.size + 1) :: vs) (Value.ref (s.heap.objs.size + 1) :: us) := .cons rfl r
  refine wpAny_call (make_map (f := f) I.kIn M.makes M.init (beq_iff_eq.mp M.fn) (codeAny_mono (F _ X.stack _ _ (Value.ref (s.heap.objs.size + 1) :: us) _ _ (E σ) (hr.make C us []) ((env0_at hA I2).make C us []) r2 hq) fun r s' hq' => ?_))
  cases r with
  | error e => exact hx σ pins _ _ e s' I2 hq'
  | ok fl =>
    cases fl with
    | ret u =>
      obtain ⟨v, H', I3, rv, ev, q3⟩ := I2.after hq'
      subst ev
      exact ⟨rv, ⟨V.ref (s.heap.objs.size + 1), H', I3, rfl, q3⟩⟩
    | next => exact False.elim hq'
    | brk => exact False.elim hq'
    | cont => exact False.elim hq'

/-! ### the call's node -/
variable {x m : Str} {p pos apos : Pos} {e o : Expr} {es : List Expr} {t : TA} {ta tb : TE} {i : Nat}
def tC1 (r : RS) (t : TA) : TE := fun σ H Q => t σ H fun vs H1 => r σ vs H1 Q
/-- x(e, ..), x a name of the module -/
theorem pe_cg (c : CalS X k (.ref a) r) (hr : Room k X.A) (hg : Gl X x) (hm : X.mg x = some (.ref a)) (hk : PySem.W.keepIn X.K (.ref a) = true) (ha : PA X (e :: es) t) (hdb : (x == ("__debug__" : Str)) = false := by decide)
    (he : starEach (e :: es) X.env = (false, eval e X.env) :: starEach es X.env := by rfl) (hpl : (backTo pos (starEach es X.env)).any (·.1) = false := by rfl) : PE X (.Call (.Name x p) (e :: es) [] pos) (tC1 r t) := by
  refine ⟨fun pins s σ H Q I h => ?_⟩
  refine wpAny_Call_Name_kw (ld_glob I hg hm ?_ hdb)
  refine PySem.W.callWith_K (h₀ := X.base) I.ok.mod.kin hk (thn (ha.run pos pins s σ H _ I h) fun us s1 ⟨vs, H1, I1, rv, q⟩ => ⟨I1.kIn, ?_⟩) he hpl
  exact c X.A pins s1 σ H1 vs us Q hr rfl I1 rv q
theorem pe_cg0 (c : CalS X k (.ref a) r) (hr : Room k X.A) (hg : Gl X x) (hm : X.mg x = some (.ref a)) (hk : PySem.W.keepIn X.K (.ref a) = true) (hdb : (x == ("__debug__" : Str)) = false := by decide) : PE X (.Call (.Name x p) [] [] pos) (tC1 r tNil) := by
  refine ⟨fun pins s σ H Q I h => ?_⟩
  refine wpAny_Call_Name_kw (ld_glob I hg hm ?_ hdb)
  exact PySem.W.callWith_K0 I.kIn hk (c X.A pins s σ H [] [] Q hr rfl I .nil h)
/-- x(e, ..), x a name of the def whose slot holds what stands at a -/
def tCv (i : Nat) (a : Addr) (r : RS) (t : TA) : TE := fun σ H Q => σ[i]? = some (some (.ref a)) ∧ t σ H fun vs H1 => r σ vs H1 Q
theorem pe_cv (c : CalS X k (.ref a) r) (hr : Room k X.A) (hN : X.N[i]? = some x) (hv : Vis X.env.scope x) (hk : PySem.W.keepIn X.K (.ref a) = true) (ha : PA X (e :: es) t) (hdb : (x == ("__debug__" : Str)) = false := by decide) (hcd : (x == ("__classdict__" : Str)) = false := by decide)
    (he : starEach (e :: es) X.env = (false, eval e X.env) :: starEach es X.env := by rfl) (hpl : (backTo pos (starEach es X.env)).any (·.1) = false := by rfl) : PE X (.Call (.Name x p) (e :: es) [] pos) (tCv i a r t) := by
  refine ⟨fun pins s σ H Q I h => ?_⟩
  obtain ⟨hs, ht⟩ := h
  refine wpAny_Call_Name_kw (thn ((pe_var (pos := p) hN hv hdb hcd).run pins s σ H (fun v H1 => v = .ref a ∧ H1 = H) I ⟨.ref a, hs, rfl, rfl⟩) fun u s1 ⟨v, H1, I1, r1, q1⟩ => ?_)
  obtain ⟨rfl, rfl⟩ := q1
  cases r1
  refine PySem.W.callWith_K (h₀ := X.base) I.ok.mod.kin hk (thn (ha.run pos pins s1 σ _ _ I1 ht) fun us s2 ⟨vs, H2, I2, r, q⟩ => ⟨I2.kIn, ?_⟩) he hpl
  exact c X.A pins s2 σ H2 vs us Q hr rfl I2 r q
/-- x is an instance of the class at C -/
def IsIns (C : Addr) (H : Hp) (x : V) : Prop := ∃ a dx fs, x = .ref a ∧ H a = some (.ins C dx fs)
/-- .. without an attribute m -/
def IsInsN (C : Addr) (m : Str) (H : Hp) (x : V) : Prop := ∃ a dx fs, x = .ref a ∧ H a = some (.ins C dx fs) ∧ fs.lookup m = none
theorem ins_look {pins : List (Addr × Obj)} {σ : L2.St} {H : Hp} {s : Shared} (I : Inv X pins σ H s) {a dx : Addr} {fs : List (Str × V)} (h : H a = some (.ins C dx fs)) : ∃ od, PySem.W.InstAt s.heap a (PySem.W.instObj C dx) C (some od) := by
  obtain ⟨mA, J, _⟩ := ins_get I.hok h
  obtain ⟨od, J, _⟩ := J.look
  exact ⟨od, J⟩
/-- o.m(e, ..), o an instance of the class at C -/
def tMm (C : Addr) (m : Str) (r : RS) (ta : TE) (t : TA) : TE := fun σ H Q => ta σ H fun x H1 => IsInsN C m H1 x ∧ t σ H1 fun vs H2 => r σ (x :: vs) H2 Q
theorem pe_mm {pl : Sem Bool} (he : PE X o ta) (c : Cls X.K C) (hm : Meth X.K C m f) (F : CalS X k (.ref f) r) (hr : Room k X.A) (ha : PA X (e :: es) t)
    (hst : starEach (e :: es) X.env = (false, eval e X.env) :: starEach es X.env := by rfl) (hpl : (backTo pos (starEach es X.env)).any (·.1) = false := by rfl)
    (ht : eval (.Call (.Attribute o m apos) (e :: es) [] pos) X.env = (do
      let ov ← eval o X.env
      standAt apos.atName
      let (f, first) ← holding [ov] (getMethod ov m pl)
      callWith pos f first (backTo pos (starEach (e :: es) X.env)) (backToKw pos (keywordEach [] X.env))) := by rfl) :
    PE X (.Call (.Attribute o m apos) (e :: es) [] pos) (tMm C m r ta t) := by
  refine ⟨fun pins s σ H Q I h => ?_⟩
  refine PySem.W.methodCall_KW (pl := pl) (thn (he.run pins s σ H _ I h) fun u s1 ⟨x, H1, I1, rx, ⟨a, dx, fs, ex, ea, l⟩, q⟩ => ?_) ht
  subst ex
  obtain rfl : u = Value.ref a := rx
  refine getmeth_ok I1 ea c hm l ?_
  refine PySem.W.callWith_K (first := [.ref a]) (h₀ := X.base) I.ok.mod.kin hm.kp (thn (ha.run pos pins s1 σ H1 _ I1 q) fun us s2 ⟨vs, H2, I2, r, q2⟩ => ⟨I2.kIn, ?_⟩) hst hpl
  exact F X.A pins s2 σ H2 (V.ref a :: vs) (Value.ref a :: us) Q hr rfl I2 (.cons rfl r) q2
theorem pe_mm0 {pl : Sem Bool} (he : PE X o ta) (c : Cls X.K C) (hm : Meth X.K C m f) (F : CalS X k (.ref f) r) (hr : Room k X.A)
    (ht : eval (.Call (.Attribute o m apos) [] [] pos) X.env = (do
      let ov ← eval o X.env
      standAt apos.atName
      let (f, first) ← holding [ov] (getMethod ov m pl)
      callWith pos f first (backTo pos (starEach [] X.env)) (backToKw pos (keywordEach [] X.env))) := by rfl) :
    PE X (.Call (.Attribute o m apos) [] [] pos) (tMm C m r ta tNil) := by
  refine ⟨fun pins s σ H Q I h => ?_⟩
  refine PySem.W.methodCall_KW (pl := pl) (thn (he.run pins s σ H _ I h) fun u s1 ⟨x, H1, I1, rx, ⟨a, dx, fs, ex, ea, l⟩, q⟩ => ?_) ht
  subst ex
  obtain rfl : u = Value.ref a := rx
  refine getmeth_ok I1 ea c hm l ?_
  refine PySem.W.callWith_K0 (first := [.ref a]) I1.kIn hm.kp ?_
  exact F X.A pins s1 σ H1 [V.ref a] [Value.ref a] Q hr rfl I1 (.cons rfl .nil) q

/-! ### own operators -/
def tOwn2 (C : Addr) (r : RS) (ta tb : TE) : TE := fun σ H Q => ta σ H fun x H1 => tb σ H1 fun y H2 => IsIns C H2 x ∧ IsIns C H2 y ∧ r σ [x, y] H2 Q
/-- a + b .. of two instances of one class -/
theorem pe_own {op : Operator} {a b : Expr} {ta tb : TE} {pos : Pos} (hc : PySem.W.selfFirst X.K C = true) (hm : Meth X.K C (PySem.dunder op.info.2) f) (F : CalS X k (.ref f) r) (hr : Room k X.A)
    (ha : PE X a ta) (hb : PE X b tb) : PE X (.BinOp a op b pos) (tOwn2 C r ta tb) := by
  refine ⟨fun pins s σ H Q I h => ?_⟩
  refine wpAny_BinOp (binT (R := fun x y H => IsIns C H x ∧ IsIns C H y ∧ r σ [x, y] H Q) ha hb I h fun v u s2 x y H2 I2 rx ry q => ?_)
  obtain ⟨⟨a, dx, fs, rfl, ha⟩, ⟨b, dy, gs, rfl, hb⟩, hsp⟩ := q
  cases rx
  cases ry
  obtain ⟨_, J⟩ := ins_look I2 ha
  obtain ⟨_, J'⟩ := ins_look I2 hb
  obtain ⟨m, hF⟩ := I2.fr
  refine PySem.W.binop_K hF I2.ok.mod.kin J J'.type hc hm.at_ hm.fn ?_
  refine wpAny_mono (F X.A pins s2 σ H2 [V.ref a, V.ref b] _ Q hr rfl I2 (.cons rfl (.cons rfl .nil)) hsp) (fun r s' z => ?_) fun _ _ x => x
  have z2 := z
  obtain ⟨v', H', I', rv, q⟩ := z
  exact cmpBack (Q := EP X pins σ Q) rv z2
/-- a == b, the own __eq__ of a's class, b an instance of it too -/
theorem pe_ownEq {a b : Expr} {ta tb : TE} {pos : Pos} (hc : PySem.W.notFirst X.K C (.ref C) = true) (hm : Meth X.K C "__eq__" f) (F : CalS X k (.ref f) r) (hr : Room k X.A)
    (ha : PE X a ta) (hb : PE X b tb) (hmk : behindInMarks .Eq b = false := by rfl) : PE X (.Compare a [.Eq] [b] pos) (tOwn2 C r ta tb) := by
  refine ⟨fun pins s σ H Q I h => ?_⟩
  refine wpAny_Compare1 (binT (R := fun x y H => IsIns C H x ∧ IsIns C H y ∧ r σ [x, y] H Q) ha hb I h fun v u s2 x y H2 I2 rx ry q => ?_) hmk
  obtain ⟨⟨a, dx, fs, rfl, ha⟩, ⟨b, dy, gs, rfl, hb⟩, hsp⟩ := q
  cases rx
  cases ry
  obtain ⟨_, J⟩ := ins_look I2 ha
  obtain ⟨_, J'⟩ := ins_look I2 hb
  obtain ⟨m, hF⟩ := I2.fr
  show wpAny (model X.prog X.w) X.A (richCompare .Eq (.ref a) (.ref b)) (EP X pins σ Q) X.xe s2
  refine PySem.W.cmp_K (op := .Eq) (tb := .ref C) hr.units0 hF I2.ok.mod.kin J J'.type hc hm.at_ hm.fn ?_
  refine wpAny_mono (F X.A pins s2 σ H2 [V.ref a, V.ref b] _ Q hr rfl I2 (.cons rfl (.cons rfl .nil)) hsp) (fun r s' z => ?_) fun _ _ x => x
  have z2 := z
  obtain ⟨v', H', I', rv, q⟩ := z
  exact cmpBack (Q := EP X pins σ Q) rv z2
def tOwn1 (C : Addr) (r : RS) (ta : TE) : TE := fun σ H Q => ta σ H fun x H1 => IsIns C H1 x ∧ r σ [x] H1 Q
/-- -a -/
theorem pe_ownNeg {a : Expr} {ta : TE} {pos : Pos} (hm : Meth X.K C "__neg__" f) (F : CalS X k (.ref f) r) (hr : Room k X.A) (ha : PE X a ta) : PE X (.UnaryOp .USub a pos) (tOwn1 C r ta) := by
  refine ⟨fun pins s σ H Q I h => ?_⟩
  refine UnaryOp_ (thn (ha.run pins s σ H _ I h) fun v s1 ⟨x, H1, I1, r1, q1⟩ => ?_)
  obtain ⟨⟨a, dx, fs, rfl, ha⟩, hsp⟩ := q1
  cases r1
  obtain ⟨_, J⟩ := ins_look I1 ha
  obtain ⟨m, hF⟩ := I1.fr
  exact PySem.W.ksp_neg hF I1.ok.mod.kin J hm.at_ hm.fn (F X.A pins s1 σ H1 [V.ref a] _ Q hr rfl I1 (.cons rfl .nil) hsp)
/-- the truth of an instance by its own __bool__ -/
theorem tru_own {σ : L2.St} {H : Hp} {s : Shared} {pins : List (Addr × Obj)} {x : V} {v : Value} {Q : Bool → Hp → Prop} (hm : Meth X.K C "__bool__" f) (F : CalS X k (.ref f) r) (hr : Room k X.A)
    (I : Inv X pins σ H s) (rx : RelV x v) (h : IsIns C H x ∧ r σ [x] H (fun v H' => ∃ b, v = .bl b ∧ Q b H')) : wpAny (model X.prog X.w) X.A (truthy v) (TP X pins σ Q) X.xe s := by
  obtain ⟨⟨a, dx, fs, rfl, ha⟩, hsp⟩ := h
  cases rx
  obtain ⟨_, J⟩ := ins_look I ha
  obtain ⟨m, hF⟩ := I.fr
  refine PySem.W.truthy_K hF I.ok.mod.kin J hm.at_ hm.fn (wpAny_mono (F X.A pins s σ H [V.ref a] _ _ hr rfl I (.cons rfl .nil) hsp) (fun r s' z => ?_) fun _ _ x => x)
  obtain ⟨v', H', I', rv, b, rfl, q⟩ := z
  cases rv
  exact ⟨H', I', q⟩
end
end TL
namespace TL
open PySem PySem.Spec PyProof.Rows L2
section
variable {X : Cx} {CX : CXT} {k j : Nat} {C f a : Addr} {sp : Sp} {E : L2.St → XK} {r : RS} {u : Value}
/-- a promise that lets nothing out, met nowhere -/
def rP (sp : Sp) : List V → Hp → VK → Prop := fun vs H Q => sp vs H Q E0
/-- bool(a), a an instance with an own __bool__ -/
theorem cr_boolOwn (hm : Meth X.K C "__bool__" f) (F : CalS X k (.ref f) (rSp sp fun _ => E0)) (hr : Room (k + 2) X.A) : CallR X (.type "bool") (fun vs H Q => ∃ x, vs = [x] ∧ IsIns C H x ∧ sp [x] H (fun v H' => ∃ b, v = .bl b ∧ Q (.bl b) H') E0) := by
  intro pins s σ H xs us Q I r h
  obtain ⟨x, rfl, ⟨a, dx, fs, rfl, ha⟩, hsp⟩ := h
  obtain ⟨u, rfl, r1⟩ := vals1 r
  cases r1
  obtain ⟨_, J⟩ := ins_look I ha
  obtain ⟨m, hF⟩ := I.fr
  refine PySem.W.tl_bool_call hF I.ok.mod.kin J hm.at_ hm.fn (wpAny_mono (F X.A.in1.in1 pins s σ H [V.ref a] _ _ hr.in1.in1 rfl I (.cons rfl .nil) hsp) (fun r s' z => ?_) fun _ _ x => x)
  obtain ⟨v', H', I', rv, b, rfl, q⟩ := z
  cases rv
  exact ⟨.bl b, H', I', rfl, q⟩
/-- str(a), a an instance with an own __str__ -/
theorem cr_strOwn (hm : Meth X.K C "__str__" f) (F : CalS X k (.ref f) (rSp sp fun _ => E0)) (hr : Room (k + 2) X.A) : CallR X (.type "str") (fun vs H Q => ∃ x, vs = [x] ∧ IsIns C H x ∧ sp [x] H (fun v H' => ∃ b, v = .str b ∧ Q (.str b) H') E0) := by
  intro pins s σ H xs us Q I r h
  obtain ⟨x, rfl, ⟨a, dx, fs, rfl, ha⟩, hsp⟩ := h
  obtain ⟨u, rfl, r1⟩ := vals1 r
  cases r1
  obtain ⟨_, J⟩ := ins_look I ha
  refine PySem.W.kso_call hr.in1.in1.units0 I.kIn J hm.at_ hm.fn (wpAny_mono (F X.A.in1.in1 pins s σ H [V.ref a] _ _ hr.in1.in1 rfl I (.cons rfl .nil) hsp) (fun r s' z => ?_) fun _ _ x => x)
  obtain ⟨v', H', I', rv, b, rfl, q⟩ := z
  obtain ⟨t, rfl⟩ := rv
  exact ⟨.str b, H', I', ⟨t, rfl⟩, q⟩
/-! ### a classmethod called on its class -/
variable {p g : Addr} {mc : Value} {o e : Expr} {es : List Expr} {m : Str} {pos apos : Pos} {ta : TE} {t : TA} {pl : Sem Bool}
def tCm (C : Addr) (sp : Sp) (E : L2.St → XK) (ta : TE) (t : TA) : TE := fun σ H Q => ta σ H fun x H1 => x = .ref C ∧ t σ H1 fun vs H2 => sp (.ref C :: vs) H2 Q (E σ)
theorem pe_cm (he : PE X o ta) (r : ClX.CRead X.K C mc) (c : ClX.CMet X.K C mc m p g) (F : FnR X.prog X.w X.K X.mg X.base CX k g sp) (hr : Room k X.A) (hx : ∀ σ, PassesAt CX X σ (E σ)) (ha : PA X (e :: es) t)
    (hst : starEach (e :: es) X.env = (false, eval e X.env) :: starEach es X.env := by rfl) (hpl : (backTo pos (starEach es X.env)).any (·.1) = false := by rfl)
    (ht : eval (.Call (.Attribute o m apos) (e :: es) [] pos) X.env = (do
      let ov ← eval o X.env
      standAt apos.atName
      let (f, first) ← holding [ov] (getMethod ov m pl)
      callWith pos f first (backTo pos (starEach (e :: es) X.env)) (backToKw pos (keywordEach [] X.env))) := by rfl) :
    PE X (.Call (.Attribute o m apos) (e :: es) [] pos) (tCm C sp E ta t) := by
  refine ⟨fun pins s σ H Q I h => ?_⟩
  refine PySem.W.methodCall_KW (pl := pl) (thn (he.run pins s σ H _ I h) fun u s1 ⟨x, H1, I1, rx, ex, q⟩ => ?_) ht
  subst ex
  obtain rfl : u = Value.ref C := rx
  refine ClX.getmethcm_ok I1 r c fun s2 I2 => ?_
  refine ClX.callwith_cm I2 (ClX.base_none I1 (Nat.le_refl _)) c.fi (thn (ha.run pos _ s2 σ H1 _ I2 q) fun us s3 ⟨vs, H2, I3, rv, q2⟩ => ⟨⟨ClX.pin_at I3, I3.kIn⟩, ?_⟩) hst hpl
  have z : wpAny (model X.prog X.w) X.A (call (.ref s1.heap.objs.size) us) (EP X ((s1.heap.objs.size, PySem.W.methodObj (.ref g) (.ref C)) :: pins) σ Q) X.xe s3 := by
    refine wpAny_call (PySem.W.method_call (ClX.pin_at I3) (codeAny_mono (F X.A X.stack s3 H2 (.ref C :: us) (.ref C :: vs) Q (E σ) hr I3.env0 (.cons rfl rv) q2) fun r s' hq => ?_))
    cases r with
    | error e => exact hx σ _ H2 s3 e s' I3 hq
    | ok fl =>
      cases fl with
      | ret u => exact I3.after hq
      | next => exact False.elim hq
      | brk => exact False.elim hq
      | cont => exact False.elim hq
  exact thn z fun _ _ y => ClX.unpinE y
/-! ### numbers, texts -/
/-- // by any number below 2 ^ 9000 but nought -/
def CDivX (_ j : Int) : Prop := j ≠ 0 ∧ j.natAbs.log2 < 9000
theorem op_fdivX : OpR X (binaryOp .FloorDiv) (rI CDivX fun i j => .int (i.fdiv j)) := opI fun i j _ _ _ _ _ hc q => floordiv_int hc.1 q (.inl (PyProof.noPylong_of_log2 hc.2))
/-- a text of one sign, n times -/
theorem op_mulStr : OpR X (binaryOp .Mult) (fun x y H Q => ∃ a i, x = .str a ∧ y = .int i ∧ MulOk a i ∧ Q (.str (Txt.mul a i)) H) := by
  intro pins s σ H x y v u Q I rx ry h
  obtain ⟨a, i, rfl, rfl, hm, q⟩ := h
  obtain ⟨t, rfl⟩ := rx
  obtain ⟨t', rfl⟩ := ry
  exact SB.mul hm fun t' k => ⟨.str _, H, I.tok _, ⟨_, rfl⟩, q⟩
abbrev rAddI : R2 := rI0 fun i j => .int (i + j)
abbrev rSubI : R2 := rI0 fun i j => .int (i - j)
abbrev rMulW : R2 := rI CMulW fun i j => .int (i * j)
abbrev rFdX : R2 := rI CDivX fun i j => .int (i.fdiv j)
abbrev rModP : R2 := rI (fun _ j => 0 < j) fun i j => .int (i % j)
abbrev rModN : R2 := rI (fun _ j => j ≠ 0) fun i j => .int (i.fmod j)
abbrev rLtI : R2 := rI0 fun i j => .bl (decide (i < j))
abbrev rLeI : R2 := rI0 fun i j => .bl (decide (i ≤ j))
abbrev rGtI : R2 := rI0 fun i j => .bl (decide (j < i))
abbrev rGeI : R2 := rI0 fun i j => .bl (decide (j ≤ i))
abbrev rNegI : V → Hp → VK → Prop := rU fun i => .int (-i)
abbrev rAddS : R2 := fun x y H Q => ∃ i j, x = .str i ∧ y = .str j ∧ i.length + j.length ≤ sizeLine ∧ Q (.str (i ++ j)) H
end
end TL
/-! Fractions: Python's reduction by the gcd against core's Rat; Euclid's steps by Fibonacci numbers. -/
namespace TL
/-- the divisor with the denominator's sign -/
def gsg (n d : Int) : Int := if d < 0 then -((Nat.gcd n.natAbs d.natAbs : Nat) : Int) else ((Nat.gcd n.natAbs d.natAbs : Nat) : Int)
theorem gcd_pos {n d : Int} (h : d ≠ 0) : 0 < Nat.gcd n.natAbs d.natAbs := Nat.gcd_pos_of_pos_right _ (Int.natAbs_pos.mpr h)
theorem gsg_ne {n d : Int} (h : d ≠ 0) : gsg n d ≠ 0 := by
  have := gcd_pos (n := n) h
  unfold gsg
  split <;> omega
theorem gsg_abs {n d : Int} : (gsg n d).natAbs = Nat.gcd n.natAbs d.natAbs := by
  unfold gsg
  split <;> simp
theorem gsg_le {n d : Int} (h : d ≠ 0) : (gsg n d).natAbs ≤ d.natAbs := by
  rw [gsg_abs]
  exact Nat.gcd_le_right _ (Int.natAbs_pos.mpr h)
theorem icg (n d : Int) : (Int.gcd d n : Int) = ((Nat.gcd n.natAbs d.natAbs : Nat) : Int) := by
  rw [Int.gcd_eq_natAbs_gcd_natAbs, Nat.gcd_comm]
theorem num_rq {n d : Int} (h : d ≠ 0) : n.fdiv (gsg n d) = (Rat.divInt n d).num := by
  have hp := gcd_pos (n := n) h
  obtain ⟨x, hx⟩ : ((Nat.gcd n.natAbs d.natAbs : Nat) : Int) ∣ n := by
    exact Int.ofNat_dvd_left.mpr (Nat.gcd_dvd_left _ _)
  rw [Rat.num_divInt, icg]
  unfold gsg
  generalize hg : Nat.gcd n.natAbs d.natAbs = g at *
  by_cases hd : d < 0
  · rw [if_pos hd, Int.sign_eq_neg_one_of_neg hd]
    have e : n = (-(g : Int)) * (-x) := by rw [hx]; simp [Int.neg_mul_neg]
    have e2 : -1 * n = (g : Int) * (-x) := by rw [hx]; simp [Int.mul_neg]
    rw [e2, Int.mul_ediv_cancel_left _ (by omega)]
    conv => lhs; rw [e]
    exact Int.mul_fdiv_cancel_left _ (by omega)
  · rw [if_neg hd, Int.sign_eq_one_of_pos (by omega), Int.one_mul]
    conv => rhs; rw [hx]
    rw [Int.mul_ediv_cancel_left _ (by omega)]
    conv => lhs; rw [hx]
    exact Int.mul_fdiv_cancel_left _ (by omega)
theorem den_rq {n d : Int} (h : d ≠ 0) : d.fdiv (gsg n d) = ((Rat.divInt n d).den : Int) := by
  have hp := gcd_pos (n := n) h
  obtain ⟨x, hx⟩ : ((Nat.gcd n.natAbs d.natAbs : Nat) : Int) ∣ d := by
    exact Int.ofNat_dvd_left.mpr (Nat.gcd_dvd_right _ _)
  rw [Rat.den_divInt, if_neg h]
  have hi : Int.gcd d n = Nat.gcd n.natAbs d.natAbs := by rw [Int.gcd_eq_natAbs_gcd_natAbs, Nat.gcd_comm]
  rw [hi]
  unfold gsg
  generalize hg : Nat.gcd n.natAbs d.natAbs = g at *
  by_cases hd : d < 0
  · rw [if_pos hd]
    have hx0 : x < 0 := by
      rcases Int.lt_or_le x 0 with q | q
      · exact q
      · have := Int.mul_nonneg (a := (g : Int)) (b := x) (by omega) q
        omega
    have e : d = (-(g : Int)) * (-x) := by rw [hx]; simp [Int.neg_mul_neg]
    have e2 : d.natAbs = g * x.natAbs := by rw [hx, Int.natAbs_mul]; simp
    rw [e2, Nat.mul_div_cancel_left _ hp]
    conv => lhs; rw [e]
    rw [Int.mul_fdiv_cancel_left _ (by omega)]
    omega
  · rw [if_neg hd]
    have hx0 : 0 ≤ x := by
      rcases Int.lt_or_le x 0 with q | q
      · have := Int.mul_neg_of_pos_of_neg (a := (g : Int)) (b := x) (by omega) q
        omega
      · exact q
    have e2 : d.natAbs = g * x.natAbs := by rw [hx, Int.natAbs_mul]; simp
    rw [e2, Nat.mul_div_cancel_left _ hp]
    conv => lhs; rw [hx]
    rw [Int.mul_fdiv_cancel_left _ (by omega)]
    omega
/-! ### Euclid -/
def euc : Nat → Nat → Nat → Nat
  | 0, a, _ => a
  | n + 1, a, b => if b = 0 then a else euc n b (a % b)
def fib : Nat → Nat × Nat
  | 0 => (0, 1)
  | n + 1 => ((fib n).2, (fib n).1 + (fib n).2)
theorem fib_step (n : Nat) : (fib (n + 2)).1 = (fib n).1 + (fib (n + 1)).1 := rfl
theorem euc_good : ∀ (n a b : Nat), b < a → (b < (fib (n + 2)).1 ∨ a < (fib (n + 3)).1) → euc n a b = Nat.gcd a b
  | 0, a, b, h, k => by
    have k' : b < 1 ∨ a < 2 := k
    have : b = 0 := by omega
    subst this
    simp [euc]
  | n + 1, a, b, h, k => by
    have k' : b < (fib (n + 3)).1 ∨ a < (fib (n + 4)).1 := k
    unfold euc
    by_cases hb : b = 0
    · rw [if_pos hb, hb]; simp
    · rw [if_neg hb]
      have hr : a % b < b := Nat.mod_lt _ (by omega)
      rw [euc_good n b (a % b) hr ?_]
      · rw [Nat.gcd_comm b (a % b), ← Nat.gcd_rec, Nat.gcd_comm]
      · rcases Nat.lt_or_ge b (fib (n + 3)).1 with q | q
        · exact .inr q
        · left
          have e4 : (fib (n + 4)).1 = (fib (n + 2)).1 + (fib (n + 3)).1 := rfl
          have h4 : a < (fib (n + 4)).1 := by rcases k' with k' | k' <;> omega
          have := Nat.mod_eq_sub_mod (Nat.le_of_lt h)
          have h5 : (a - b) % b ≤ a - b := Nat.mod_le _ _
          omega
theorem euc_gcd {n a b : Nat} (h : b < (fib (n + 3)).1) : euc (n + 1) a b = Nat.gcd a b := by
  unfold euc
  by_cases hb : b = 0
  · rw [if_pos hb, hb]; simp
  · rw [if_neg hb, euc_good n b (a % b) (Nat.mod_lt _ (by omega)) (.inr h)]
    rw [Nat.gcd_comm b (a % b), ← Nat.gcd_rec, Nat.gcd_comm]
theorem fib402 : 10 ^ 80 < (fib 402).1 := by decide +kernel
theorem euc400 {a b : Nat} (h : b ≤ 10 ^ 80) : euc 400 a b = Nat.gcd a b := euc_gcd (n := 399) (Nat.lt_of_le_of_lt h fib402)
/-! ### the arithmetic of divInt -/
theorem rq_neg (n d : Int) : -(Rat.divInt n d) = Rat.divInt (-n) d := Rat.neg_divInt n d
theorem rat_eq {p q : Rat} (h : p.num = q.num) (k : p.den = q.den) : p = q := Rat.ext h k
theorem rat_add (p q : Rat) : Rat.divInt (p.num * q.den + q.num * p.den) (p.den * q.den) = p + q := by
  conv => rhs; rw [← Rat.num_divInt_den p, ← Rat.num_divInt_den q]
  rw [Rat.divInt_add_divInt _ _ (by have := p.den_nz; omega) (by have := q.den_nz; omega)]
theorem rat_sub (p q : Rat) : Rat.divInt (p.num * q.den - q.num * p.den) (p.den * q.den) = p - q := by
  conv => rhs; rw [← Rat.num_divInt_den p, ← Rat.num_divInt_den q]
  rw [Rat.divInt_sub_divInt _ _ (by have := p.den_nz; omega) (by have := q.den_nz; omega)]
theorem rat_mul (p q : Rat) : Rat.divInt (p.num * q.num) (p.den * q.den) = p * q := by
  conv => rhs; rw [← Rat.num_divInt_den p, ← Rat.num_divInt_den q]
  rw [Rat.divInt_mul_divInt]
theorem rat_div (p q : Rat) : Rat.divInt (p.num * q.den) (p.den * q.num) = p / q := by
  conv => rhs; rw [← Rat.num_divInt_den p, ← Rat.num_divInt_den q]
  rw [Rat.div_def, Rat.inv_divInt, Rat.divInt_mul_divInt]
theorem rat_neg (p : Rat) : Rat.divInt (-p.num) p.den = -p := by
  conv => rhs; rw [← Rat.num_divInt_den p]
  rw [Rat.neg_divInt]
end TL
/-! Written fractions as lists of signs. -/
namespace TLX
open PySem TL
/-! ### numbers -/
def ri (n : Int) : Str := Str.ofString (toString n)
def intL (n : Int) : List Nat := if n < 0 then 45 :: numL n.natAbs else numL n.natAbs
theorem tl_ri (n : Int) : tl (ri n) = intL n := by
  unfold ri intL
  by_cases h : n < 0
  · rw [if_pos h, PyProof.Rows.toString_neg h, tl_ofString, String.toList_append, List.map_append]
    have e : (0 : Int) - n = ((n.natAbs : Nat) : Int) := by omega
    rw [e, ← tl_ofString (toString ((n.natAbs : Nat) : Int)), tl_num]
    rfl
  · rw [if_neg h]
    conv => lhs; rw [show n = ((n.natAbs : Nat) : Int) by omega]
    rw [tl_num]
theorem intL_inj {m n : Int} (h : intL m = intL n) : m = n := by
  unfold intL at h
  by_cases h1 : m < 0
  · rw [if_pos h1] at h
    by_cases h2 : n < 0
    · rw [if_pos h2] at h
      have := numL_inj (List.cons.inj h).2
      omega
    · rw [if_neg h2] at h
      exact absurd (show 45 ∈ numL n.natAbs by rw [← h]; exact List.mem_cons_self) (numL_free (.inl (by decide)))
  · rw [if_neg h1] at h
    by_cases h2 : n < 0
    · rw [if_pos h2] at h
      exact absurd (show 45 ∈ numL m.natAbs by rw [h]; exact List.mem_cons_self) (numL_free (.inl (by decide)))
    · rw [if_neg h2] at h
      have := numL_inj h
      omega
theorem intL_free {n : Int} : 47 ∉ intL n := by
  unfold intL
  split
  · intro h
    rcases List.mem_cons.mp h with h | h
    · exact absurd h (by decide)
    · exact numL_free (.inl (by decide)) h
  · exact numL_free (.inl (by decide))
theorem intL_len {n : Int} {k : Nat} (hk : 0 < k) (h : n.natAbs < 10 ^ k) : (intL n).length ≤ k + 1 := by
  have := numL_len hk h
  unfold intL
  split
  · rw [List.length_cons]; omega
  · omega
theorem digitsVal_lt : ∀ (l : List Nat), NumText.AllDigits l → NumText.digitsVal l < 10 ^ l.length := by
  have key : ∀ (l : List Nat) (a : Nat), NumText.AllDigits l → l.foldl (fun acc c => acc * 10 + (c - 48)) a < (a + 1) * 10 ^ l.length := by
    intro l
    induction l with
    | nil => intro a _; simp
    | cons c r ih =>
      intro a h
      have hc := h.head
      rw [List.foldl_cons, List.length_cons]
      refine Nat.lt_of_lt_of_le (ih _ h.tail) ?_
      rw [Nat.pow_succ, Nat.mul_comm (10 ^ r.length) 10, ← Nat.mul_assoc]
      exact Nat.mul_le_mul_right _ (by omega)
  intro l h
  have := key l 0 h
  simpa [NumText.digitsVal] using this
theorem numL_lt_of_len {n k : Nat} (h : (numL n).length ≤ k) : n < 10 ^ k := by
  have := digitsVal_lt (numL n) (numL_digits n)
  rw [numL_val] at this
  exact Nat.lt_of_lt_of_le this (Nat.pow_le_pow_right (by decide) h)
/-! ### cutting at the bar -/
theorem slash : ("/" : Str) = ⟨#[47]⟩ := by decide +kernel
theorem dash : ("-" : Str) = ⟨#[45]⟩ := by decide +kernel
theorem at47 (x : Str) (i : Nat) : StrLaws.At x ⟨#[47]⟩ x.length i ↔ (tl x)[i]? = some 47 := StrLaws.subAt_one x 47 i
theorem part_no {x : Str} (h : 47 ∉ tl x) : Txt.partition x "/" = (x, Str.empty, Str.empty) := by
  rw [slash]
  rcases PyProof.Rows.partition_whole x ⟨#[47]⟩ with ⟨e, _⟩ | ⟨i, _, hi, _⟩
  · exact e
  · exact absurd (List.mem_iff_getElem?.mpr ⟨i, (at47 x i).mp hi⟩) h
theorem part_at {x : Str} {u v : List Nat} (h : tl x = u ++ 47 :: v) (hu : 47 ∉ u) : tl (Txt.partition x "/").1 = u ∧ (Txt.partition x "/").2.1 = "/" ∧ tl (Txt.partition x "/").2.2 = v := by
  have hx : (tl x)[u.length]? = some 47 := by rw [h]; simp
  rw [slash]
  rcases PyProof.Rows.partition_whole x ⟨#[47]⟩ with ⟨_, hn⟩ | ⟨i, e, hi, hlt⟩
  · exact absurd ((at47 x _).mpr hx) (hn _)
  · have hi' := (at47 x i).mp hi
    have ei : i = u.length := by
      rcases Nat.lt_trichotomy i u.length with q | q | q
      · rw [h, List.getElem?_append_left q] at hi'
        exact absurd (List.mem_iff_getElem?.mpr ⟨i, hi'⟩) hu
      · exact q
      · exact absurd ((at47 x _).mpr hx) (hlt _ q)
    subst ei
    rw [e]
    refine ⟨?_, rfl, ?_⟩
    · show tl (Builtin.Str.strSub x 0 u.length) = u
      rw [tl_strSub, h]; simp
    · show tl (Builtin.Str.strSub x (u.length + 1) x.length) = v
      rw [tl_strSub_end, h]
      rw [List.drop_append]
      simp
def dropMinus : List Nat → List Nat
  | 45 :: r => r
  | l => l
theorem tl_rmp (x : Str) : tl (Txt.removeprefix x "-") = dropMinus (tl x) := by
  rw [dash, StrLaws.removeprefix_eq]
  have hs : Builtin.Str.subAt x ⟨#[45]⟩ 0 = true ↔ (tl x)[0]? = some 45 := ⟨fun q => (StrLaws.subAt_one x 45 0).mp ⟨by
      have := q
      unfold Builtin.Str.subAt at this
      have z := congrArg Array.size (beq_iff_eq.mp this)
      have e1 : (⟨#[45]⟩ : Str).length = 1 := rfl
      rw [e1] at z ⊢
      simp at z
      show 0 + 1 ≤ x.cps.size
      omega, q⟩, fun q => ((StrLaws.subAt_one x 45 0).mpr q).2⟩
  have hl := len_tl x
  have e1 : (⟨#[45]⟩ : Str).length = 1 := rfl
  rw [e1]
  cases hx : tl x with
  | nil =>
    rw [if_neg (by rw [hl, hx]; simp)]
    rw [hx]; rfl
  | cons c r =>
    by_cases hc : c = 45
    · subst hc
      rw [if_pos (by rw [Bool.and_eq_true]; exact ⟨decide_eq_true (by rw [hl, hx]; simp), hs.mpr (by rw [hx]; rfl)⟩)]
      show ((tl x).drop 1).take _ = r
      rw [hx, hl, hx]
      simp
    · rw [if_neg (by
        intro q
        rw [Bool.and_eq_true] at q
        have := hs.mp q.2
        rw [hx] at this
        exact hc (Option.some.inj this))]
      rw [hx]
      unfold dropMinus
      split
      · rename_i r' e
        exact absurd (List.cons.inj e).1 hc
      · rfl

/-! ### digits -/
def isDg (c : Nat) : Bool := decide (48 ≤ c) && decide (c ≤ 57)
def dig (l : List Nat) : Bool := decide (1 ≤ l.length) && decide (l.length ≤ 60) && l.all isDg
theorem dig_iff {l : List Nat} : dig l = true ↔ 1 ≤ l.length ∧ l.length ≤ 60 ∧ NumText.AllDigits l := by
  unfold dig
  rw [Bool.and_eq_true, Bool.and_eq_true, decide_eq_true_eq, decide_eq_true_eq, List.all_eq_true]
  have e : (∀ c ∈ l, isDg c = true) ↔ NumText.AllDigits l := ⟨fun h c hc => by
      have := h c hc
      unfold isDg at this
      rw [Bool.and_eq_true, decide_eq_true_eq, decide_eq_true_eq] at this
      exact this, fun h c hc => by
      have := h c hc
      unfold isDg
      rw [Bool.and_eq_true, decide_eq_true_eq, decide_eq_true_eq]
      exact this⟩
  rw [e, and_assoc]
/-! ### written fractions -/
def rL (q : Rat) : List Nat := if q.den = 1 then intL q.num else intL q.num ++ 47 :: numL q.den
def Wr (cs : List Nat) (q : Rat) : Prop := rL q = cs ∧ q.num.natAbs < 10 ^ 60 ∧ q.den < 10 ^ 60
def topL (cs : List Nat) : List Nat := cs.takeWhile (· != 47)
def botL (cs : List Nat) : List Nat := match cs.dropWhile (· != 47) with
  | [] => [49]
  | _ :: r => r
def okL (cs : List Nat) : Bool := dig (dropMinus (topL cs)) && dig (botL cs) && (NumText.digitsVal (botL cs) != 0)
def intOf : List Nat → Int
  | 45 :: r => -((NumText.digitsVal r : Nat) : Int)
  | l => ((NumText.digitsVal l : Nat) : Int)
theorem dropMinus_intL (n : Int) : dropMinus (intL n) = numL n.natAbs := by
  unfold intL
  split
  · rfl
  · unfold dropMinus
    split
    · rename_i r e
      exact absurd (show 45 ∈ numL n.natAbs by rw [e]; exact List.mem_cons_self) (numL_free (.inl (by decide)))
    · rfl
theorem intOf_intL (n : Int) : intOf (intL n) = n := by
  unfold intL
  by_cases h : n < 0
  · rw [if_pos h]
    show -((NumText.digitsVal (numL n.natAbs) : Nat) : Int) = n
    rw [numL_val]; omega
  · rw [if_neg h]
    unfold intOf
    split
    · rename_i r e
      exact absurd (show 45 ∈ numL n.natAbs by rw [e]; exact List.mem_cons_self) (numL_free (.inl (by decide)))
    · rw [numL_val]; omega
theorem dropMinus_val (l : List Nat) : (intOf l).natAbs = NumText.digitsVal (dropMinus l) := by
  unfold intOf dropMinus
  split <;> simp
theorem takeW_free {u v : List Nat} (hu : 47 ∉ u) : (u ++ 47 :: v).takeWhile (· != 47) = u ∧ (u ++ 47 :: v).dropWhile (· != 47) = 47 :: v := by
  induction u with
  | nil => exact ⟨rfl, rfl⟩
  | cons c r ih =>
    have hc : c ≠ 47 := fun e => hu (by rw [e]; exact List.mem_cons_self)
    have hr : 47 ∉ r := fun e => hu (List.mem_cons_of_mem _ e)
    have hb : (c != 47) = true := by simpa using hc
    rw [List.cons_append, List.takeWhile_cons, List.dropWhile_cons, if_pos hb, if_pos hb]
    exact ⟨congrArg _ (ih hr).1, (ih hr).2⟩
theorem takeW_all {u : List Nat} (hu : 47 ∉ u) : u.takeWhile (· != 47) = u ∧ u.dropWhile (· != 47) = [] := by
  induction u with
  | nil => exact ⟨rfl, rfl⟩
  | cons c r ih =>
    have hc : c ≠ 47 := fun e => hu (by rw [e]; exact List.mem_cons_self)
    have hr : 47 ∉ r := fun e => hu (List.mem_cons_of_mem _ e)
    have hb : (c != 47) = true := by simpa using hc
    rw [List.takeWhile_cons, List.dropWhile_cons, if_pos hb, if_pos hb]
    exact ⟨congrArg _ (ih hr).1, (ih hr).2⟩
theorem top_rL (q : Rat) : topL (rL q) = intL q.num ∧ botL (rL q) = numL q.den := by
  unfold topL botL rL
  by_cases h : q.den = 1
  · rw [if_pos h]
    have e := takeW_all (u := intL q.num) intL_free
    rw [e.1, e.2, h]
    exact ⟨rfl, by decide +kernel⟩
  · rw [if_neg h]
    have e := takeW_free (u := intL q.num) (v := numL q.den) intL_free
    rw [e.1, e.2]
    exact ⟨rfl, rfl⟩
theorem numL_pos (n : Nat) : 1 ≤ (numL n).length := by
  have := numL_ne n
  cases h : numL n with
  | nil => exact absurd h this
  | cons c r => simp
theorem wr_ok {cs : List Nat} {q : Rat} (h : Wr cs q) : okL cs = true ∧ Rat.divInt (intOf (topL cs)) ((NumText.digitsVal (botL cs) : Nat) : Int) = q := by
  obtain ⟨rfl, h1, h2⟩ := h
  obtain ⟨e1, e2⟩ := top_rL q
  refine ⟨?_, ?_⟩
  · unfold okL
    rw [e1, e2, dropMinus_intL, numL_val, Bool.and_eq_true, Bool.and_eq_true, dig_iff, dig_iff]
    refine ⟨⟨⟨numL_pos _, numL_len (by decide) h1, numL_digits _⟩, numL_pos _, numL_len (by decide) h2, numL_digits _⟩, ?_⟩
    have := q.den_nz
    simpa using this
  · rw [e1, e2, intOf_intL, numL_val, Rat.num_divInt_den]
theorem den_le {n : Int} {d : Nat} (h : d ≠ 0) : (Rat.divInt n d).den ≤ d ∧ (Rat.divInt n d).num.natAbs ≤ n.natAbs := by
  have hd : (d : Int) ≠ 0 := by omega
  refine ⟨?_, ?_⟩
  · rw [Rat.den_divInt, if_neg hd]
    exact Nat.le_trans (Nat.div_le_self _ _) (by omega)
  · rw [Rat.num_divInt, Int.sign_eq_one_of_pos (by omega), Int.one_mul, Int.natAbs_ediv_of_dvd (Int.gcd_dvd_right _ _)]
    exact Nat.div_le_self _ _
theorem ok_wr {cs : List Nat} (h : okL cs = true) (e : rL (Rat.divInt (intOf (topL cs)) ((NumText.digitsVal (botL cs) : Nat) : Int)) = cs) : Wr cs (Rat.divInt (intOf (topL cs)) ((NumText.digitsVal (botL cs) : Nat) : Int)) := by
  unfold okL at h
  rw [Bool.and_eq_true, Bool.and_eq_true, dig_iff, dig_iff] at h
  obtain ⟨⟨⟨a1, a2, a3⟩, b1, b2, b3⟩, c⟩ := h
  have c' : NumText.digitsVal (botL cs) ≠ 0 := by simpa using c
  obtain ⟨k1, k2⟩ := den_le (n := intOf (topL cs)) c'
  refine ⟨e, Nat.lt_of_le_of_lt k2 ?_, Nat.lt_of_le_of_lt k1 ?_⟩
  · rw [dropMinus_val]
    exact Nat.lt_of_lt_of_le (digitsVal_lt _ a3) (Nat.pow_le_pow_right (by decide) a2)
  · exact Nat.lt_of_lt_of_le (digitsVal_lt _ b3) (Nat.pow_le_pow_right (by decide) b2)
end TLX
namespace TL
open PySem PySem.Spec PyProof.Rows L2
def top (i : Nat) : Stmt := PySem.Challenge.pw_tablelaws_k86_fractions.main.body.getD i (.Pass ⟨0, 0, 0, 0⟩)
theorem p0 {X : Cx} : ∀ σ, PassesAt (L2.CX X.prog X.w) X σ ((fun _ => E0 : L2.St → XK) σ) := fun σ pins H s e s' I h => passL pins σ H s e s' I h

/-- where the fractions' class, its defs and its errors stand -/
structure RA where
  C : Addr
  CT : Addr
  CZ : Addr
  CN : Addr
  fInit : Addr
  fStr : Addr
  fEq : Addr
  fBool : Addr
  fAdd : Addr
  fSub : Addr
  fMul : Addr
  fDiv : Addr
  fNeg : Addr
  fPow : Addr
  fDig : Addr
  fRead : Addr
  pRead : Addr
abbrev bmV : List Value := [.type "ValueError", .type "Exception", .type "BaseException", .type "object"]
structure RT (K : PySem.W.Frag) (mg : Str → Option Value) (a : RA) : Prop where
  m_Ratio : mg "Ratio" = some (.ref a.C)
  c_Ratio : Cls K a.C
  nn : NoAttr K a.C "num"
  nd : NoAttr K a.C "den"
  mk_Ratio : Mk K a.C a.fInit
  sf_Ratio : PySem.W.selfFirst K a.C = true
  nf_Ratio : PySem.W.notFirst K a.C (.ref a.C) = true
  me_Ratio_add : Meth K a.C (PySem.dunder Operator.Add.info.2) a.fAdd
  me_Ratio_sub : Meth K a.C (PySem.dunder Operator.Sub.info.2) a.fSub
  me_Ratio_mul : Meth K a.C (PySem.dunder Operator.Mult.info.2) a.fMul
  me_Ratio_floordiv : Meth K a.C (PySem.dunder Operator.FloorDiv.info.2) a.fDiv
  me_Ratio_neg : Meth K a.C "__neg__" a.fNeg
  me_Ratio_eq : Meth K a.C "__eq__" a.fEq
  me_Ratio_bool : Meth K a.C "__bool__" a.fBool
  me_Ratio_str : Meth K a.C "__str__" a.fStr
  me_Ratio_power : Meth K a.C "power" a.fPow
  rd_Ratio : ClX.CRead K a.C (.type "type")
  cm_Ratio_read : ClX.CMet K a.C (.type "type") "read" a.pRead a.fRead
  isC : PySem.W.kitOne K (.ref a.C) (.ref a.C) = some true
  tyC : ∀ (H : Hp) (p dx : Addr) (fs : List (Str × V)), H p = some (.ins a.C dx fs) → TyX K H (.ref p) (.ref a.C)
  m_are_digits : mg "_are_digits" = some (.ref a.fDig)
  k_are_digits : PySem.W.keepIn K (.ref a.fDig) = true
  g_MOST_DIGITS : ∃ t, mg "MOST_DIGITS" = some (.int 60 t)
  g_gcd : mg "gcd" = some (.builtin "math.gcd")
  n_int : mg "int" = none
  n_bool : mg "bool" = none
  n_str : mg "str" = none
  n_len : mg "len" = none
  n_all : mg "all" = none
  n_abs : mg "abs" = none
  n_range : mg "range" = none
  n_isinstance : mg "isinstance" = none
  m_ZeroDivisor : mg "ZeroDivisor" = some (.ref a.CZ)
  x_ZeroDivisor : PySem.W.excIn K a.CZ bmV "ValueError.__new__" = true
  k_ZeroDivisor : PySem.W.keepIn K (.ref a.CZ) = true
  b_ZeroDivisor : PySem.W.subIn K (.ref a.CZ) (.type "BaseException") = some true
  t_ZeroDivisor : PySem.W.typeIn K (.ref a.CZ) = some (.type "type")
  m_InvalidNumber : mg "InvalidNumber" = some (.ref a.CN)
  x_InvalidNumber : PySem.W.excIn K a.CN bmV "ValueError.__new__" = true
  k_InvalidNumber : PySem.W.keepIn K (.ref a.CN) = true
  b_InvalidNumber : PySem.W.subIn K (.ref a.CN) (.type "BaseException") = some true
  t_InvalidNumber : PySem.W.typeIn K (.ref a.CN) = some (.type "type")

/-! ### fractions in the heap -/
def rf (q : Rat) : List (Str × V) := putF "den" (.int q.den) (putF "num" (.int q.num) [])
def RatAt (C : Addr) (H : Hp) (v : V) (q : Rat) : Prop := ∃ a dx, v = .ref a ∧ H a = some (.ins C dx (rf q))
theorem nd_ne : ¬ (("num" : Str) = "den") := by decide +kernel
theorem rf_num (q : Rat) : (rf q).lookup ("num" : Str) = some (.int q.num) := by
  unfold rf
  rw [lookup_putF, if_neg nd_ne, lookup_putF, if_pos rfl]
theorem rf_den (q : Rat) : (rf q).lookup ("den" : Str) = some (.int q.den) := by
  unfold rf
  rw [lookup_putF, if_pos rfl]
theorem rf_no (q : Rat) {m : Str} (h1 : ¬ m = "den") (h2 : ¬ m = "num") : (rf q).lookup m = none := by
  unfold rf
  rw [lookup_putF, if_neg h1, lookup_putF, if_neg h2]
  rfl
theorem RatAt.same {C : Addr} {H H' : Hp} {v : V} {q : Rat} (h : RatAt C H v q) (s : Same H H') : RatAt C H' v q := by
  obtain ⟨a, dx, e, ha⟩ := h
  exact ⟨a, dx, e, s _ _ ha⟩
theorem RatAt.ins {C : Addr} {H : Hp} {v : V} {q : Rat} (h : RatAt C H v q) : IsIns C H v := by
  obtain ⟨a, dx, e, ha⟩ := h
  exact ⟨a, dx, _, e, ha⟩
/-- what is wanted of any value of a kind, on a heap that has only grown -/
def Wn (H : Hp) (Q : VK) (P : V → Hp → Prop) : Prop := ∀ v H', Same H H' → P v H' → Q v H'
/-- numerator and denominator of less than n bits -/
def Sm (n : Nat) (q : Rat) : Prop := q.num.natAbs < 2 ^ n ∧ q.den < 2 ^ n

/-! ### the promises -/
/-- Ratio.__init__(x, n, d) -/
def spInit (a : RA) : Sp := fun vs H Q E => ∃ (x dx : Addr) (n d : Int), vs = [.ref x, .int n, .int d] ∧ H x = some (.ins a.C dx []) ∧
  (d = 0 → E (.ref a.CZ) none H) ∧ (d ≠ 0 → d.natAbs < 2 ^ 9000 ∧ Q .non (upd H x (.ins a.C dx (rf (Rat.divInt n d)))))
/-- Ratio(n, d) -/
def spMkR (a : RA) : Sp := fun vs H Q E => ∃ n d : Int, vs = [.int n, .int d] ∧ (d = 0 → ∀ H', Same H H' → E (.ref a.CZ) none H') ∧ (d ≠ 0 → d.natAbs < 2 ^ 9000 ∧ Wn H Q fun v H' => RatAt a.C H' v (Rat.divInt n d))
/-- Ratio(n) -/
def spMkR1 (a : RA) : Sp := fun vs H Q _ => ∃ n : Int, vs = [.int n] ∧ Wn H Q fun v H' => RatAt a.C H' v (n : Rat)
def spBin (a : RA) (f : Rat → Rat → Rat) : Sp := fun vs H Q _ => ∃ x y p q, vs = [x, y] ∧ RatAt a.C H x p ∧ RatAt a.C H y q ∧ Sm 4000 p ∧ Sm 4000 q ∧ Wn H Q fun v H' => RatAt a.C H' v (f p q)
def spDivR (a : RA) : Sp := fun vs H Q E => ∃ x y p q, vs = [x, y] ∧ RatAt a.C H x p ∧ RatAt a.C H y q ∧ Sm 4000 p ∧ Sm 4000 q ∧ (q = 0 → ∀ H', Same H H' → E (.ref a.CZ) none H') ∧ (q ≠ 0 → Wn H Q fun v H' => RatAt a.C H' v (p / q))
def spNegR (a : RA) : Sp := fun vs H Q _ => ∃ x p, vs = [x] ∧ RatAt a.C H x p ∧ Sm 4000 p ∧ Wn H Q fun v H' => RatAt a.C H' v (-p)
def spEqR (a : RA) : Sp := fun vs H Q _ => ∃ x y p q, vs = [x, y] ∧ RatAt a.C H x p ∧ RatAt a.C H y q ∧ Q (.bl (decide (p = q))) H
def spBoolR (a : RA) : Sp := fun vs H Q _ => ∃ x p, vs = [x] ∧ RatAt a.C H x p ∧ Q (.bl (decide (p ≠ 0))) H

/-! ### the text by places -/
abbrev s_Ratio__init : Stmt := inClass (top 7) 0
abbrev n_Ratio__init : List Str := ["self", "num", "den", "divisor"]
abbrev p_Ratio__init : List Str := ["self", "num", "den"]
theorem sc_Ratio__init : FnScope n_Ratio__init p_Ratio__init (defScope s_Ratio__init) := ⟨rfl, rfl, rfl, by decide +kernel, rfl, by decide +kernel, by decide +kernel⟩
section
variable {P : Program} {w : World} {K : PySem.W.Frag} {mg : Str → Option Value} {base : Heap} {a : RA}
/-- self.num = num // divisor; self.den = den // divisor, divisor in slot 3 -/
def sTail (K : PySem.W.Frag) (a : RA) (x dx : Addr) (n d g : Int) (H : Hp) (Q : VK) : Prop :=
  tSeq (sFld K (tVar 0) (tOp rFdX (tVar 1) (tVar 3)) "num") (sFld K (tVar 0) (tOp rFdX (tVar 2) (tVar 3)) "den") { nx := fun _ H' => Q .non H', rt := Q } [some (.ref x), some (.int n), some (.int d), some (.int g)] H
theorem ok_init {fd : FuncData} (F : FunD K "__init__" "Ratio.__init__" (defArgs s_Ratio__init) (defBody s_Ratio__init) (defScope s_Ratio__init) [V.int 1] [] a.fInit fd) (T : RT K mg a) : FnOk P w K mg base (L2.CX P w) 1 a.fInit fd p_Ratio__init (spInit a) := by
  refine F.ok sc_Ratio__init (fun vs H Q E h => ?_) (fun cdv A outer s H vs Q E hr h => ?_)
  · obtain ⟨x, dx, n, d, rfl, _⟩ := h
    rfl
  · obtain ⟨x, dx, n, d, rfl, hx, k0, k1⟩ := h
    refine ⟨_, (pss_cons (ps_if (pt_cmpR op_eq (pv 2) pe_int (nomark _)) (pss_one (ps_raise rfl (takes_of rfl rfl rfl rfl) (pmk_ownA PySem.F.excBase_ValueError T.x_ZeroDivisor T.m_ZeroDivisor T.k_ZeroDivisor (raises_own T.b_ZeroDivisor T.t_ZeroDivisor) rfl (pa_cons pe_str pa_nil)))) pss_nil)
      (pss_cons (ps_set (i := 3) sc_Ratio__init.nd rfl (Or.inl rfl) (pe_callBfun cr_gcd rfl T.g_gcd (pa_cons (pv 1) (pa_cons (pv 2) pa_nil))))
      (pss_cons (ps_if (pt_cmpR op_lt (pv 2) pe_int (nomark _)) (pss_one (ps_set (i := 3) sc_Ratio__init.nd rfl (Or.inl rfl) (pe_un un_neg (pv 3)))) pss_nil)
      (pss_cons (ps_fld (pv 0) (pe_op op_fdivX (pv 1) (pv 3)) rfl)
      (pss_one (ps_fld (pv 0) (pe_op op_fdivX (pv 2) (pv 3)) rfl)))))), ?_⟩
    refine ⟨_, rfl, rfl, _, rfl, ?_⟩
    refine ite2 (fun hd => ?_) (fun hd => ?_)
    · have hd0 : d = 0 := V.int.inj (of_decide_eq_true hd)
      exact ⟨by decide, k0 hd0⟩
    · have hd0 : d ≠ 0 := fun q => hd (by rw [q]; exact decide_eq_true rfl)
      obtain ⟨hs, k⟩ := k1 hd0
      have gl : (gsg n d).natAbs.log2 < 9000 := by
        refine (Nat.log2_lt (by have := gsg_ne (n := n) hd0; omega)).mpr (Nat.lt_of_le_of_lt (gsg_le hd0) hs)
      refine ⟨_, rfl, _, rfl, _, _, rfl, ?_⟩
      refine ⟨_, rfl, _, _, rfl, rfl, _, rfl, ?_⟩
      have fin : ∀ g : Int, g = gsg n d → sTail K a x dx n d g H Q := fun g hg => by
        subst hg
        have c : CDivX n (gsg n d) := ⟨gsg_ne hd0, gl⟩
        refine ⟨_, rfl, _, rfl, _, _, rfl, rfl, ⟨gsg_ne hd0, gl⟩, _, rfl, x, a.C, dx, [], rfl, hx, T.c_Ratio, T.nn, (by show 0 < 1000; decide), ?_⟩
        refine ⟨_, rfl, _, rfl, _, _, rfl, rfl, ⟨gsg_ne hd0, gl⟩, _, rfl, x, a.C, dx, _, rfl, upd_same, T.c_Ratio, T.nd, (by show 1 < 1000; decide), ?_⟩
        rw [upd_upd]
        show Q .non (upd H x (.ins a.C dx (putF "den" (.int (d.fdiv (gsg n d))) (putF "num" (.int (n.fdiv (gsg n d))) []))))
        rw [num_rq hd0, den_rq hd0]
        exact k
      refine ite2 (fun hn => ?_) (fun hn => ?_)
      · have hn0 : d < 0 := of_decide_eq_true hn
        refine ⟨_, rfl, _, rfl, ?_⟩
        exact fin _ (by unfold gsg; rw [if_pos hn0])
      · have hn0 : ¬ d < 0 := fun q => hn (decide_eq_true q)
        exact fin _ (by unfold gsg; rw [if_neg hn0])

theorem CalS.imp {X : Cx} {k : Nat} {u : Value} {r r' : RS} (c : CalS X k u r) (h : ∀ σ vs H Q, r' σ vs H Q → r σ vs H Q) : CalS X k u r' := fun A pins s σ H vs us Q hr hA I rv q => c A pins s σ H vs us Q hr hA I rv (h σ vs H Q q)
/-- what is new does not matter to what stood -/
theorem same_made {C x dx : Addr} {H : Hp} (hx : H x = none) (hd : H dx = none) {o u : HO} : Same H (upd (upd H dx o) x u) := fun b v e => by
  rw [upd_ne (ne_of_none e hx), upd_ne (ne_of_none e hd)]
  exact e
theorem same_upd {H : Hp} {x : Addr} (hx : H x = none) {o : HO} : Same H (upd H x o) := fun b v e => by
  rw [upd_ne (ne_of_none e hx)]
  exact e
/-- the promise of __init__ by its arguments, self beside -/
theorem mk_of_init {vs : List V} {H : Hp} {Q : VK} {E : XK} (h : spMkR a vs H Q E) : spMk a.C (spInit a) vs H Q E := by
  obtain ⟨n, d, rfl, h0, h1⟩ := h
  intro x dx hx hdx hne
  refine ⟨x, dx, n, d, rfl, upd_same, fun hd => ?_, fun hd => ?_⟩
  · exact h0 hd _ (same_made (C := a.C) hx hdx)
  · obtain ⟨hs, k⟩ := h1 hd
    refine ⟨hs, rfl, k _ _ ?_ ⟨x, dx, rfl, upd_same⟩⟩
    rw [upd_upd]
    exact same_made (C := a.C) hx hdx
theorem mk_of_init1 {vs : List V} {H : Hp} {Q : VK} {E : XK} (h : spMkR1 a vs H Q E) : spMk a.C (fun vs H Q E => spInit a (vs ++ [V.int 1]) H Q E) vs H Q E := by
  obtain ⟨n, rfl, k⟩ := h
  intro x dx hx hdx hne
  refine ⟨x, dx, n, 1, rfl, upd_same, fun hd => absurd hd (by decide), fun hd => ⟨by decide +kernel, rfl, k _ _ ?_ ⟨x, dx, rfl, ?_⟩⟩⟩
  · rw [upd_upd]
    exact same_made (C := a.C) hx hdx
  · have e : Rat.divInt n 1 = (n : Rat) := by
      rw [show (1 : Int) = ((1 : Nat) : Int) from rfl, Rat.divInt_ofNat]
      exact Rat.mkRat_one n
    rw [← e]
    exact upd_same
/-- the callee, at every state -/
abbrev FR (P : Program) (w : World) (K : PySem.W.Frag) (mg : Str → Option Value) (base : Heap) (k : Nat) (f : Addr) (sp : Sp) : Prop := FnR P w K mg base (L2.CX P w) k f sp
theorem init_binds {fd : FuncData} (F : FunD K "__init__" "Ratio.__init__" (defArgs s_Ratio__init) (defBody s_Ratio__init) (defScope s_Ratio__init) [V.int 1] [] a.fInit fd) :
    (∃ ds, Vals [] ds ∧ Binds K fd p_Ratio__init ds) ∧ (∃ ds, Vals [V.int 1] ds ∧ Binds K fd p_Ratio__init ds) := by
  refine ⟨?_, ?_⟩
  · exact F.binds1 3 1 (by simp) rfl fun T kV doc pm an cdv ct us its hu hi => match us, its, hu, hi with | [_, _, _], [_], _, _ => ⟨_, rfl, rfl⟩
  · exact F.binds1 2 0 (by simp) rfl fun T kV doc pm an cdv ct us its hu hi => match us, its, hu, hi with | [_, _], [_], _, _ => ⟨_, rfl, rfl⟩
theorem fr_init2 {fd : FuncData} (F : FunD K "__init__" "Ratio.__init__" (defArgs s_Ratio__init) (defBody s_Ratio__init) (defScope s_Ratio__init) [V.int 1] [] a.fInit fd) (T : RT K mg a) : FR P w K mg base 1 a.fInit (spInit a) := by
  obtain ⟨⟨ds, hv, hb⟩, _⟩ := init_binds F
  refine FnR.imp (FnOk.raw (ok_init F T) hb hv) fun vs H Q E h => ?_
  rw [List.append_nil]
  exact h
theorem fr_init1 {fd : FuncData} (F : FunD K "__init__" "Ratio.__init__" (defArgs s_Ratio__init) (defBody s_Ratio__init) (defScope s_Ratio__init) [V.int 1] [] a.fInit fd) (T : RT K mg a) : FR P w K mg base 1 a.fInit (fun vs H Q E => spInit a (vs ++ [V.int 1]) H Q E) := by
  obtain ⟨_, ds, hv, hb⟩ := init_binds F
  exact FnOk.raw (ok_init F T) hb hv
end
section
variable {X : Cx} {a : RA} {k : Nat} {E : L2.St → XK}
theorem mk_Ratio2 (T : RT X.K X.mg a) (G : FR X.prog X.w X.K X.mg X.base k a.fInit (spInit a)) (hx : ∀ σ, PassesAt (L2.CX X.prog X.w) X σ (E σ)) : CalS X (k + 1) (.ref a.C) (rSp (spMkR a) E) :=
  CalS.imp (cal_mk T.mk_Ratio G hx) fun σ vs H Q h => mk_of_init h
theorem mk_Ratio1 (T : RT X.K X.mg a) (G : FR X.prog X.w X.K X.mg X.base k a.fInit (fun vs H Q E => spInit a (vs ++ [V.int 1]) H Q E)) (hx : ∀ σ, PassesAt (L2.CX X.prog X.w) X σ (E σ)) : CalS X (k + 1) (.ref a.C) (rSp (spMkR1 a) E) :=
  CalS.imp (cal_mk T.mk_Ratio G hx) fun σ vs H Q h => mk_of_init1 h
end
end TL
namespace TL
open PySem PySem.Spec PyProof.Rows L2
/-! ### sizes -/
theorem RatAt.to {C : Addr} {H : Hp} {v : V} {p q : Rat} (h : RatAt C H v p) (e : p = q) : RatAt C H v q := by rw [← e]; exact h
theorem Sm.mono {m n : Nat} {q : Rat} (h : Sm m q) (l : m ≤ n) : Sm n q := ⟨Nat.lt_of_lt_of_le h.1 (Nat.pow_le_pow_right (by decide) l), Nat.lt_of_lt_of_le h.2 (Nat.pow_le_pow_right (by decide) l)⟩
theorem den_lt {p : Rat} {n : Nat} (h : p.den < 2 ^ n) : ((p.den : Int)).natAbs < 2 ^ n := by rw [Int.natAbs_natCast]; exact h
theorem nz_den (q : Rat) : (q.den : Int) ≠ 0 := by have := q.den_nz; omega
theorem sm_nd {p q : Rat} (hp : Sm 4000 p) (hq : Sm 4000 q) : CMulW p.num (q.den : Int) := wide_mul hp.1 (den_lt hq.2) (by decide) (by decide) (by decide)
theorem sm_dn {p q : Rat} (hp : Sm 4000 p) (hq : Sm 4000 q) : CMulW (p.den : Int) q.num := wide_mul (den_lt hp.2) hq.1 (by decide) (by decide) (by decide)
theorem sm_nn {p q : Rat} (hp : Sm 4000 p) (hq : Sm 4000 q) : CMulW p.num q.num := wide_mul hp.1 hq.1 (by decide) (by decide) (by decide)
theorem sm_dd {p q : Rat} (hp : Sm 4000 p) (hq : Sm 4000 q) : CMulW (p.den : Int) (q.den : Int) := wide_mul (den_lt hp.2) (den_lt hq.2) (by decide) (by decide) (by decide)
theorem lt9000 {x : Nat} (h : x < 2 ^ (4000 + 4000)) : x < 2 ^ 9000 := Nat.lt_of_lt_of_le h (Nat.pow_le_pow_right (by decide) (by decide))
theorem sm_dd9 {p q : Rat} (hp : Sm 4000 p) (hq : Sm 4000 q) : ((p.den : Int) * (q.den : Int)).natAbs < 2 ^ 9000 := lt9000 (wide_lt (den_lt hp.2) (den_lt hq.2))
theorem sm_dn9 {p q : Rat} (hp : Sm 4000 p) (hq : Sm 4000 q) : ((p.den : Int) * q.num).natAbs < 2 ^ 9000 := lt9000 (wide_lt (den_lt hp.2) hq.1)
theorem dd_ne (p q : Rat) : (p.den : Int) * (q.den : Int) ≠ 0 := Int.mul_ne_zero (nz_den p) (nz_den q)

abbrev s_Ratio__add : Stmt := inClass (top 7) 5
abbrev n_Ratio__add : List Str := ["self", "other"]
abbrev p_Ratio__add : List Str := ["self", "other"]
theorem sc_Ratio__add : FnScope n_Ratio__add p_Ratio__add (defScope s_Ratio__add) := ⟨rfl, rfl, rfl, by decide +kernel, rfl, by decide +kernel, by decide +kernel⟩
section
variable {P : Program} {w : World} {K : PySem.W.Frag} {mg : Str → Option Value} {base : Heap} {a : RA}
theorem ok_Ratio__add {fd : FuncData} (F : Fun K "__add__" "Ratio.__add__" s_Ratio__add a.fAdd fd) (T : RT K mg a) (G_Ratio_init2 : FR P w K mg base 1 a.fInit (spInit a)) : FnOk P w K mg base (L2.CX P w) 3 a.fAdd fd p_Ratio__add (spBin a (· + ·)) := by
  refine F.okX sc_Ratio__add (fun vs H Q E h => ?_) (fun cdv A outer s H vs Q E hr h => ?_)
  · obtain ⟨_, _, _, _, rfl, _⟩ := h
    rfl
  · obtain ⟨x, y, p, q, rfl, ⟨pp0, d0, rfl, h0⟩, ⟨p1, d1, rfl, h1⟩, sp', sq, k⟩ := h
    refine ⟨_, (pss_one (ps_ret (pe_cg (mk_Ratio2 T G_Ratio_init2 p0) (hr.mono (by decide)) rfl T.m_Ratio T.mk_Ratio.kp (pa_cons (pe_op op_add (pe_op op_mulW (pe_fld (pv 0) rfl) (pe_fld (pv 1) rfl)) (pe_op op_mulW (pe_fld (pv 1) rfl) (pe_fld (pv 0) rfl))) (pa_cons (pe_op op_mulW (pe_fld (pv 0) rfl) (pe_fld (pv 1) rfl)) pa_nil))))), ?_⟩
    exact ⟨_, rfl, pp0, a.C, d0, _, _, rfl, h0, T.c_Ratio, T.nn, rf_num _, _, rfl, p1, a.C, d1, _, _, rfl, h1, T.c_Ratio, T.nd, rf_den _, _, _, rfl, rfl, sm_nd sp' sq, _, rfl, p1, a.C, d1, _, _, rfl, h1, T.c_Ratio, T.nn, rf_num _, _, rfl, pp0, a.C, d0, _, _, rfl, h0, T.c_Ratio, T.nd, rf_den _, _, _, rfl, rfl, sm_nd sq sp', _, _, rfl, rfl, _, rfl, pp0, a.C, d0, _, _, rfl, h0, T.c_Ratio, T.nd, rf_den _, _, rfl, p1, a.C, d1, _, _, rfl, h1, T.c_Ratio, T.nd, rf_den _, _, _, rfl, rfl, sm_dd sp' sq, _, _, rfl, fun hz => absurd hz (dd_ne p q), fun _ => ⟨sm_dd9 sp' sq, fun v H' st hv => k v H' st (RatAt.to hv (rat_add p q))⟩⟩
end

abbrev s_Ratio__sub : Stmt := inClass (top 7) 6
abbrev n_Ratio__sub : List Str := ["self", "other"]
abbrev p_Ratio__sub : List Str := ["self", "other"]
theorem sc_Ratio__sub : FnScope n_Ratio__sub p_Ratio__sub (defScope s_Ratio__sub) := ⟨rfl, rfl, rfl, by decide +kernel, rfl, by decide +kernel, by decide +kernel⟩
section
variable {P : Program} {w : World} {K : PySem.W.Frag} {mg : Str → Option Value} {base : Heap} {a : RA}
theorem ok_Ratio__sub {fd : FuncData} (F : Fun K "__sub__" "Ratio.__sub__" s_Ratio__sub a.fSub fd) (T : RT K mg a) (G_Ratio_init2 : FR P w K mg base 1 a.fInit (spInit a)) : FnOk P w K mg base (L2.CX P w) 3 a.fSub fd p_Ratio__sub (spBin a (· - ·)) := by
  refine F.okX sc_Ratio__sub (fun vs H Q E h => ?_) (fun cdv A outer s H vs Q E hr h => ?_)
  · obtain ⟨_, _, _, _, rfl, _⟩ := h
    rfl
  · obtain ⟨x, y, p, q, rfl, ⟨pp0, d0, rfl, h0⟩, ⟨p1, d1, rfl, h1⟩, sp', sq, k⟩ := h
    refine ⟨_, (pss_one (ps_ret (pe_cg (mk_Ratio2 T G_Ratio_init2 p0) (hr.mono (by decide)) rfl T.m_Ratio T.mk_Ratio.kp (pa_cons (pe_op op_sub (pe_op op_mulW (pe_fld (pv 0) rfl) (pe_fld (pv 1) rfl)) (pe_op op_mulW (pe_fld (pv 1) rfl) (pe_fld (pv 0) rfl))) (pa_cons (pe_op op_mulW (pe_fld (pv 0) rfl) (pe_fld (pv 1) rfl)) pa_nil))))), ?_⟩
    exact ⟨_, rfl, pp0, a.C, d0, _, _, rfl, h0, T.c_Ratio, T.nn, rf_num _, _, rfl, p1, a.C, d1, _, _, rfl, h1, T.c_Ratio, T.nd, rf_den _, _, _, rfl, rfl, sm_nd sp' sq, _, rfl, p1, a.C, d1, _, _, rfl, h1, T.c_Ratio, T.nn, rf_num _, _, rfl, pp0, a.C, d0, _, _, rfl, h0, T.c_Ratio, T.nd, rf_den _, _, _, rfl, rfl, sm_nd sq sp', _, _, rfl, rfl, _, rfl, pp0, a.C, d0, _, _, rfl, h0, T.c_Ratio, T.nd, rf_den _, _, rfl, p1, a.C, d1, _, _, rfl, h1, T.c_Ratio, T.nd, rf_den _, _, _, rfl, rfl, sm_dd sp' sq, _, _, rfl, fun hz => absurd hz (dd_ne p q), fun _ => ⟨sm_dd9 sp' sq, fun v H' st hv => k v H' st (RatAt.to hv (rat_sub p q))⟩⟩
end

abbrev s_Ratio__mul : Stmt := inClass (top 7) 7
abbrev n_Ratio__mul : List Str := ["self", "other"]
abbrev p_Ratio__mul : List Str := ["self", "other"]
theorem sc_Ratio__mul : FnScope n_Ratio__mul p_Ratio__mul (defScope s_Ratio__mul) := ⟨rfl, rfl, rfl, by decide +kernel, rfl, by decide +kernel, by decide +kernel⟩
section
variable {P : Program} {w : World} {K : PySem.W.Frag} {mg : Str → Option Value} {base : Heap} {a : RA}
theorem ok_Ratio__mul {fd : FuncData} (F : Fun K "__mul__" "Ratio.__mul__" s_Ratio__mul a.fMul fd) (T : RT K mg a) (G_Ratio_init2 : FR P w K mg base 1 a.fInit (spInit a)) : FnOk P w K mg base (L2.CX P w) 3 a.fMul fd p_Ratio__mul (spBin a (· * ·)) := by
  refine F.okX sc_Ratio__mul (fun vs H Q E h => ?_) (fun cdv A outer s H vs Q E hr h => ?_)
  · obtain ⟨_, _, _, _, rfl, _⟩ := h
    rfl
  · obtain ⟨x, y, p, q, rfl, ⟨pp0, d0, rfl, h0⟩, ⟨p1, d1, rfl, h1⟩, sp', sq, k⟩ := h
    refine ⟨_, (pss_one (ps_ret (pe_cg (mk_Ratio2 T G_Ratio_init2 p0) (hr.mono (by decide)) rfl T.m_Ratio T.mk_Ratio.kp (pa_cons (pe_op op_mulW (pe_fld (pv 0) rfl) (pe_fld (pv 1) rfl)) (pa_cons (pe_op op_mulW (pe_fld (pv 0) rfl) (pe_fld (pv 1) rfl)) pa_nil))))), ?_⟩
    exact ⟨_, rfl, pp0, a.C, d0, _, _, rfl, h0, T.c_Ratio, T.nn, rf_num _, _, rfl, p1, a.C, d1, _, _, rfl, h1, T.c_Ratio, T.nn, rf_num _, _, _, rfl, rfl, sm_nn sp' sq, _, rfl, pp0, a.C, d0, _, _, rfl, h0, T.c_Ratio, T.nd, rf_den _, _, rfl, p1, a.C, d1, _, _, rfl, h1, T.c_Ratio, T.nd, rf_den _, _, _, rfl, rfl, sm_dd sp' sq, _, _, rfl, fun hz => absurd hz (dd_ne p q), fun _ => ⟨sm_dd9 sp' sq, fun v H' st hv => k v H' st (RatAt.to hv (rat_mul p q))⟩⟩
end

abbrev s_Ratio__floordiv : Stmt := inClass (top 7) 8
abbrev n_Ratio__floordiv : List Str := ["self", "other"]
abbrev p_Ratio__floordiv : List Str := ["self", "other"]
theorem sc_Ratio__floordiv : FnScope n_Ratio__floordiv p_Ratio__floordiv (defScope s_Ratio__floordiv) := ⟨rfl, rfl, rfl, by decide +kernel, rfl, by decide +kernel, by decide +kernel⟩
section
variable {P : Program} {w : World} {K : PySem.W.Frag} {mg : Str → Option Value} {base : Heap} {a : RA}
theorem pE_ {X : Cx} {E : XK} (tk : Takes X (fun cls d _ H => E cls d H)) : ∀ σ, PassesAt (L2.CX X.prog X.w) X σ ((fun _ => E : L2.St → XK) σ) := fun σ pins H s e s' I h => passes_call tk (fun _ _ _ _ z => z) pins σ H s e s' I h
theorem ok_Ratio__floordiv {fd : FuncData} (F : Fun K "__floordiv__" "Ratio.__floordiv__" s_Ratio__floordiv a.fDiv fd) (T : RT K mg a) (G_Ratio_init2 : FR P w K mg base 1 a.fInit (spInit a)) : FnOk P w K mg base (L2.CX P w) 3 a.fDiv fd p_Ratio__floordiv (spDivR a) := by
  refine F.okX sc_Ratio__floordiv (fun vs H Q E h => ?_) (fun cdv A outer s H vs Q E hr h => ?_)
  · obtain ⟨_, _, _, _, rfl, _⟩ := h
    rfl
  · obtain ⟨x, y, p, q, rfl, ⟨pp0, d0, rfl, h0⟩, ⟨p1, d1, rfl, h1⟩, sp', sq, k⟩ := h
    refine ⟨_, (pss_one (ps_ret (pe_cg (mk_Ratio2 T G_Ratio_init2 (pE_ (E := E) (takes_of rfl rfl rfl rfl))) (hr.mono (by decide)) rfl T.m_Ratio T.mk_Ratio.kp (pa_cons (pe_op op_mulW (pe_fld (pv 0) rfl) (pe_fld (pv 1) rfl)) (pa_cons (pe_op op_mulW (pe_fld (pv 0) rfl) (pe_fld (pv 1) rfl)) pa_nil))))), ?_⟩
    exact ⟨_, rfl, pp0, a.C, d0, _, _, rfl, h0, T.c_Ratio, T.nn, rf_num _, _, rfl, p1, a.C, d1, _, _, rfl, h1, T.c_Ratio, T.nd, rf_den _, _, _, rfl, rfl, sm_nd sp' sq, _, rfl, pp0, a.C, d0, _, _, rfl, h0, T.c_Ratio, T.nd, rf_den _, _, rfl, p1, a.C, d1, _, _, rfl, h1, T.c_Ratio, T.nn, rf_num _, _, _, rfl, rfl, sm_dn sp' sq, _, _, rfl, fun hz => k.1 (Rat.num_eq_zero.mp ((Int.mul_eq_zero.mp hz).resolve_left (nz_den p))), fun hz => ⟨sm_dn9 sp' sq, fun v H' st hv => k.2 (fun e => hz (by rw [e]; simp)) v H' st (RatAt.to hv (rat_div p q))⟩⟩
end

abbrev s_Ratio__neg : Stmt := inClass (top 7) 9
abbrev n_Ratio__neg : List Str := ["self"]
abbrev p_Ratio__neg : List Str := ["self"]
theorem sc_Ratio__neg : FnScope n_Ratio__neg p_Ratio__neg (defScope s_Ratio__neg) := ⟨rfl, rfl, rfl, by decide +kernel, rfl, by decide +kernel, by decide +kernel⟩
section
variable {P : Program} {w : World} {K : PySem.W.Frag} {mg : Str → Option Value} {base : Heap} {a : RA}
theorem ok_Ratio__neg {fd : FuncData} (F : Fun K "__neg__" "Ratio.__neg__" s_Ratio__neg a.fNeg fd) (T : RT K mg a) (G_Ratio_init2 : FR P w K mg base 1 a.fInit (spInit a)) : FnOk P w K mg base (L2.CX P w) 3 a.fNeg fd p_Ratio__neg (spNegR a) := by
  refine F.okX sc_Ratio__neg (fun vs H Q E h => ?_) (fun cdv A outer s H vs Q E hr h => ?_)
  · obtain ⟨_, _, rfl, _⟩ := h
    rfl
  · obtain ⟨x, p, rfl, ⟨pp0, d0, rfl, h0⟩, sp', k⟩ := h
    refine ⟨_, (pss_one (ps_ret (pe_cg (mk_Ratio2 T G_Ratio_init2 p0) (hr.mono (by decide)) rfl T.m_Ratio T.mk_Ratio.kp (pa_cons (pe_un un_neg (pe_fld (pv 0) rfl)) (pa_cons (pe_fld (pv 0) rfl) pa_nil))))), ?_⟩
    exact ⟨_, rfl, pp0, a.C, d0, _, _, rfl, h0, T.c_Ratio, T.nn, rf_num _, _, rfl, _, rfl, pp0, a.C, d0, _, _, rfl, h0, T.c_Ratio, T.nd, rf_den _, _, _, rfl, fun hz => absurd hz (nz_den p), fun _ => ⟨Nat.lt_of_lt_of_le (den_lt sp'.2) (Nat.pow_le_pow_right (by decide) (by decide)), fun v H' st hv => k v H' st (RatAt.to hv (rat_neg p))⟩⟩
end

abbrev s_Ratio__eq : Stmt := inClass (top 7) 3
abbrev n_Ratio__eq : List Str := ["self", "other"]
abbrev p_Ratio__eq : List Str := ["self", "other"]
theorem sc_Ratio__eq : FnScope n_Ratio__eq p_Ratio__eq (defScope s_Ratio__eq) := ⟨rfl, rfl, rfl, by decide +kernel, rfl, by decide +kernel, by decide +kernel⟩
abbrev s_Ratio__bool : Stmt := inClass (top 7) 4
abbrev n_Ratio__bool : List Str := ["self"]
abbrev p_Ratio__bool : List Str := ["self"]
theorem sc_Ratio__bool : FnScope n_Ratio__bool p_Ratio__bool (defScope s_Ratio__bool) := ⟨rfl, rfl, rfl, by decide +kernel, rfl, by decide +kernel, by decide +kernel⟩
section
variable {P : Program} {w : World} {K : PySem.W.Frag} {mg : Str → Option Value} {base : Heap} {a : RA}
theorem ok_Ratio__eq {fd : FuncData} (F : Fun K "__eq__" "Ratio.__eq__" s_Ratio__eq a.fEq fd) (T : RT K mg a) : FnOk P w K mg base (L2.CX P w) 1 a.fEq fd p_Ratio__eq (spEqR a) := by
  refine F.okX sc_Ratio__eq (fun vs H Q E h => ?_) (fun cdv A outer s H vs Q E hr h => ?_)
  · obtain ⟨_, _, _, _, rfl, _⟩ := h
    rfl
  · obtain ⟨x, y, p, q, rfl, ⟨pp0, d0, rfl, h0⟩, ⟨p1, d1, rfl, h1⟩, k⟩ := h
    refine ⟨_, (pss_one (ps_ret (pe_and (pe_callB call_isi (by rfl) T.n_isinstance (by decide +kernel) (pa_cons (pv 1) (pa_cons (pe_glob (v := .ref a.C) rfl T.m_Ratio rfl) pa_nil))) (pe_and (pe_cmpR op_eq (pe_fld (pv 0) rfl) (pe_fld (pv 1) rfl) (nomark _)) (pe_one (pe_cmpR op_eq (pe_fld (pv 0) rfl) (pe_fld (pv 1) rfl) (nomark _))))))), ?_⟩
    refine ⟨_, rfl, _, _, _, _, true, rfl, .own a.C, T.tyC H p1 d1 _ h1, T.isC, _, rfl, iteT ?_⟩
    refine ⟨_, rfl, pp0, a.C, d0, _, _, rfl, h0, T.c_Ratio, T.nn, rf_num _, _, rfl, p1, a.C, d1, _, _, rfl, h1, T.c_Ratio, T.nn, rf_num _, rfl, _, rfl, ?_⟩
    refine ite2 (fun e1 => ?_) (fun e1 => ?_)
    · have e1' : p.num = q.num := V.int.inj (of_decide_eq_true e1)
      refine ⟨_, rfl, pp0, a.C, d0, _, _, rfl, h0, T.c_Ratio, T.nd, rf_den _, _, rfl, p1, a.C, d1, _, _, rfl, h1, T.c_Ratio, T.nd, rf_den _, rfl, ?_⟩
      have e : decide (V.int (p.den : Int) = V.int (q.den : Int)) = decide (p = q) := by
        by_cases h : p = q
        · rw [h, decide_eq_true rfl, decide_eq_true rfl]
        · rw [decide_eq_false h, decide_eq_false fun z => h (Rat.ext e1' (by have := V.int.inj z; omega))]
      show Q (.bl (decide (V.int (p.den : Int) = V.int (q.den : Int)))) H
      rw [e]
      exact k
    · have e1' : ¬ p.num = q.num := fun z => e1 (by rw [z]; exact decide_eq_true rfl)
      have e : (false : Bool) = decide (p = q) := (decide_eq_false fun z => e1' (by rw [z])).symm
      show Q (.bl false) H
      rw [e]
      exact k
theorem ok_Ratio__bool {fd : FuncData} (F : Fun K "__bool__" "Ratio.__bool__" s_Ratio__bool a.fBool fd) (T : RT K mg a) : FnOk P w K mg base (L2.CX P w) 1 a.fBool fd p_Ratio__bool (spBoolR a) := by
  refine F.okX sc_Ratio__bool (fun vs H Q E h => ?_) (fun cdv A outer s H vs Q E hr h => ?_)
  · obtain ⟨_, _, rfl, _⟩ := h
    rfl
  · obtain ⟨x, p, rfl, ⟨pp0, d0, rfl, h0⟩, k⟩ := h
    refine ⟨_, (pss_one (ps_ret (pe_callTy call_bool1 (by rfl) T.n_bool (by decide +kernel) (pa_cons (pe_fld (pv 0) rfl) pa_nil)))), ?_⟩
    refine ⟨_, rfl, pp0, a.C, d0, _, _, rfl, h0, T.c_Ratio, T.nn, rf_num _, .inl ⟨_, rfl, ?_⟩⟩
    have e : (p.num != 0) = decide (p ≠ 0) := by
      by_cases h : p = 0
      · subst h; rfl
      · rw [decide_eq_true h]
        have : p.num ≠ 0 := fun z => h (Rat.num_eq_zero.mp z)
        simpa using this
    show Q (.bl (p.num != 0)) H
    rw [e]
    exact k
end

end TL
namespace TL
open PySem PySem.Spec PyProof.Rows L2 TLX
/-! ### promises -/
def spPow (a : RA) : Sp := fun vs H Q _ => ∃ x p n, vs = [x, .int n] ∧ RatAt a.C H x p ∧ -(2 ^ 62) ≤ n ∧ n < 2 ^ 62 ∧ Sm 4000 p ∧ (∀ k, k < n.toNat → Sm 4000 (p ^ k)) ∧ Wn H Q fun v H' => RatAt a.C H' v (p ^ n.toNat)
def spStrR (a : RA) : Sp := fun vs H Q _ => ∃ x p, vs = [x] ∧ RatAt a.C H x p ∧ Sm 1900 p ∧ ∀ y, tl y = rL p → y.length ≤ 5000 → Q (.str y) H
def spDig : Sp := fun vs H Q _ => ∃ z : Str, vs = [.str z] ∧ z.length ≤ 100000 ∧ ∀ H', Same H H' → Q (.bl (dig (tl z))) H'
def spRead (a : RA) : Sp := fun vs H Q E => ∃ z : Str, vs = [.ref a.C, .str z] ∧ z.length ≤ 100000 ∧ (∀ c ∈ z.cps.toList, c < 16 ^ 8) ∧ (∀ q, Wr (tl z) q → Wn H Q fun v H' => RatAt a.C H' v q) ∧
  ((∀ q, ¬ Wr (tl z) q) → ∀ H', Same H H' → E (.ref a.CN) none H')
abbrev s_Ratio_power : Stmt := inClass (top 7) 10
abbrev n_Ratio_power : List Str := ["self", "exponent", "result", "_"]
abbrev p_Ratio_power : List Str := ["self", "exponent"]
theorem sc_Ratio_power : FnScope n_Ratio_power p_Ratio_power (defScope s_Ratio_power) := ⟨rfl, rfl, rfl, by decide +kernel, rfl, by decide +kernel, by decide +kernel⟩
abbrev s_Ratio__str : Stmt := inClass (top 7) 2
abbrev n_Ratio__str : List Str := ["self"]
abbrev p_Ratio__str : List Str := ["self"]
theorem sc_Ratio__str : FnScope n_Ratio__str p_Ratio__str (defScope s_Ratio__str) := ⟨rfl, rfl, rfl, by decide +kernel, rfl, by decide +kernel, by decide +kernel⟩
abbrev s_are_digits : Stmt := top 8
abbrev n_are_digits : List Str := ["text", "sign"]
abbrev p_are_digits : List Str := ["text"]
theorem sc_are_digits : FnScope n_are_digits p_are_digits (defScope s_are_digits) := ⟨rfl, rfl, rfl, by decide +kernel, rfl, by decide +kernel, by decide +kernel⟩

theorem FnOk.up {P : Program} {w : World} {K : PySem.W.Frag} {mg : Str → Option Value} {base : Heap} {CX : CXT} {k : Nat} {f : Addr} {fd : FuncData} {ps : List Str} {sp : Sp} (F : FnOk P w K mg base CX0 k f fd ps sp) : FnOk P w K mg base CX k f fd ps sp :=
  ⟨F.len, fun A outer s H args us vs Q E hr e hb hv hs => codeAny_mono (F.run A outer s H args us vs Q E hr e hb hv hs) fun r s' h => by
    cases r with
    | error e => exact h.elim
    | ok f =>
      cases f with
      | ret u => exact h
      | next => exact h
      | brk => exact h
      | cont => exact h⟩
theorem log_sm {q : Rat} (h : Sm 1900 q) : q.num.natAbs.log2 < 1920 ∧ ((q.den : Int)).natAbs.log2 < 1920 :=
  ⟨Nat.lt_of_lt_of_le (PySem.Flt.log2_lt_of (by decide) h.1) (by decide), Nat.lt_of_lt_of_le (PySem.Flt.log2_lt_of (by decide) (den_lt h.2)) (by decide)⟩
theorem ri_len {n : Int} (h : n.natAbs.log2 < 1920) : (ri n).length ≤ 1921 := PyProof.Rows.int_text_len_1921 h
theorem len_app (x y : Str) : (x ++ y).length = x.length + y.length := by rw [len_tl, tl_append, List.length_append, ← len_tl, ← len_tl]
theorem szl {n : Nat} (h : n ≤ 100000) : n ≤ sizeLine := Nat.le_trans h (by decide)
section
variable {P : Program} {w : World} {K : PySem.W.Frag} {mg : Str → Option Value} {base : Heap} {a : RA}
theorem ok_Ratio_power {fd : FuncData} (F : Fun K "power" "Ratio.power" s_Ratio_power a.fPow fd) (T : RT K mg a) (G_Ratio_init1 : FR P w K mg base 1 a.fInit (fun vs H Q E => spInit a (vs ++ [V.int 1]) H Q E)) (G_Ratio_mul : FR P w K mg base 3 a.fMul (spBin a (· * ·))) : FnOk P w K mg base (L2.CX P w) 4 a.fPow fd p_Ratio_power (spPow a) := by
  refine FnOk.up (F.ok sc_Ratio_power (fun vs H Q E h => ?_) (fun cdv A outer s H vs Q E hr h => ?_))
  · obtain ⟨_, _, _, rfl, _⟩ := h
    rfl
  · obtain ⟨x, p, n, rfl, hx, l1, l2, sp, sk, k⟩ := h
    refine ⟨_, (pss_cons (ps_set (i := 2) sc_Ratio_power.nd rfl (Or.inl rfl) (pe_cg (mk_Ratio1 T G_Ratio_init1 p0) (hr.mono (by decide)) rfl T.m_Ratio T.mk_Ratio.kp (pa_cons pe_int pa_nil)))
      (pss_cons (ps_for PassesOwn.never rfl (pi_range1 (by rfl) T.n_range (pa_cons (pv 1) pa_nil)) (pg_name (i := 3) sc_Ratio_power.nd rfl (Or.inl rfl))
      (pss_one (ps_set (i := 2) sc_Ratio_power.nd rfl (Or.inl rfl) (pe_own T.sf_Ratio T.me_Ratio_mul (cal_fn G_Ratio_mul p0) (hr.mono (by decide)) (pv 2) (pv 0)))))
      (pss_one (ps_ret (pv 2))))), ?_⟩
    refine ⟨1, rfl, fun v1 H1 s1 hv1 => ?_⟩
    refine ⟨_, rfl, n, rfl, l1, l2, for_range (lo := 0) (n := n.toNat) (fun i σ H' => ∃ (r : V) (o : Option V), σ = [some x, some (.int n), some r, o] ∧ RatAt a.C H' r (p ^ i) ∧ Same H H') ⟨v1, none, rfl, RatAt.to hv1 (by rw [Rat.pow_zero]; rfl), s1⟩ ?_ ?_⟩
    · rintro i σ H' hi ⟨r, o, rfl, hr', s2⟩
      refine ⟨_, rfl, _, rfl, hr'.ins, (hx.same s2).ins, _, _, _, _, rfl, hr', hx.same s2, sk i hi, sp, fun v2 H2 s3 hv2 => ?_⟩
      exact ⟨v2, _, rfl, RatAt.to hv2 (Rat.pow_succ p i).symm, s2.trans s3⟩
    · rintro σ H' ⟨r, o, rfl, hr', s2⟩
      exact ⟨_, rfl, k _ _ s2 hr'⟩
theorem ok_Ratio__str {fd : FuncData} (F : Fun K "__str__" "Ratio.__str__" s_Ratio__str a.fStr fd) (T : RT K mg a) : FnOk P w K mg base (L2.CX P w) 1 a.fStr fd p_Ratio__str (spStrR a) := by
  refine F.okX sc_Ratio__str (fun vs H Q E h => ?_) (fun cdv A outer s H vs Q E hr h => ?_)
  · obtain ⟨_, _, rfl, _⟩ := h
    rfl
  · obtain ⟨x, p, rfl, ⟨pp0, d0, rfl, h0⟩, sp, k⟩ := h
    refine ⟨_, (pss_cons (ps_if (pt_cmpR op_eq (pe_fld (pv 0) rfl) pe_int (nomark _)) (pss_one (ps_ret (pe_callTy call_str_int (by rfl) T.n_str (by decide +kernel) (pa_cons (pe_fld (pv 0) rfl) pa_nil)))) pss_nil)
      (pss_one (ps_ret (pe_joined (.cons (pe_fmt (pe_fld (pv 0) rfl)) (.cons pe_str (.cons (pe_fmt (pe_fld (pv 0) rfl)) .nil))))))), ?_⟩
    obtain ⟨g1, g2⟩ := log_sm sp
    have l1 := ri_len g1
    have l2 := ri_len g2
    refine ⟨_, rfl, pp0, a.C, d0, _, _, rfl, h0, T.c_Ratio, T.nd, rf_den _, rfl, _, rfl, ?_⟩
    refine ite2 (fun e1 => ?_) (fun e1 => ?_)
    · have e1' : p.den = 1 := by have := V.int.inj (of_decide_eq_true e1); omega
      refine ⟨_, rfl, pp0, a.C, d0, _, _, rfl, h0, T.c_Ratio, T.nn, rf_num _, _, rfl, g1, k _ ?_ (by show (ri p.num).length ≤ 5000; omega)⟩
      show tl (ri p.num) = rL p
      rw [tl_ri]
      unfold rL
      rw [if_pos e1']
    · have e1' : ¬ p.den = 1 := fun z => e1 (by rw [z]; exact decide_eq_true rfl)
      have e0 : (Str.empty).length = 0 := rfl
      have e47 : ("/" : Str).length = 1 := by rw [slash]; rfl
      refine ⟨_, rfl, pp0, a.C, d0, _, _, rfl, h0, T.c_Ratio, T.nn, rf_num _, .inr ⟨_, rfl, g1, _, rfl, szl (by rw [len_app]; show _ + (ri p.num).length ≤ _; omega), _, rfl, szl (by rw [len_app, len_app]; show _ + (ri p.num).length + _ ≤ _; omega), _, rfl, pp0, a.C, d0, _, _, rfl, h0, T.c_Ratio, T.nd, rf_den _, .inr ⟨_, rfl, g2, _, rfl, szl (by rw [len_app, len_app, len_app]; show _ + (ri p.num).length + _ + (ri p.den).length ≤ _; omega), k _ ?_ (by rw [len_app, len_app, len_app]; show _ + (ri p.num).length + _ + (ri p.den).length ≤ _; omega)⟩⟩⟩
      rw [tl_append, tl_append, tl_append]
      show ([] ++ tl (ri p.num)) ++ tl ("/" : Str) ++ tl (ri p.den) = rL p
      rw [tl_ri, tl_ri, slash]
      unfold rL
      rw [if_neg e1', List.nil_append, List.append_assoc]
      have : intL (p.den : Int) = numL p.den := by
        unfold intL
        rw [if_neg (by omega), Int.natAbs_natCast]
      rw [this]
      rfl
theorem tl_digits : tl ("0123456789" : Str) = [48, 49, 50, 51, 52, 53, 54, 55, 56, 57] := by decide +kernel
theorem in_digits (c : Nat) : decide (c ∈ tl ("0123456789" : Str)) = isDg c := by
  rw [tl_digits]
  unfold isDg
  by_cases h : 48 ≤ c ∧ c ≤ 57
  · rw [decide_eq_true h.1, decide_eq_true h.2]
    refine decide_eq_true ?_
    have : c = 48 ∨ c = 49 ∨ c = 50 ∨ c = 51 ∨ c = 52 ∨ c = 53 ∨ c = 54 ∨ c = 55 ∨ c = 56 ∨ c = 57 := by omega
    simpa using this
  · have e : (decide (48 ≤ c) && decide (c ≤ 57)) = false := by
      rw [Bool.and_eq_false_iff, decide_eq_false_iff_not, decide_eq_false_iff_not]
      omega
    rw [e]
    refine decide_eq_false fun z => h ?_
    have : c = 48 ∨ c = 49 ∨ c = 50 ∨ c = 51 ∨ c = 52 ∨ c = 53 ∨ c = 54 ∨ c = 55 ∨ c = 56 ∨ c = 57 := by simpa using z
    omega
theorem ok_are_digits {fd : FuncData} (F : Fun K "_are_digits" "_are_digits" s_are_digits a.fDig fd) (T : RT K mg a) : FnOk P w K mg base (L2.CX P w) 1 a.fDig fd p_are_digits spDig := by
  refine F.okX sc_are_digits (fun vs H Q E h => ?_) (fun cdv A outer s H vs Q E hr h => ?_)
  · obtain ⟨_, rfl, _⟩ := h
    rfl
  · obtain ⟨z, rfl, hz, k⟩ := h
    refine ⟨_, (pss_one (ps_ret (pe_and (pe_chain op_le op_le pe_int (pe_callB call_len_str (by rfl) T.n_len (by decide +kernel) (pa_cons (pv 0) pa_nil)) (pe_glob (v := .int 60) rfl (T.g_MOST_DIGITS).choose_spec ⟨_, rfl⟩)) (pe_one (pe_callB (cr_all rfl) (by rfl) T.n_all (by decide +kernel) (pa_cons (pe_lc (own := [("sign", 1)]) (g := gName 1) (by rfl) sc_are_digits.nd (pi_str (pv 0)) (blkOk_by (own := [("sign", 1)]) (N := n_are_digits) (sc := defScope s_are_digits) (by decide +kernel)) (fun _ _ _ _ _ => pg_name (i := 1) sc_are_digits.nd rfl (Or.inl rfl)) (fun _ _ _ _ _ => pts_nil) (fun _ _ _ _ _ => (pe_cmpR op_in_sign (pv 1) pe_str (by rfl)))) pa_nil)))))), ?_⟩
    have hl : z.length = (tl z).length := len_tl z
    have no : ∀ H', Same H H' → ¬ (1 ≤ (tl z).length ∧ (tl z).length ≤ 60) → Q (.bl false) H' := fun H' s hn => by
      have e : dig (tl z) = false := by
        refine Bool.eq_false_iff.mpr fun q => hn ?_
        have := dig_iff.mp q
        exact ⟨this.1, this.2.1⟩
      have := k H' s
      rwa [e] at this
    refine ⟨_, rfl, z, rfl, szl hz, _, _, rfl, rfl, _, rfl, ?_⟩
    refine ite2 (fun h1 => ?_) (fun h1 => ?_)
    · have h1' : (1 : Int) ≤ (z.length : Int) := of_decide_eq_true h1
      refine ⟨_, _, rfl, rfl, _, rfl, ?_⟩
      refine ite2 (fun h2 => ?_) (fun h2 => ?_)
      · have h2' : (z.length : Int) ≤ 60 := of_decide_eq_true h2
        have hsz : z.cps.size = (tl z).length := hl
        refine ⟨_, rfl, z, rfl, fun D hD => ?_⟩
        refine lc_it (walk_str (z := z)) (fun i H' => Same H H' ∧ H' D = some (.lst ((((tl z).take i).map isDg).map V.bl))) ⟨same_upd hD, by rw [upd_same]; rfl⟩ (fun _ _ _ _ => trivial) ?_ ?_
        · rintro i x H1 H2 hi ⟨s1, hd1⟩ ⟨rfl, c, hc, rfl⟩
          refine ⟨rfl, _, rfl, c, _, rfl, rfl, _, hd1, by rw [List.length_map, List.length_map, List.length_take]; exact Nat.lt_of_le_of_lt (Nat.min_le_right _ _) (Nat.lt_of_le_of_lt (show (tl z).length ≤ 60 by omega) (by decide)), ?_, ?_⟩
          · intro b v e
            have hb : b ≠ D := ne_of_none e hD
            rw [upd_ne hb]
            exact s1 b v e
          · rw [upd_same]
            have hc' : (tl z)[i]? = some c := by
              show z.cps.toList[i]? = some c
              rw [Array.getElem?_toList]
              exact hc
            have ht : (tl z).take (i + 1) = (tl z).take i ++ [c] := by rw [List.take_add_one, hc']; rfl
            rw [ht, List.map_append, List.map_append]
            show some (HO.lst (_ ++ [V.bl (decide (c ∈ tl ("0123456789" : Str)))])) = _
            rw [in_digits]
            rfl
        · rintro H1 ⟨s1, hd1⟩
          rw [hsz, List.take_length] at hd1
          refine ⟨D, (tl z).map isDg, rfl, SqL.of hd1, ?_⟩
          have e : ((tl z).map isDg).all id = dig (tl z) := by
            unfold dig
            rw [decide_eq_true (show 1 ≤ (tl z).length by omega), decide_eq_true (show (tl z).length ≤ 60 by omega), List.all_map]
            rfl
          show Q (.bl (((tl z).map isDg).all id)) H1
          rw [e]
          exact k H1 s1
      · exact no H (fun _ _ e => e) fun q => h2 (decide_eq_true (by show (z.length : Int) ≤ 60; omega))
    · exact ⟨_, rfl, iteF (no H (fun _ _ e => e) fun q => h1 (decide_eq_true (by show (1 : Int) ≤ (z.length : Int); omega)))⟩
end
end TL
namespace TL
open PySem PySem.Spec PyProof.Rows L2 TLX
abbrev s_Ratio_read : Stmt := inClass (top 7) 1
abbrev n_Ratio_read : List Str := ["cls", "text", "top", "slash", "bottom", "ratio"]
abbrev p_Ratio_read : List Str := ["cls", "text"]
theorem sc_Ratio_read : FnScope n_Ratio_read p_Ratio_read (defScope s_Ratio_read) := ⟨rfl, rfl, rfl, by decide +kernel, rfl, by decide +kernel, by decide +kernel⟩

def t_rmsg (m : Str) (a : RA) (E : XK) : TS := fun _ σ H => tCons (fun σ H Q => tJs [tC (V.str m), tFmtR (tVar 1)] Str.empty σ H fun out H1 => Q (V.str out) H1) tNil σ H fun vs H1 => vs.length ≤ sizeLine ∧ (fun cls d H' => E cls d H') (Value.ref a.CN) none H1
def t_int (i : Nat) : TE := tCB (fun xs H Q => ∃ a n, xs = [V.str a] ∧ intText? a = some n ∧ a.length ≤ 640 ∧ Q (V.int n) H) (tCons (tVar i) tNil)
/-- behind the cut: the tests, the fraction, the last test -/
def t_rdTail (K : PySem.W.Frag) (a : RA) (E : XK) : TS :=
  tSeq (tIfS (tOr (tNot (tAnd (tB (tC1 (rSp spDig fun x => E0) (tCons (tBM K "str" (fun x xs H Q => ∃ a b, x = V.str a ∧ xs = [V.str b] ∧ a.length ≤ sizeLine ∧ Q (V.str (Txt.removeprefix a b)) H) (tVar 2) (tCons (tC (V.str (Str.ofString "-"))) tNil)) tNil)))
      (tB (tC1 (rSp spDig fun x => E0) (tCons (tVar 4) tNil))))) (tTest (tOp rEq (t_int 4) (tC (V.int 0))))) (t_rmsg (Str.ofString "not a fraction: ") a E) tNext)
  (tSeq (tAsg (tCv 0 a.C (rSp (spMkR a) fun x => E0) (tCons (t_int 2) (tCons (t_int 4) tNil))) (gName 5))
  (tSeq (tIfS (tTest (tOp rNe (tCB (fun vs H Q => ∃ x, vs = [x] ∧ IsIns a.C H x ∧ spStrR a [x] H (fun v H' => ∃ b, v = V.str b ∧ Q (V.str b) H') E0) (tCons (tVar 5) tNil)) (tVar 1))) (t_rmsg (Str.ofString "not the written form of a fraction: ") a E) tNext)
  (tRet (tVar 5))))
theorem szB {n : Nat} (h : n ≤ 16000000) : n ≤ sizeLine := Nat.le_trans h (by decide)
theorem dropMinus_len (l : List Nat) : (dropMinus l).length ≤ l.length := by
  unfold dropMinus
  split <;> simp
theorem first47 : ∀ {l : List Nat}, 47 ∈ l → ∃ u v, l = u ++ 47 :: v ∧ 47 ∉ u
  | [], h => by cases h
  | c :: r, h => by
    by_cases hc : c = 47
    · exact ⟨[], r, by rw [hc]; rfl, by simp⟩
    · obtain ⟨u, v, e, hu⟩ := first47 ((List.mem_cons.mp h).resolve_left (fun q => hc q.symm))
      exact ⟨c :: u, v, by rw [e]; rfl, fun q => (List.mem_cons.mp q).elim (fun z => hc z.symm) hu⟩
theorem rmsg_ok {a : RA} {E : XK} {m : Str} {σ : L2.St} {H : Hp} {D : Ends} {z : Str} (h1 : σ[1]? = some (some (.str z))) (hm : m.length ≤ 1000) (hz : z.length ≤ 100000) (hc : ∀ c ∈ z.cps.toList, c < 16 ^ 8) (h : E (.ref a.CN) none H) : t_rmsg m a E D σ H := by
  have hr := PySem.StrLaws.reprText_len z hc
  have e0 : (Str.empty).length = 0 := rfl
  refine ⟨_, rfl, szl (by rw [len_app]; omega), _, h1, .inl ⟨z, rfl, szB (by omega), _, rfl, szB (by rw [len_app, len_app]; omega), by show 1 ≤ sizeLine; decide, h⟩⟩
theorem m1_len : (Str.ofString "not a fraction: ").length ≤ 1000 := by decide +kernel
theorem m2_len : (Str.ofString "not the written form of a fraction: ").length ≤ 1000 := by decide +kernel
theorem int_any {x : Str} {l : List Nat} (hx : tl x = l) (h : dig (dropMinus l) = true) : intText? x = some (intOf l) ∧ x.length ≤ 640 := by
  obtain ⟨h1, h2, h3⟩ := dig_iff.mp h
  have hl := len_tl x
  rw [hx] at hl
  by_cases hm : ∃ r, l = 45 :: r
  · obtain ⟨r, rfl⟩ := hm
    have e : dropMinus (45 :: r) = r := rfl
    rw [e] at h1 h2 h3
    refine ⟨?_, by rw [hl, List.length_cons]; omega⟩
    have := intText_neg (x := x) (cs := r) hx h3 (fun q => by rw [q] at h1; exact absurd h1 (by decide)) (by rw [hl, List.length_cons]; omega)
    rw [this]; rfl
  · have e : dropMinus l = l := by
      unfold dropMinus
      split
      · rename_i r; exact absurd ⟨r, rfl⟩ hm
      · rfl
    have e2 : intOf l = ((NumText.digitsVal l : Nat) : Int) := by
      unfold intOf
      split
      · rename_i r; exact absurd ⟨r, rfl⟩ hm
      · rfl
    rw [e] at h1 h2 h3
    refine ⟨?_, by rw [hl]; omega⟩
    have := intText_digits (x := x) (by rw [show x.cps.toList = l from hx]; exact h3) (by rw [show x.cps.toList = l from hx]; intro q; rw [q] at h1; exact absurd h1 (by decide)) (by rw [hl]; omega)
    rw [this, e2, show x.cps.toList = l from hx]
theorem dig_pos {l : List Nat} (h : dig l = true) : dropMinus l = l ∧ intOf l = ((NumText.digitsVal l : Nat) : Int) := by
  obtain ⟨h1, h2, h3⟩ := dig_iff.mp h
  have hm : ¬ ∃ r, l = 45 :: r := fun ⟨r, e⟩ => by
    have := h3 45 (by rw [e]; exact List.mem_cons_self)
    omega
  refine ⟨?_, ?_⟩
  · unfold dropMinus
    split
    · rename_i r; exact absurd ⟨r, rfl⟩ hm
    · rfl
  · unfold intOf
    split
    · rename_i r; exact absurd ⟨r, rfl⟩ hm
    · rfl
theorem sm_wr {n : Int} {d : Nat} (hd : d ≠ 0) (h1 : n.natAbs < 10 ^ 60) (h2 : d < 10 ^ 60) : Sm 1900 (Rat.divInt n d) := by
  obtain ⟨k1, k2⟩ := den_le (n := n) hd
  have e : 10 ^ 60 ≤ 2 ^ 1900 := Nat.le_trans (show 10 ^ 60 ≤ 2 ^ 200 by decide) (Nat.pow_le_pow_right (by decide) (by decide))
  exact ⟨by omega, by omega⟩
theorem rdTail_ok {K : PySem.W.Frag} {a : RA} {E : XK} {Q : VK} {H H1 : Hp} {z t sl b : Str} (s1 : Same H H1) (hz : z.length ≤ 100000) (hc : ∀ c ∈ z.cps.toList, c < 16 ^ 8) (k1 : ∀ q, Wr (tl z) q → Wn H Q fun v H' => RatAt a.C H' v q)
    (k2 : (∀ q, ¬ Wr (tl z) q) → ∀ H', Same H H' → E (.ref a.CN) none H') (ht : tl t = topL (tl z)) (hb : tl b = botL (tl z)) (htl : t.length ≤ 100000) (hbl : b.length ≤ 100000) :
    t_rdTail K a E { nx := fun _ H' => Q .non H', rt := Q } [some (.ref a.C), some (.str z), some (.str t), some (.str sl), some (.str b), none] H1 := by
  have bad : okL (tl z) = false → ∀ H', Same H H' → E (.ref a.CN) none H' := fun ho => k2 fun q hq => by
    have := (wr_ok hq).1
    rw [ho] at this
    exact absurd this (by decide)
  have hrl : (Txt.removeprefix t (Str.ofString "-")).length ≤ 100000 := by
    have e : tl (Txt.removeprefix t (Str.ofString "-")) = dropMinus (tl t) := tl_rmp t
    rw [len_tl, e]
    have := dropMinus_len (tl t)
    have := len_tl t
    omega
  have go : okL (tl z) = true → ∀ H2, Same H H2 → tSeq (tAsg (tCv 0 a.C (rSp (spMkR a) fun x => E0) (tCons (t_int 2) (tCons (t_int 4) tNil))) (gName 5))
      (tSeq (tIfS (tTest (tOp rNe (tCB (fun vs H Q => ∃ x, vs = [x] ∧ IsIns a.C H x ∧ spStrR a [x] H (fun v H' => ∃ b, v = V.str b ∧ Q (V.str b) H') E0) (tCons (tVar 5) tNil)) (tVar 1))) (t_rmsg (Str.ofString "not the written form of a fraction: ") a E) tNext) (tRet (tVar 5)))
      { nx := fun _ H' => Q .non H', rt := Q } [some (.ref a.C), some (.str z), some (.str t), some (.str sl), some (.str b), none] H2 := by
    intro ho H2 s2
    have ho' := ho
    unfold okL at ho'
    rw [Bool.and_eq_true, Bool.and_eq_true] at ho'
    obtain ⟨⟨d1, d2⟩, d3⟩ := ho'
    have d3' : NumText.digitsVal (botL (tl z)) ≠ 0 := by simpa using d3
    obtain ⟨p1, p2⟩ := dig_pos d2
    obtain ⟨i1, l1⟩ := int_any ht (by rw [← ht] at d1 ⊢; exact d1)
    obtain ⟨i2, l2⟩ := int_any hb (by rw [p1]; exact d2)
    rw [p2] at i2
    have sm := sm_wr (n := intOf (topL (tl z))) d3' (by
      rw [dropMinus_val]
      obtain ⟨a1, a2, a3⟩ := dig_iff.mp d1
      exact Nat.lt_of_lt_of_le (digitsVal_lt _ a3) (Nat.pow_le_pow_right (by decide) a2)) (by
      obtain ⟨a1, a2, a3⟩ := dig_iff.mp d2
      exact Nat.lt_of_lt_of_le (digitsVal_lt _ a3) (Nat.pow_le_pow_right (by decide) a2))
    have hlt : NumText.digitsVal (botL (tl z)) < 2 ^ 9000 := by
      obtain ⟨a1, a2, a3⟩ := dig_iff.mp d2
      exact Nat.lt_of_lt_of_le (digitsVal_lt _ a3) (Nat.le_trans (Nat.pow_le_pow_right (by decide) a2) (Nat.le_trans (show 10 ^ 60 ≤ 2 ^ 200 by decide) (Nat.pow_le_pow_right (by decide) (by decide))))
    refine ⟨rfl, _, rfl, t, _, rfl, i1, l1, _, rfl, b, _, rfl, i2, l2, _, _, rfl, fun hz => absurd hz (by omega), fun _ => ⟨by rw [Int.natAbs_natCast]; exact hlt, fun v H3 s3 hv => ?_⟩⟩
    refine ⟨_, rfl, v, rfl, hv.ins, v, _, rfl, hv, sm, fun y hy hyl => ⟨y, rfl, ?_⟩⟩
    refine ⟨_, rfl, rfl, _, rfl, ?_⟩
    refine ite2 (fun e => ?_) (fun e => ?_)
    · have hne : ¬ y = z := fun q => by
        rw [q] at e
        simp at e
      refine rmsg_ok rfl m2_len hz hc (k2 (fun q hq => hne ?_) H3 (s2.trans s3))
      obtain ⟨_, e2⟩ := wr_ok hq
      rw [e2, hq.1] at hy
      exact ext_tl hy
    · have he : y = z := by
        by_cases q : y = z
        · exact q
        · exact absurd (by
            have : decide (V.str y = V.str z) = false := decide_eq_false fun w => q (V.str.inj w)
            rw [this]; rfl) e
      rw [he] at hy
      exact ⟨_, rfl, k1 _ (ok_wr ho hy.symm) v H3 (s2.trans s3) hv⟩
  refine ⟨_, rfl, rfl, t, _, rfl, rfl, szl htl, _, rfl, hrl, fun H2 s2 => ⟨_, rfl, ?_⟩⟩
  have e1 : dig (tl (Txt.removeprefix t (Str.ofString "-"))) = dig (dropMinus (topL (tl z))) := by
    have e : tl (Txt.removeprefix t (Str.ofString "-")) = dropMinus (tl t) := tl_rmp t
    rw [e, ht]
  rw [e1]
  cases hd1 : dig (dropMinus (topL (tl z))) with
  | false =>
    refine iteF (iteT (iteT ?_))
    exact rmsg_ok rfl m1_len hz hc (bad (by unfold okL; rw [hd1]; rfl) H2 (s1.trans s2))
  | true =>
    refine iteT ⟨_, rfl, _, rfl, hbl, fun H3 s3 => ⟨_, rfl, ?_⟩⟩
    rw [hb]
    cases hd2 : dig (botL (tl z)) with
    | false =>
      refine iteT (iteT ?_)
      exact rmsg_ok rfl m1_len hz hc (bad (by unfold okL; rw [hd1, hd2]; rfl) H3 ((s1.trans s2).trans s3))
    | true =>
      obtain ⟨p1, p2⟩ := dig_pos hd2
      obtain ⟨i2, l2⟩ := int_any hb (by rw [p1]; exact hd2)
      rw [p2] at i2
      refine iteF ⟨_, rfl, b, _, rfl, i2, l2, rfl, _, rfl, ?_⟩
      refine ite2 (fun e => ?_) (fun e => ?_)
      · have h0 : NumText.digitsVal (botL (tl z)) = 0 := by have := V.int.inj (of_decide_eq_true e); omega
        exact rmsg_ok rfl m1_len hz hc (bad (by unfold okL; rw [hd1, hd2, h0]; rfl) H3 ((s1.trans s2).trans s3))
      · have h0 : NumText.digitsVal (botL (tl z)) ≠ 0 := fun q => e (by rw [q]; exact decide_eq_true rfl)
        refine go ?_ H3 ((s1.trans s2).trans s3)
        unfold okL
        rw [hd1, hd2]
        simpa using h0
section
variable {P : Program} {w : World} {K : PySem.W.Frag} {mg : Str → Option Value} {base : Heap} {a : RA}
theorem ok_Ratio_read {fd : FuncData} (F : Fun K "read" "Ratio.read" s_Ratio_read a.fRead fd) (T : RT K mg a) (G_are_digits : FR P w K mg base 1 a.fDig spDig) (G_Ratio_init2 : FR P w K mg base 1 a.fInit (spInit a)) (G_Ratio_str : FR P w K mg base 1 a.fStr (spStrR a)) : FnOk P w K mg base (L2.CX P w) 4 a.fRead fd p_Ratio_read (spRead a) := by
  refine F.okX sc_Ratio_read (fun vs H Q E h => ?_) (fun cdv A outer s H vs Q E hr h => ?_)
  · obtain ⟨_, rfl, _⟩ := h
    rfl
  · obtain ⟨z, rfl, hz, hc, k1, k2⟩ := h
    refine ⟨_, (pss_cons (ps_asg (pe_partition (pv 1) pe_str) (pg_tup rfl (pgs_cons (pg_name (i := 2) sc_Ratio_read.nd rfl (Or.inl rfl)) (pgs_cons (pg_name (i := 3) sc_Ratio_read.nd rfl (Or.inl rfl)) (pgs_cons (pg_name (i := 4) sc_Ratio_read.nd rfl (Or.inl rfl)) pgs_nil)))))
      (pss_cons (ps_if (pt_not (pt_truth (pv 3) (by intro _; rfl))) (pss_one (ps_set (i := 4) sc_Ratio_read.nd rfl (Or.inl rfl) pe_str)) pss_nil)
      (pss_cons (ps_if (PW.pt (pw_or (pt_not (PW.pt (pw_and (pt_val (pe_cg (cal_fn G_are_digits p0) (hr.mono (by decide)) rfl T.m_are_digits T.k_are_digits (pa_cons (pe_bm PySem.F.plainAttrs_str PySem.F.slot_str_removeprefix PySem.F.type_str_removeprefix mt_removeprefix (pv 2) (pa_cons pe_str pa_nil)) pa_nil))) (pw_and1 (pt_val (pe_cg (cal_fn G_are_digits p0) (hr.mono (by decide)) rfl T.m_are_digits T.k_are_digits (pa_cons (pv 4) pa_nil))))))) (pw_or1 (pt_cmpR op_eq (pe_callTy call_int_str (by rfl) T.n_int (by decide +kernel) (pa_cons (pv 4) pa_nil)) pe_int (nomark _))))) (pss_one (ps_raise rfl (takes_of rfl rfl rfl rfl) (pmk_ownA PySem.F.excBase_ValueError T.x_InvalidNumber T.m_InvalidNumber T.k_InvalidNumber (raises_own T.b_InvalidNumber T.t_InvalidNumber) rfl (pa_cons (pe_joined (.cons pe_str (.cons (pe_fmtR (pv 1)) .nil))) pa_nil)))) pss_nil)
      (pss_cons (ps_set (i := 5) sc_Ratio_read.nd rfl (Or.inl rfl) (pe_cv (i := 0) (mk_Ratio2 T G_Ratio_init2 p0) (hr.mono (by decide)) rfl (.inl rfl) T.mk_Ratio.kp (pa_cons (pe_callTy call_int_str (by rfl) T.n_int (by decide +kernel) (pa_cons (pv 2) pa_nil)) (pa_cons (pe_callTy call_int_str (by rfl) T.n_int (by decide +kernel) (pa_cons (pv 4) pa_nil)) pa_nil))))
      (pss_cons (ps_if (pt_cmpR op_ne (pe_callTy (cr_strOwn T.me_Ratio_str (cal_fn G_Ratio_str p0) (hr.mono (by decide))) (by rfl) T.n_str (by decide +kernel) (pa_cons (pv 5) pa_nil)) (pv 1) (nomark _)) (pss_one (ps_raise rfl (takes_of rfl rfl rfl rfl) (pmk_ownA PySem.F.excBase_ValueError T.x_InvalidNumber T.m_InvalidNumber T.k_InvalidNumber (raises_own T.b_InvalidNumber T.t_InvalidNumber) rfl (pa_cons (pe_joined (.cons pe_str (.cons (pe_fmtR (pv 1)) .nil))) pa_nil)))) pss_nil)
      (pss_one (ps_ret (pv 5)))))))), ?_⟩
    refine ⟨_, rfl, ⟨_, rfl⟩, z, _, rfl, rfl, by rw [slash]; rfl, szl hz, fun p hp => ⟨p, _, rfl, SqT.of upd_same, rfl, ?_⟩⟩
    have one : tl (Str.ofString "1") = [49] := by decide +kernel
    have hl := len_tl z
    have sm := same_upd hp (o := HO.tup [V.str (Txt.partition z (Str.ofString "/")).1, V.str (Txt.partition z (Str.ofString "/")).2.1, V.str (Txt.partition z (Str.ofString "/")).2.2])
    refine ⟨_, _, rfl, _, _, rfl, _, _, rfl, rfl, ?_⟩
    by_cases h47 : 47 ∈ tl z
    · obtain ⟨u, v, e, hu⟩ := first47 h47
      obtain ⟨a1, a2, a3⟩ := part_at e hu
      obtain ⟨w1, w2⟩ := takeW_free (v := v) hu
      have lu : u.length + v.length + 1 = (tl z).length := by rw [e]; simp; omega
      have l1 := len_tl (Txt.partition z (Str.ofString "/")).1
      have l3 := len_tl (Txt.partition z (Str.ofString "/")).2.2
      have a1' : tl (Txt.partition z (Str.ofString "/")).1 = u := a1
      have a3' : tl (Txt.partition z (Str.ofString "/")).2.2 = v := a3
      rw [a1'] at l1
      rw [a3'] at l3
      refine ⟨_, rfl, true, ?_, iteF ?_⟩
      · show (Txt.partition z (Str.ofString "/")).2.1.length ≤ sizeLine ∧ true = (((Txt.partition z (Str.ofString "/")).2.1.length : Int) != 0)
        have a2' : (Txt.partition z (Str.ofString "/")).2.1 = Str.ofString "/" := a2
        rw [a2']
        exact ⟨szl (by decide +kernel), by decide +kernel⟩
      · exact rdTail_ok sm hz hc k1 k2 (by rw [a1']; unfold topL; rw [e, w1]) (by rw [a3']; unfold botL; rw [e, w2]) (by omega) (by omega)
    · have e : Txt.partition z (Str.ofString "/") = (z, Str.empty, Str.empty) := part_no h47
      rw [e] at sm ⊢
      obtain ⟨w1, w2⟩ := takeW_all h47
      refine ⟨_, rfl, false, ⟨szl (show 0 ≤ 100000 by decide), rfl⟩, iteT ?_⟩
      exact rdTail_ok (b := Str.ofString "1") sm hz hc k1 k2 (by unfold topL; rw [w1]) (by unfold botL; rw [w2, one]) hz (by decide +kernel)
end
end TL
namespace TL
open PySem PySem.Spec PyProof.Rows L2 TLX
/-- where the law's own defs stand -/
structure LA extends RA where
  f_law_cell : Addr
  f_law_span : Addr
  f_law_divisor : Addr
  f_law_lowest : Addr
  f_law_same : Addr
  f_law_written : Addr
  f_law_refused : Addr
  f_law_no_divisor : Addr
  f_law_arithmetic : Addr
  f_law_texts : Addr
structure LT (K : PySem.W.Frag) (mg : Str → Option Value) (a : LA) : Prop extends RT K mg a.toRA where
  m_law_cell : mg "_law_cell" = some (.ref a.f_law_cell)
  k_law_cell : PySem.W.keepIn K (.ref a.f_law_cell) = true
  m_law_span : mg "_law_span" = some (.ref a.f_law_span)
  k_law_span : PySem.W.keepIn K (.ref a.f_law_span) = true
  m_law_divisor : mg "_law_divisor" = some (.ref a.f_law_divisor)
  k_law_divisor : PySem.W.keepIn K (.ref a.f_law_divisor) = true
  m_law_lowest : mg "_law_lowest" = some (.ref a.f_law_lowest)
  k_law_lowest : PySem.W.keepIn K (.ref a.f_law_lowest) = true
  m_law_same : mg "_law_same" = some (.ref a.f_law_same)
  k_law_same : PySem.W.keepIn K (.ref a.f_law_same) = true
  m_law_written : mg "_law_written" = some (.ref a.f_law_written)
  k_law_written : PySem.W.keepIn K (.ref a.f_law_written) = true
  m_law_refused : mg "_law_refused" = some (.ref a.f_law_refused)
  k_law_refused : PySem.W.keepIn K (.ref a.f_law_refused) = true
  m_law_no_divisor : mg "_law_no_divisor" = some (.ref a.f_law_no_divisor)
  k_law_no_divisor : PySem.W.keepIn K (.ref a.f_law_no_divisor) = true
  m_law_arithmetic : mg "_law_arithmetic" = some (.ref a.f_law_arithmetic)
  k_law_arithmetic : PySem.W.keepIn K (.ref a.f_law_arithmetic) = true
  m_law_texts : mg "_law_texts" = some (.ref a.f_law_texts)
  k_law_texts : PySem.W.keepIn K (.ref a.f_law_texts) = true
  n_ValueError : mg "ValueError" = none
  m_TableError : mg "TableError" = some (.ref a.CT)
  ec_InvalidNumber : ExcC K a.CN
  ec_ZeroDivisor : ExcC K a.CZ
  i_NT : PySem.W.kitOne K (.ref a.CN) (.ref a.CT) = some true
  i_NV : PySem.W.kitOne K (.ref a.CN) (.type "ValueError") = some true
  i_NZ : PySem.W.kitOne K (.ref a.CN) (.ref a.CZ) = some false
  i_ZT : PySem.W.kitOne K (.ref a.CZ) (.ref a.CT) = some true
  i_ZN : PySem.W.kitOne K (.ref a.CZ) (.ref a.CN) = some false
  eNN : PySem.W.exmOne K (.ref a.CN) (.ref a.CN) = some true
  eZZ : PySem.W.exmOne K (.ref a.CZ) (.ref a.CZ) = some true
/-! ### promises -/
def spCell (K : PySem.W.Frag) : Sp := fun vs H Q _ => ∃ (l : Addr) (ns : List Int) (k : Int), vs = [.ref l, .int k] ∧ SqL K H l (ns.map V.int) ∧ 0 ≤ k ∧ k < 1000 ∧ ∀ i : Int, Q (.int i) H
def spSpan : Sp := fun vs H Q _ => ∃ (n : Int) (b : Bool), vs = [.int n, .bl b] ∧ ∀ i : Int, i.natAbs ≤ 10 ^ 12 → Q (.int i) H
def spDvs : Sp := fun vs H Q _ => ∃ x y : Int, vs = [.int x, .int y] ∧ y.natAbs ≤ 10 ^ 80 ∧ Q (.int ((Nat.gcd x.natAbs y.natAbs : Nat) : Int)) H
def spLow : Sp := fun vs H Q _ => ∃ n d : Int, vs = [.int n, .int d] ∧ d ≠ 0 ∧ d.natAbs ≤ 10 ^ 80 ∧ ∀ p H', Same H H' → H' p = some (.tup [.int (Rat.divInt n d).num, .int (Rat.divInt n d).den]) → Q (.ref p) H'
def spSame (a : RA) : Sp := fun vs H Q _ => ∃ v q, ∃ n d : Int, vs = [v, .int n, .int d] ∧ RatAt a.C H v q ∧ d ≠ 0 ∧ d.natAbs ≤ 10 ^ 80 ∧ ∀ H', Same H H' → Q (.bl (decide (q = Rat.divInt n d))) H'
def spWrt : Sp := fun vs H Q _ => ∃ n d : Int, vs = [.int n, .int d] ∧ d ≠ 0 ∧ d.natAbs ≤ 10 ^ 80 ∧ n.natAbs ≤ 10 ^ 80 ∧ ∀ y H', Same H H' → tl y = rL (Rat.divInt n d) → Q (.str y) H'
abbrev s_law_cell : Stmt := top 10
abbrev n_law_cell : List Str := ["script", "k"]
abbrev p_law_cell : List Str := ["script", "k"]
theorem sc_law_cell : FnScope n_law_cell p_law_cell (defScope s_law_cell) := ⟨rfl, rfl, rfl, by decide +kernel, rfl, by decide +kernel, by decide +kernel⟩
abbrev s_law_span : Stmt := top 11
abbrev n_law_span : List Str := ["number", "small"]
abbrev p_law_span : List Str := ["number", "small"]
theorem sc_law_span : FnScope n_law_span p_law_span (defScope s_law_span) := ⟨rfl, rfl, rfl, by decide +kernel, rfl, by decide +kernel, by decide +kernel⟩
abbrev s_law_divisor : Stmt := top 12
abbrev n_law_divisor : List Str := ["a", "b", "turn", "rest"]
abbrev p_law_divisor : List Str := ["a", "b"]
theorem sc_law_divisor : FnScope n_law_divisor p_law_divisor (defScope s_law_divisor) := ⟨rfl, rfl, rfl, by decide +kernel, rfl, by decide +kernel, by decide +kernel⟩
abbrev s_law_lowest : Stmt := top 13
abbrev n_law_lowest : List Str := ["num", "den", "common"]
abbrev p_law_lowest : List Str := ["num", "den"]
theorem sc_law_lowest : FnScope n_law_lowest p_law_lowest (defScope s_law_lowest) := ⟨rfl, rfl, rfl, by decide +kernel, rfl, by decide +kernel, by decide +kernel⟩
abbrev s_law_same : Stmt := top 14
abbrev n_law_same : List Str := ["ratio", "num", "den"]
abbrev p_law_same : List Str := ["ratio", "num", "den"]
theorem sc_law_same : FnScope n_law_same p_law_same (defScope s_law_same) := ⟨rfl, rfl, rfl, by decide +kernel, rfl, by decide +kernel, by decide +kernel⟩
abbrev s_law_written : Stmt := top 15
abbrev n_law_written : List Str := ["num", "den", "pair"]
abbrev p_law_written : List Str := ["num", "den"]
theorem sc_law_written : FnScope n_law_written p_law_written (defScope s_law_written) := ⟨rfl, rfl, rfl, by decide +kernel, rfl, by decide +kernel, by decide +kernel⟩

theorem p80 : 10 ^ 80 < 2 ^ 300 := by decide
section
variable {P : Program} {w : World} {K : PySem.W.Frag} {mg : Str → Option Value} {base : Heap} {a : LA}
theorem ok_law_cell {fd : FuncData} (F : Fun K "_law_cell" "_law_cell" s_law_cell a.f_law_cell fd) (T : LT K mg a) : FnOk P w K mg base (L2.CX P w) 1 a.f_law_cell fd p_law_cell (spCell K) := by
  refine F.okX sc_law_cell (fun vs H Q E h => ?_) (fun cdv A outer s H vs Q E hr h => ?_)
  · obtain ⟨_, _, _, rfl, _⟩ := h
    rfl
  · obtain ⟨l, ns, k, rfl, hS, h0, h1, kk⟩ := h
    refine ⟨_, (pss_cons (ps_if (pt_cmpR op_lt (pv 1) (pe_callB call_len_seq (by rfl) T.n_len (by decide +kernel) (pa_cons (pv 0) pa_nil)) (nomark _)) (pss_one (ps_ret (pe_ix ix_list (pv 0) (pv 1) (fun _ _ => rfl)))) pss_nil)
      (pss_one (ps_ret (pe_op op_add (pe_op op_mulW pe_int (pv 1)) (pe_callB call_len_seq (by rfl) T.n_len (by decide +kernel) (pa_cons (pv 0) pa_nil)))))), ?_⟩
    refine ⟨_, rfl, _, rfl, l, _, rfl, .inl hS, _, _, rfl, rfl, _, rfl, ?_⟩
    refine ite2 (fun e => ?_) (fun e => ?_)
    · have e' : k < ((ns.map V.int).length : Nat) := of_decide_eq_true e
      rw [List.length_map] at e'
      have hk : ns[k.toNat]? = some (ns[k.toNat]'(by omega)) := List.getElem?_eq_getElem _
      refine ⟨_, rfl, _, rfl, l, _, k, .int (ns[k.toNat]'(by omega)), rfl, rfl, hS, at_of (j := k.toNat) (by omega) (by rw [List.getElem?_map, hk]; rfl), kk _⟩
    · exact ⟨_, rfl, _, _, rfl, rfl, wide_mul (a := 10) (b := 10) (by decide) (by omega) (by decide) (by decide) (by decide), _, rfl, l, _, rfl, .inl hS, _, _, rfl, rfl, kk _⟩
theorem ok_law_span {fd : FuncData} (F : Fun K "_law_span" "_law_span" s_law_span a.f_law_span fd) (T : LT K mg a) : FnOk P w K mg base (L2.CX P w) 1 a.f_law_span fd p_law_span spSpan := by
  refine F.okX sc_law_span (fun vs H Q E h => ?_) (fun cdv A outer s H vs Q E hr h => ?_)
  · obtain ⟨_, _, rfl, _⟩ := h
    rfl
  · obtain ⟨n, b, rfl, k⟩ := h
    refine ⟨_, (pss_cons (ps_if (pt_val (pv 1)) (pss_one (ps_ret (pe_op op_sub (pe_op op_mod (pe_callTy call_int1 (by rfl) T.n_int (by decide +kernel) (pa_cons (pv 0) pa_nil)) pe_int) pe_int))) pss_nil)
      (pss_one (ps_ret (pe_op op_sub (pe_op op_mod (pe_callTy call_int1 (by rfl) T.n_int (by decide +kernel) (pa_cons (pv 0) pa_nil)) (pe_op op_add (pe_op op_mulW pe_int (pe_op op_pow pe_int pe_int)) pe_int)) (pe_op op_pow pe_int pe_int))))), ?_⟩
    refine ⟨_, rfl, _, rfl, ?_⟩
    refine ite2 (fun e => ?_) (fun e => ?_)
    · refine ⟨_, rfl, .inl ⟨_, rfl, _, _, rfl, rfl, (by show (0 : Int) < 13; decide), _, _, rfl, rfl, k _ ?_⟩⟩
      have := Int.emod_nonneg n (show (13 : Int) ≠ 0 by decide)
      have := Int.emod_lt_of_pos n (show (0 : Int) < 13 by decide)
      omega
    · refine ⟨_, rfl, .inl ⟨_, rfl, _, _, rfl, rfl, ⟨by decide, by decide, by decide⟩, _, _, rfl, rfl, by unfold CMulW; decide +kernel, _, _, rfl, rfl, _, _, rfl, rfl, (by show (0 : Int) < 2 * 10 ^ (12 : Int).toNat + 1; decide +kernel), _, _, rfl, rfl, ⟨by decide, by decide, by decide⟩, _, _, rfl, rfl, k _ ?_⟩⟩
      show (n % (2 * 10 ^ (12 : Int).toNat + 1) - 10 ^ (12 : Int).toNat).natAbs ≤ 10 ^ 12
      have e1 : (10 : Int) ^ (12 : Int).toNat = 1000000000000 := by decide
      rw [e1]
      have := Int.emod_nonneg n (show (2 * 1000000000000 + 1 : Int) ≠ 0 by decide)
      have := Int.emod_lt_of_pos n (show (0 : Int) < 2 * 1000000000000 + 1 by decide)
      omega
theorem ok_law_divisor {fd : FuncData} (F : Fun K "_law_divisor" "_law_divisor" s_law_divisor a.f_law_divisor fd) (T : LT K mg a) : FnOk P w K mg base (L2.CX P w) 1 a.f_law_divisor fd p_law_divisor spDvs := by
  refine FnOk.up (F.ok sc_law_divisor (fun vs H Q E h => ?_) (fun cdv A outer s H vs Q E hr h => ?_))
  · obtain ⟨_, _, rfl, _⟩ := h
    rfl
  · obtain ⟨x, y, rfl, hy, k⟩ := h
    refine ⟨_, (pss_cons (ps_set (i := 0) sc_law_divisor.nd rfl (Or.inl rfl) (pe_callB call_abs (by rfl) T.n_abs (by decide +kernel) (pa_cons (pv 0) pa_nil)))
      (pss_cons (ps_set (i := 1) sc_law_divisor.nd rfl (Or.inl rfl) (pe_callB call_abs (by rfl) T.n_abs (by decide +kernel) (pa_cons (pv 1) pa_nil)))
      (pss_cons (ps_for PassesOwn.never rfl (pi_range1 (by rfl) T.n_range (pa_cons pe_int pa_nil)) (pg_name (i := 2) sc_law_divisor.nd rfl (Or.inl rfl))
      (pss_cons (ps_if (pt_cmpR op_eq (pv 1) pe_int (nomark _)) (pss_one ps_break) pss_nil)
      (pss_cons (ps_set (i := 3) sc_law_divisor.nd rfl (Or.inl rfl) (pe_op op_modN (pe_callTy call_int1 (by rfl) T.n_int (by decide +kernel) (pa_cons (pv 0) pa_nil)) (pv 1)))
      (pss_cons (ps_set (i := 0) sc_law_divisor.nd rfl (Or.inl rfl) (pv 1))
      (pss_one (ps_set (i := 1) sc_law_divisor.nd rfl (Or.inl rfl) (pv 3)))))))
      (pss_one (ps_ret (pv 0)))))), ?_⟩
    have ab : ∀ z : Int, (if z < 0 then -z else z) = ((z.natAbs : Nat) : Int) := fun z => by split <;> omega
    refine ⟨_, rfl, _, rfl, ?_⟩
    rw [ab]
    refine ⟨_, rfl, _, rfl, ?_⟩
    rw [ab]
    refine ⟨_, rfl, by decide, by decide, for_range (lo := 0) (n := 400) (fun i σ H' => ∃ (u v : Nat) (o1 o2 : Option V), σ = [some (.int u), some (.int v), o1, o2] ∧ H' = H ∧ euc (400 - i) u v = Nat.gcd x.natAbs y.natAbs) ⟨_, _, none, none, rfl, rfl, euc400 hy⟩ ?_ ?_⟩
    · rintro i σ H' hi ⟨u, v, o1, o2, rfl, rfl, he⟩
      have e400 : 400 - i = (400 - (i + 1)) + 1 := by omega
      rw [e400] at he
      unfold euc at he
      refine ⟨_, rfl, rfl, _, rfl, ?_⟩
      refine ite2 (fun e => ?_) (fun e => ?_)
      · have e' : v = 0 := by have := V.int.inj (of_decide_eq_true e); omega
        rw [if_pos e'] at he
        exact ⟨_, rfl, by rw [he]; exact k⟩
      · have e' : v ≠ 0 := fun q => e (by rw [q]; exact decide_eq_true rfl)
        rw [if_neg e'] at he
        refine ⟨_, rfl, .inl ⟨_, rfl, _, rfl, _, _, rfl, rfl, by omega, _, rfl, _, rfl, ?_⟩⟩
        have hm : (u : Int).fmod (v : Int) = ((u % v : Nat) : Int) := by rw [Int.fmod_eq_emod_of_nonneg _ (by omega)]; rfl
        refine ⟨v, u % v, some (.int (0 + i)), some (.int ((u % v : Nat) : Int)), ?_, rfl, he⟩
        show [some (V.int v), some (V.int ((u : Int).fmod v)), some (V.int (0 + i)), some (V.int ((u : Int).fmod v))] = _
        rw [hm]
    · rintro σ H' ⟨u, v, o1, o2, rfl, rfl, he⟩
      have he' : u = Nat.gcd x.natAbs y.natAbs := he
      exact ⟨_, rfl, by rw [he']; exact k⟩
theorem ok_law_lowest {fd : FuncData} (F : Fun K "_law_lowest" "_law_lowest" s_law_lowest a.f_law_lowest fd) (T : LT K mg a) (G_law_divisor : FR P w K mg base 1 a.f_law_divisor spDvs) : FnOk P w K mg base (L2.CX P w) 2 a.f_law_lowest fd p_law_lowest spLow := by
  refine F.okX sc_law_lowest (fun vs H Q E h => ?_) (fun cdv A outer s H vs Q E hr h => ?_)
  · obtain ⟨_, _, rfl, _⟩ := h
    rfl
  · obtain ⟨n, d, rfl, hd, hy, k⟩ := h
    refine ⟨_, (pss_cons (ps_set (i := 2) sc_law_lowest.nd rfl (Or.inl rfl) (pe_cg (cal_fn G_law_divisor p0) (hr.mono (by decide)) rfl T.m_law_divisor T.k_law_divisor (pa_cons (pv 0) (pa_cons (pv 1) pa_nil))))
      (pss_cons (ps_if (pt_cmpR op_lt (pv 1) pe_int (nomark _)) (pss_one (ps_set (i := 2) sc_law_lowest.nd rfl (Or.inl rfl) (pe_un un_neg (pv 2)))) pss_nil)
      (pss_one (ps_ret (pe_tup (pa_cons (pe_op op_fdivX (pv 0) (pv 2)) (pa_cons (pe_op op_fdivX (pv 1) (pv 2)) pa_nil))))))), ?_⟩
    refine ⟨_, rfl, _, rfl, n, d, rfl, hy, _, rfl, _, _, rfl, rfl, _, rfl, ?_⟩
    have hg := gsg_ne (n := n) hd
    have gl : (gsg n d).natAbs.log2 < 9000 := (Nat.log2_lt (by omega)).mpr (Nat.lt_of_le_of_lt (Nat.le_trans (gsg_le hd) hy) (Nat.lt_of_lt_of_le p80 (Nat.pow_le_pow_right (by decide) (by decide))))
    have fin : ∀ g : Int, g = gsg n d → tRet (tTup (tCons (tOp rFdX (tVar 0) (tVar 2)) (tCons (tOp rFdX (tVar 1) (tVar 2)) tNil))) { nx := fun _ H' => Q .non H', rt := Q } [some (.int n), some (.int d), some (.int g)] H := fun g e => by
      subst e
      refine ⟨_, rfl, _, rfl, _, _, rfl, rfl, ⟨hg, gl⟩, _, rfl, _, rfl, _, _, rfl, rfl, ⟨hg, gl⟩, by show 2 ≤ sizeLine; decide, fun p hp => k p _ (same_upd hp) ?_⟩
      rw [upd_same]
      show some (HO.tup [V.int (n.fdiv (gsg n d)), V.int (d.fdiv (gsg n d))]) = _
      rw [num_rq hd, den_rq hd]
    refine ite2 (fun e => ?_) (fun e => ?_)
    · have e' : d < 0 := of_decide_eq_true e
      exact ⟨_, rfl, _, rfl, fin _ (by unfold gsg; rw [if_pos e'])⟩
    · have e' : ¬ d < 0 := fun q => e (decide_eq_true q)
      exact fin _ (by unfold gsg; rw [if_neg e'])
end
end TL
namespace TL
open PySem PySem.Spec PyProof.Rows L2 TLX
def spRef (a : RA) : Sp := fun vs H Q _ => ∃ z : Str, vs = [.str z] ∧ z.length ≤ 100000 ∧ (∀ c ∈ z.cps.toList, c < 16 ^ 8) ∧ (∀ q, ¬ Wr (tl z) q) ∧ ∀ H', Same H H' → Q (.bl true) H'
def spNoD (a : RA) : Sp := fun vs H Q _ => ∃ (n d : Int) (o : V), vs = [.int n, .int d, o] ∧ RatAt a.C H o 0 ∧ d ≠ 0 ∧ d.natAbs ≤ 10 ^ 80 ∧ n.natAbs ≤ 10 ^ 80 ∧ ∀ H', Same H H' → Q (.bl true) H'
/-- isinstance of the error that the suite holds -/
theorem call_isE1 {X : Cx} {a : Addr} {oe : Obj} {cls : Value} {d : Option Addr} {pn : List (Addr × Obj)} (hz : Zc cls d oe) (hf : ∃ vs, oe.data = .fields vs) :
    CallR (X.suite a ((a, oe) :: pn)) (.builtin "isinstance") (fun xs H Q => ∃ D, ExcC X.K D ∧ cls = .ref D ∧ d = none ∧ rIsE X.K D a xs H Q) := by
  intro pins s σ H xs us Q I r h
  obtain ⟨D, C, rfl, rfl, h⟩ := h
  exact call_isE C hz hf pins s σ H xs us Q I r h
theorem sm80 {n d : Int} (hd : d ≠ 0) (h1 : n.natAbs ≤ 10 ^ 80) (h2 : d.natAbs ≤ 10 ^ 80) : Sm 1900 (Rat.divInt n d) := by
  have e : 10 ^ 80 < 2 ^ 1900 := Nat.lt_of_lt_of_le p80 (Nat.pow_le_pow_right (by decide) (by decide))
  refine ⟨?_, ?_⟩
  · have q : (d.sign * n).natAbs ≤ n.natAbs := by
      rcases Int.lt_or_gt_of_ne hd with z | z
      · rw [Int.sign_eq_neg_one_of_neg z]; omega
      · rw [Int.sign_eq_one_of_pos z]; omega
    rw [Rat.num_divInt, Int.natAbs_ediv_of_dvd (Int.dvd_trans (Int.gcd_dvd_right d n) (Int.dvd_mul_left _ _))]
    exact Nat.lt_of_le_of_lt (Nat.div_le_self _ _) (by omega)
  · rw [Rat.den_divInt, if_neg hd]
    exact Nat.lt_of_le_of_lt (Nat.div_le_self _ _) (by omega)
abbrev s_law_refused : Stmt := top 16
abbrev n_law_refused : List Str := ["text", "e"]
abbrev p_law_refused : List Str := ["text"]
theorem sc_law_refused : FnScope n_law_refused p_law_refused (defScope s_law_refused) := ⟨rfl, rfl, rfl, by decide +kernel, rfl, by decide +kernel, by decide +kernel⟩
abbrev s_law_no_divisor : Stmt := top 17
abbrev n_law_no_divisor : List Str := ["num", "den", "other", "raised", "left", "e"]
abbrev p_law_no_divisor : List Str := ["num", "den", "other"]
theorem sc_law_no_divisor : FnScope n_law_no_divisor p_law_no_divisor (defScope s_law_no_divisor) := ⟨rfl, rfl, rfl, by decide +kernel, rfl, by decide +kernel, by decide +kernel⟩

section
variable {P : Program} {w : World} {K : PySem.W.Frag} {mg : Str → Option Value} {base : Heap} {a : LA}
theorem ok_law_same {fd : FuncData} (F : Fun K "_law_same" "_law_same" s_law_same a.f_law_same fd) (T : LT K mg a) (G_law_lowest : FR P w K mg base 2 a.f_law_lowest spLow) : FnOk P w K mg base (L2.CX P w) 3 a.f_law_same fd p_law_same (spSame a.toRA) := by
  refine F.okX sc_law_same (fun vs H Q E h => ?_) (fun cdv A outer s H vs Q E hr h => ?_)
  · obtain ⟨_, _, _, _, rfl, _⟩ := h
    rfl
  · obtain ⟨v, q, n, d, rfl, ⟨pp0, d0, rfl, h0⟩, hd, hb, k⟩ := h
    refine ⟨_, (pss_cons (ps_if (pt_not (pt_val (pe_callB call_isi (by rfl) T.n_isinstance (by decide +kernel) (pa_cons (pv 0) (pa_cons (pe_glob (v := .ref a.C) rfl T.m_Ratio rfl) pa_nil))))) (pss_one (ps_ret pe_bl)) pss_nil)
      (pss_cons (ps_if (PW.pt (pw_or (pt_not (pt_val (pe_callB call_isi (by rfl) T.n_isinstance (by decide +kernel) (pa_cons (pe_fld (pv 0) rfl) (pa_cons (pe_bltn (v := .ty "int") rfl T.n_int (by decide +kernel) rfl) pa_nil))))) (pw_or1 (pt_val (pe_callB call_isi (by rfl) T.n_isinstance (by decide +kernel) (pa_cons (pe_fld (pv 0) rfl) (pa_cons (pe_bltn (v := .ty "bool") rfl T.n_bool (by decide +kernel) rfl) pa_nil))))))) (pss_one (ps_ret pe_bl)) pss_nil)
      (pss_cons (ps_if (PW.pt (pw_or (pt_not (pt_val (pe_callB call_isi (by rfl) T.n_isinstance (by decide +kernel) (pa_cons (pe_fld (pv 0) rfl) (pa_cons (pe_bltn (v := .ty "int") rfl T.n_int (by decide +kernel) rfl) pa_nil))))) (pw_or1 (pt_val (pe_callB call_isi (by rfl) T.n_isinstance (by decide +kernel) (pa_cons (pe_fld (pv 0) rfl) (pa_cons (pe_bltn (v := .ty "bool") rfl T.n_bool (by decide +kernel) rfl) pa_nil))))))) (pss_one (ps_ret pe_bl)) pss_nil)
      (pss_one (ps_ret (pe_cmpR (op_eqD hr.units) (pe_tup (pa_cons (pe_fld (pv 0) rfl) (pa_cons (pe_fld (pv 0) rfl) pa_nil))) (pe_cg (cal_fn G_law_lowest p0) (hr.mono (by decide)) rfl T.m_law_lowest T.k_law_lowest (pa_cons (pv 1) (pa_cons (pv 2) pa_nil))) (nomark _))))))), ?_⟩
    refine ⟨_, rfl, _, _, _, _, true, rfl, .own a.C, T.tyC H pp0 d0 _ h0, T.isC, _, rfl, iteF ?_⟩
    refine ⟨_, rfl, pp0, a.C, d0, _, _, rfl, h0, T.c_Ratio, T.nn, rf_num _, _, _, _, _, true, rfl, .ty "int", .base (.int _), kit_ty (by decide +kernel), _, rfl, iteF ?_⟩
    refine ⟨_, rfl, pp0, a.C, d0, _, _, rfl, h0, T.c_Ratio, T.nn, rf_num _, _, _, _, _, false, rfl, .ty "bool", .base (.int _), kit_ty (by decide +kernel), _, rfl, iteF ?_⟩
    refine ⟨_, rfl, pp0, a.C, d0, _, _, rfl, h0, T.c_Ratio, T.nd, rf_den _, _, _, _, _, true, rfl, .ty "int", .base (.int _), kit_ty (by decide +kernel), _, rfl, iteF ?_⟩
    refine ⟨_, rfl, pp0, a.C, d0, _, _, rfl, h0, T.c_Ratio, T.nd, rf_den _, _, _, _, _, false, rfl, .ty "bool", .base (.int _), kit_ty (by decide +kernel), _, rfl, iteF ?_⟩
    refine ⟨_, rfl, pp0, a.C, d0, _, _, rfl, h0, T.c_Ratio, T.nn, rf_num _, _, rfl, pp0, a.C, d0, _, _, rfl, h0, T.c_Ratio, T.nd, rf_den _, by show 2 ≤ sizeLine; decide, fun p hp => ⟨_, rfl, _, rfl, n, d, rfl, hd, hb, fun p2 H2 s2 h2 => ⟨_, _, .tup (SqT.of (s2 _ _ upd_same)) (.cons (.int _) (.cons (.int _) .nil)), .tup (SqT.of h2) (.cons (.int _) (.cons (.int _) .nil)), rfl, rfl, ?_⟩⟩⟩
    have e : PyData.eqv (.tuple [.int q.num, .int (q.den : Int)]) (.tuple [.int (Rat.divInt n d).num, .int ((Rat.divInt n d).den : Int)]) = decide (q = Rat.divInt n d) := by
      show ((q.num == (Rat.divInt n d).num) && (((q.den : Int) == ((Rat.divInt n d).den : Int)) && true)) = _
      by_cases h : q = Rat.divInt n d
      · rw [decide_eq_true h, h]; simp
      · rw [decide_eq_false h]
        refine Bool.eq_false_iff.mpr fun z => h ?_
        rw [Bool.and_eq_true, Bool.and_eq_true] at z
        exact Rat.ext (beq_iff_eq.mp z.1) (by have := beq_iff_eq.mp z.2.1; omega)
    show Q (.bl (PyData.eqv (.tuple [.int q.num, .int (q.den : Int)]) (.tuple [.int (Rat.divInt n d).num, .int ((Rat.divInt n d).den : Int)]))) H2
    rw [e]
    exact k H2 ((same_upd hp).trans s2)
theorem ok_law_written {fd : FuncData} (F : Fun K "_law_written" "_law_written" s_law_written a.f_law_written fd) (T : LT K mg a) (G_law_lowest : FR P w K mg base 2 a.f_law_lowest spLow) : FnOk P w K mg base (L2.CX P w) 3 a.f_law_written fd p_law_written spWrt := by
  refine F.okX sc_law_written (fun vs H Q E h => ?_) (fun cdv A outer s H vs Q E hr h => ?_)
  · obtain ⟨_, _, rfl, _⟩ := h
    rfl
  · obtain ⟨n, d, rfl, hd, hb, hn, k⟩ := h
    refine ⟨_, (pss_cons (ps_set (i := 2) sc_law_written.nd rfl (Or.inl rfl) (pe_cg (cal_fn G_law_lowest p0) (hr.mono (by decide)) rfl T.m_law_lowest T.k_law_lowest (pa_cons (pv 0) (pa_cons (pv 1) pa_nil))))
      (pss_cons (ps_if (pt_cmpR op_eq (pe_ix ix_tup (pv 2) pe_int (fun _ _ => rfl)) pe_int (nomark _)) (pss_one (ps_ret (pe_callTy call_str_int (by rfl) T.n_str (by decide +kernel) (pa_cons (pe_ix ix_tup (pv 2) pe_int (fun _ _ => rfl)) pa_nil)))) pss_nil)
      (pss_one (ps_ret (pe_op op_add_str (pe_op op_add_str (pe_callTy call_str_int (by rfl) T.n_str (by decide +kernel) (pa_cons (pe_ix ix_tup (pv 2) pe_int (fun _ _ => rfl)) pa_nil)) pe_str) (pe_callTy call_str_int (by rfl) T.n_str (by decide +kernel) (pa_cons (pe_ix ix_tup (pv 2) pe_int (fun _ _ => rfl)) pa_nil))))))), ?_⟩
    refine ⟨_, rfl, _, rfl, n, d, rfl, hd, hb, fun p H2 s2 h2 => ?_⟩
    obtain ⟨g1, g2⟩ := log_sm (sm80 hd hn hb)
    have l1 := ri_len g1
    have l2 := ri_len g2
    have e47 : ("/" : Str).length = 1 := by rw [slash]; rfl
    have den1 : intL ((Rat.divInt n d).den : Int) = numL (Rat.divInt n d).den := by
      unfold intL
      rw [if_neg (by omega), Int.natAbs_natCast]
    refine ⟨_, rfl, p, _, _, _, rfl, rfl, SqT.of h2, rfl, rfl, _, rfl, ?_⟩
    refine ite2 (fun e => ?_) (fun e => ?_)
    · have e' : (Rat.divInt n d).den = 1 := by have := V.int.inj (of_decide_eq_true e); omega
      refine ⟨_, rfl, p, _, _, _, rfl, rfl, SqT.of h2, rfl, _, rfl, g1, k _ H2 s2 ?_⟩
      show tl (ri _) = _
      rw [tl_ri]
      unfold rL
      rw [if_pos e']
    · have e' : ¬ (Rat.divInt n d).den = 1 := fun q => e (by rw [q]; exact decide_eq_true rfl)
      refine ⟨_, rfl, p, _, _, _, rfl, rfl, SqT.of h2, rfl, _, rfl, g1, _, _, rfl, rfl, szl (by show (ri _).length + _ ≤ _; omega), _, rfl, p, _, _, _, rfl, rfl, SqT.of h2, rfl, _, rfl, g2, _, _, rfl, rfl, szl (by rw [len_app]; show (ri _).length + _ + (ri _).length ≤ _; omega), k _ H2 s2 ?_⟩
      rw [tl_append, tl_append]
      show tl (ri _) ++ tl ("/" : Str) ++ tl (ri _) = _
      rw [tl_ri, tl_ri, slash, den1]
      unfold rL
      rw [if_neg e', List.append_assoc]
      rfl
theorem ok_law_refused {fd : FuncData} (F : Fun K "_law_refused" "_law_refused" s_law_refused a.f_law_refused fd) (T : LT K mg a) (G_Ratio_read : FR P w K mg base 4 a.fRead (spRead a.toRA)) : FnOk P w K mg base (L2.CX P w) 5 a.f_law_refused fd p_law_refused (spRef a.toRA) := by
  refine F.okX sc_law_refused (fun vs H Q E h => ?_) (fun cdv A outer s H vs Q E hr h => ?_)
  · obtain ⟨_, rfl, _⟩ := h
    rfl
  · obtain ⟨z, rfl, hz, hc, hn, k⟩ := h
    refine ⟨_, (pss_cons (ps_try_as (i := 1) rfl rfl sc_law_refused.nd rfl rfl ⟨rfl, by decide, Or.inl T.m_InvalidNumber⟩ takes0
      (fun W pn xe tk _ => (pss_one (ps_expr (pe_cm (pe_glob (v := .ref a.C) rfl T.m_Ratio rfl) T.rd_Ratio T.cm_Ratio_read G_Ratio_read (hr.mono (by decide)) (fun σ => passAt tk σ) (pa_cons (pv 0) pa_nil)))))
      (fun ax oe cls dx pn hz hf => (pss_one (ps_ret (pe_and (pe_callB (call_isE1 hz hf) (by rfl) T.n_isinstance (by decide +kernel) (pa_cons (pv 1) (pa_cons (pe_glob (v := .ref a.CT) rfl T.m_TableError rfl) pa_nil))) (pe_and (pe_callB (call_isE1 hz hf) (by rfl) T.n_isinstance (by decide +kernel) (pa_cons (pv 1) (pa_cons (pe_bltn (v := .ty "ValueError") rfl T.n_ValueError (by decide +kernel) rfl) pa_nil))) (pe_one (pe_not (pe_callB (call_isE1 hz hf) (by rfl) T.n_isinstance (by decide +kernel) (pa_cons (pv 1) (pa_cons (pe_glob (v := .ref a.CZ) rfl T.m_ZeroDivisor rfl) pa_nil)))))))))))
      (pss_one (ps_ret pe_bl))), ?_⟩
    refine ⟨rfl, _, rfl, z, rfl, hz, hc, fun q hq => absurd hq (hn q), fun _ H' s1 => ⟨true, T.eNN, fun _ ax hax => ?_, fun q => nomatch q⟩⟩
    refine ⟨_, rfl, a.CN, T.ec_InvalidNumber, rfl, rfl, _, _, true, rfl, fun u r => r, T.i_NT, _, rfl, iteT ?_⟩
    refine ⟨_, rfl, a.CN, T.ec_InvalidNumber, rfl, rfl, _, _, true, rfl, fun u r => r, T.i_NV, _, rfl, iteT ?_⟩
    exact ⟨_, rfl, a.CN, T.ec_InvalidNumber, rfl, rfl, _, _, false, rfl, fun u r => r, T.i_NZ, _, rfl, k H' s1⟩
theorem ok_law_no_divisor {fd : FuncData} (F : Fun K "_law_no_divisor" "_law_no_divisor" s_law_no_divisor a.f_law_no_divisor fd) (T : LT K mg a) (G_Ratio_init2 : FR P w K mg base 1 a.fInit (spInit a.toRA)) (G_Ratio_floordiv : FR P w K mg base 3 a.fDiv (spDivR a.toRA)) : FnOk P w K mg base (L2.CX P w) 4 a.f_law_no_divisor fd p_law_no_divisor (spNoD a.toRA) := by
  refine F.okX sc_law_no_divisor (fun vs H Q E h => ?_) (fun cdv A outer s H vs Q E hr h => ?_)
  · obtain ⟨_, _, _, rfl, _⟩ := h
    rfl
  · obtain ⟨n, d, o, rfl, ho, hd, hb, hn, k⟩ := h
    refine ⟨_, (pss_cons (ps_set (i := 3) sc_law_no_divisor.nd rfl (Or.inl rfl) pe_int)
      (pss_cons (ps_set (i := 4) sc_law_no_divisor.nd rfl (Or.inl rfl) (pe_cg (mk_Ratio2 T.toRT G_Ratio_init2 p0) (hr.mono (by decide)) rfl T.m_Ratio T.mk_Ratio.kp (pa_cons (pv 0) (pa_cons (pv 1) pa_nil))))
      (pss_cons (ps_try_as (i := 5) rfl rfl sc_law_no_divisor.nd rfl rfl ⟨rfl, by decide, Or.inl T.m_ZeroDivisor⟩ takes0
      (fun W pn xe tk _ => (pss_one (ps_set (i := 4) sc_law_no_divisor.nd rfl (Or.inl rfl) (pe_own T.sf_Ratio T.me_Ratio_floordiv (cal_fn G_Ratio_floordiv (fun σ => passAt tk σ)) (hr.mono (by decide)) (pv 4) (pv 2)))))
      (fun ax oe cls dx pn hz hf => (pss_one (ps_if (PW.pt (pw_and (pt_val (pe_callB (call_isE1 hz hf) (by rfl) T.n_isinstance (by decide +kernel) (pa_cons (pv 5) (pa_cons (pe_glob (v := .ref a.CT) rfl T.m_TableError rfl) pa_nil)))) (pw_and1 (pt_not (pt_val (pe_callB (call_isE1 hz hf) (by rfl) T.n_isinstance (by decide +kernel) (pa_cons (pv 5) (pa_cons (pe_glob (v := .ref a.CN) rfl T.m_InvalidNumber rfl) pa_nil)))))))) (pss_one (ps_set (i := 3) sc_law_no_divisor.nd rfl (Or.inl rfl) (pe_op op_add (pv 3) pe_int))) pss_nil))))
      (pss_cons (ps_try_only rfl rfl ⟨rfl, by decide, Or.inl T.m_ZeroDivisor⟩ takes0
      (fun W pn xe tk _ => (pss_one (ps_expr (pe_cg (mk_Ratio2 T.toRT G_Ratio_init2 (fun σ => passAt tk σ)) (hr.mono (by decide)) rfl T.m_Ratio T.mk_Ratio.kp (pa_cons (pv 0) (pa_cons pe_int pa_nil))))))
      (fun ax oe cls dx pn _ _ => (pss_one (ps_set (i := 3) sc_law_no_divisor.nd rfl (Or.inl rfl) (pe_op op_add (pv 3) pe_int)))))
      (pss_one (ps_ret (pe_cmpR op_eq (pv 3) pe_int (nomark _)))))))), ?_⟩
    refine ⟨_, rfl, _, rfl, n, d, rfl, fun q => absurd q hd, fun _ => ⟨Nat.lt_of_le_of_lt hb (Nat.lt_of_lt_of_le p80 (Nat.pow_le_pow_right (by decide) (by decide))), fun v H1 s1 hv => ?_⟩⟩
    have sz : Sm 4000 (0 : Rat) := ⟨Nat.pow_pos (by decide), Nat.lt_of_lt_of_le (show 1 < 2 ^ 1 by decide) (Nat.pow_le_pow_right (by decide) (by decide))⟩
    refine ⟨_, rfl, _, rfl, hv.ins, (ho.same s1).ins, v, o, _, 0, rfl, hv, ho.same s1, (sm80 hd hn hb).mono (by decide), sz, fun _ H2 s2 => ⟨true, T.eZZ, fun _ ax hax => ?_, fun q => nomatch q⟩, fun q => absurd rfl q⟩
    refine ⟨_, rfl, a.CZ, T.ec_ZeroDivisor, rfl, rfl, _, _, true, rfl, fun u r => r, T.i_ZT, _, rfl, iteT ?_⟩
    refine ⟨_, rfl, a.CZ, T.ec_ZeroDivisor, rfl, rfl, _, _, false, rfl, fun u r => r, T.i_ZN, _, rfl, iteT ?_⟩
    refine ⟨_, rfl, _, _, rfl, rfl, ?_⟩
    refine ⟨_, rfl, n, 0, rfl, fun _ H3 s3 => ⟨true, T.eZZ, fun _ ax hax => ?_, fun q => nomatch q⟩, fun q => absurd rfl q⟩
    exact ⟨_, rfl, _, _, rfl, rfl, _, rfl, rfl, k H3 ((s1.trans s2).trans s3)⟩
end
end TL
namespace TL
open PySem PySem.Spec PyProof.Rows L2 TLX
/-- _law_same where it is so -/
def spSameT (a : RA) : Sp := fun vs H Q _ => ∃ v q, ∃ n d : Int, vs = [v, .int n, .int d] ∧ RatAt a.C H v q ∧ d ≠ 0 ∧ d.natAbs ≤ 10 ^ 80 ∧ q = Rat.divInt n d ∧ ∀ H', Same H H' → Q (.bl true) H'
theorem same_T {a : RA} {vs : List V} {H : Hp} {Q : VK} {E : XK} (h : spSameT a vs H Q E) : spSame a vs H Q E := by
  obtain ⟨v, q, n, d, e, hv, hd, hb, hq, k⟩ := h
  refine ⟨v, q, n, d, e, hv, hd, hb, fun H' s => ?_⟩
  rw [decide_eq_true hq]
  exact k H' s
def spAr (a : RA) : Sp := fun vs H Q _ => ∃ x b c d k : Int, vs = [.int x, .int b, .int c, .int d, .int k] ∧ x.natAbs ≤ 10 ^ 12 ∧ b.natAbs ≤ 10 ^ 12 ∧ c.natAbs ≤ 10 ^ 12 ∧ d.natAbs ≤ 10 ^ 12 ∧ b ≠ 0 ∧ d ≠ 0 ∧ 0 ≤ k ∧ k < 7 ∧ ∀ H', Same H H' → Q (.bl true) H'
theorem pw_le {x : Int} (h : x.natAbs ≤ 10 ^ 12) (k : Nat) (hk : k ≤ 6) : (x ^ k).natAbs ≤ 10 ^ 72 := by
  rw [Int.natAbs_pow]
  refine Nat.le_trans (Nat.pow_le_pow_left h k) ?_
  rw [← Nat.pow_mul]
  exact Nat.pow_le_pow_right (by decide) (by omega)
theorem le80 {x : Nat} (h : x ≤ 10 ^ 72) : x ≤ 10 ^ 80 := Nat.le_trans h (Nat.pow_le_pow_right (by decide) (by decide))
theorem mul_le24 {x y : Int} (h : x.natAbs ≤ 10 ^ 12) (k : y.natAbs ≤ 10 ^ 12) : (x * y).natAbs ≤ 10 ^ 80 := by
  rw [Int.natAbs_mul]
  refine Nat.le_trans (Nat.mul_le_mul h k) ?_
  decide
theorem cm12 {x y : Int} (h : x.natAbs ≤ 10 ^ 12) (k : y.natAbs ≤ 10 ^ 12) : CMulW x y :=
  wide_mul (a := 60) (b := 60) (Nat.lt_of_le_of_lt h (by decide)) (Nat.lt_of_le_of_lt k (by decide)) (by decide) (by decide) (by decide)
theorem cm72 {x y : Int} (h : x.natAbs ≤ 10 ^ 72) (k : y.natAbs ≤ 10 ^ 12) : CMulW x y :=
  wide_mul (a := 300) (b := 60) (Nat.lt_of_le_of_lt h (by decide)) (Nat.lt_of_le_of_lt k (by decide)) (by decide) (by decide) (by decide)
theorem div_pow (x b : Int) : ∀ k : Nat, (Rat.divInt x b) ^ k = Rat.divInt (x ^ k) (b ^ k)
  | 0 => by rw [Rat.pow_zero, Int.pow_zero, Int.pow_zero]; rfl
  | k + 1 => by rw [Rat.pow_succ, div_pow x b k, Rat.divInt_mul_divInt, Int.pow_succ, Int.pow_succ]
theorem div_div {x b c d : Int} : Rat.divInt x b / Rat.divInt c d = Rat.divInt (x * d) (b * c) := by
  rw [Rat.div_def, Rat.inv_divInt, Rat.divInt_mul_divInt]
theorem div_ne {x b : Int} (hb : b ≠ 0) : Rat.divInt x b ≠ 0 ↔ x ≠ 0 := by
  have e : (0 : Rat) = Rat.divInt 0 1 := by decide +kernel
  rw [Ne, e, Rat.divInt_eq_divInt_iff hb (by decide)]
  omega
theorem div_eq {x b c d : Int} (hb : b ≠ 0) (hd : d ≠ 0) : decide (Rat.divInt x b = Rat.divInt c d) = decide (x * d = c * b) := by
  have := Rat.divInt_eq_divInt_iff (n₁ := x) (n₂ := c) hb hd
  by_cases h : x * d = c * b
  · rw [decide_eq_true h, decide_eq_true (this.mpr h)]
  · rw [decide_eq_false h, decide_eq_false fun z => h (this.mp z)]

abbrev r_mulW : R2 := rI CMulW fun i j => V.int (i * j)
def t_arTail (K : PySem.W.Frag) (a : RA) : TS :=
  tSeq (tAsg (tOwn2 a.C (rSp (spEqR a) fun x => E0) (tVar 5) (tVar 6)) (gName 7))
  (tSeq (tIfS (tOr (tNot (tB (tCB (rIsi K) (tCons (tVar 7) (tCons (tC (V.ty "bool")) tNil)))))
      (tOr (tTest (tOp rNe (tVar 7) (tOp rEq (tOp r_mulW (tVar 0) (tVar 3)) (tOp r_mulW (tVar 2) (tVar 1)))))
        (tTest (tOp rNe (tCB (fun vs H Q => ∃ x, vs = [x] ∧ IsIns a.C H x ∧ spBoolR a [x] H (fun v H' => ∃ b, v = V.bl b ∧ Q (V.bl b) H') E0) (tCons (tVar 5) tNil)) (tOp rNe (tVar 0) (tC (V.int 0)))))))
    (tRet (tC (V.bl false))) tNext)
  (tSeq (tAsg (tC (V.int 1)) (gName 8)) (tSeq (tAsg (tC (V.int 1)) (gName 9))
  (tSeq (tFor (iRng1 (tCons (tVar 4) tNil)) (gName 10) (tSeq (tAsg (tOp r_mulW (tVar 8) (tVar 0)) (gName 8)) (tAsg (tOp r_mulW (tVar 9) (tVar 1)) (gName 9))))
  (tSeq (tIfS (tNot (tB (tC1 (rSp (spSameT a) fun x => E0) (tCons (tMm a.C (Str.ofString "power") (rSp (spPow a) fun x => E0) (tVar 5) (tCons (tVar 4) tNil)) (tCons (tVar 8) (tCons (tVar 9) tNil)))))) (tRet (tC (V.bl false))) tNext)
  (tRet (tAndV (tC1 (rSp (spSameT a) fun x => E0) (tCons (tVar 5) (tCons (tVar 0) (tCons (tVar 1) tNil))))
    (tAndV (tC1 (rSp (spSameT a) fun x => E0) (tCons (tVar 6) (tCons (tVar 2) (tCons (tVar 3) tNil))))
      (tC1 (rSp (spNoD a) fun x => E0) (tCons (tVar 0) (tCons (tVar 1) (tCons (tC1 (rSp (spMkR a) fun x => E0) (tCons (tC (V.int 0)) (tCons (tVar 3) tNil))) tNil))))))))))))
theorem bl_eq (p q : Bool) : decide (V.bl p = V.bl q) = (p == q) := by
  cases p <;> cases q <;> decide
theorem int_eqd (i j : Int) : decide (V.int i = V.int j) = decide (i = j) := by
  by_cases h : i = j
  · rw [decide_eq_true h, h, decide_eq_true rfl]
  · rw [decide_eq_false h, decide_eq_false fun z => h (V.int.inj z)]
theorem arTail_ok {K : PySem.W.Frag} {a : RA} {Q : VK} {H H1 : Hp} {v1 v2 : V} {x b c d n : Int} (s1 : Same H H1) (h1 : RatAt a.C H1 v1 (Rat.divInt x b)) (h2 : RatAt a.C H1 v2 (Rat.divInt c d)) (hx : x.natAbs ≤ 10 ^ 12) (hb : b.natAbs ≤ 10 ^ 12) (hc : c.natAbs ≤ 10 ^ 12) (hd : d.natAbs ≤ 10 ^ 12)
    (b0 : b ≠ 0) (d0 : d ≠ 0) (n0 : 0 ≤ n) (n7 : n < 7) (k : ∀ H', Same H H' → Q (.bl true) H') :
    t_arTail K a { nx := fun _ H' => Q .non H', rt := Q } [some (.int x), some (.int b), some (.int c), some (.int d), some (.int n), some v1, some v2, none, none, none, none] H1 := by
  have l9 : ∀ {z : Int}, z.natAbs ≤ 10 ^ 12 → z.natAbs < 2 ^ 9000 := fun h => Nat.lt_of_le_of_lt h (Nat.lt_of_lt_of_le (show 10 ^ 12 < 2 ^ 100 by decide) (Nat.pow_le_pow_right (by decide) (by decide)))
  have l80 : ∀ {z : Int}, z.natAbs ≤ 10 ^ 12 → z.natAbs ≤ 10 ^ 80 := fun h => Nat.le_trans h (Nat.pow_le_pow_right (by decide) (by decide))
  have sm1 : Sm 4000 (Rat.divInt x b) := (sm80 b0 (l80 hx) (l80 hb)).mono (by decide)
  refine ⟨_, rfl, _, rfl, h1.ins, h2.ins, v1, v2, _, _, rfl, h1, h2, ?_⟩
  refine ⟨_, rfl, _, _, _, _, true, rfl, .ty "bool", .base (.bl _), kit_ty (by decide +kernel), _, rfl, iteF ?_⟩
  refine ⟨_, rfl, _, rfl, _, rfl, _, _, rfl, rfl, cm12 hx hd, _, rfl, _, rfl, _, _, rfl, rfl, cm12 hc hb, rfl, rfl, _, rfl, ?_⟩
  rw [int_eqd, div_eq b0 d0, bl_eq, beq_self_eq_true]
  refine iteF ?_
  refine ⟨_, rfl, v1, rfl, h1.ins, v1, _, rfl, h1, _, rfl, _, rfl, rfl, rfl, _, rfl, ?_⟩
  have e2 : decide (Rat.divInt x b ≠ 0) = !decide (V.int x = V.int 0) := by
    rw [int_eqd]
    by_cases h : x = 0
    · rw [decide_eq_true h]; exact decide_eq_false fun z => (div_ne b0).mp z h
    · rw [decide_eq_false h]; exact decide_eq_true ((div_ne b0).mpr h)
  rw [e2, bl_eq, beq_self_eq_true]
  refine iteF ?_
  refine ⟨_, rfl, n, rfl, by omega, by omega, for_range (lo := 0) (n := n.toNat) (fun i σ H' => ∃ (o : Option V) (o7 : Option V), σ = [some (.int x), some (.int b), some (.int c), some (.int d), some (.int n), some v1, some v2, o7, some (.int (x ^ i)), some (.int (b ^ i)), o] ∧ H' = H1) ⟨none, some (.bl (decide (x * d = c * b))), by rw [Int.pow_zero, Int.pow_zero]; rfl, rfl⟩ ?_ ?_⟩
  · rintro i σ H' hi ⟨o, o7, rfl, rfl⟩
    refine ⟨_, rfl, _, rfl, _, _, rfl, rfl, cm72 (pw_le hx i (by omega)) hx, _, rfl, _, rfl, _, _, rfl, rfl, cm72 (pw_le hb i (by omega)) hb, ?_⟩
    exact ⟨some (.int (0 + i)), o7, by rw [Int.pow_succ, Int.pow_succ]; rfl, rfl⟩
  · rintro σ H' ⟨o, o7, rfl, rfl⟩
    have hk : n.toNat ≤ 6 := by omega
    have bn0 : b ^ n.toNat ≠ 0 := Int.pow_ne_zero b0
    refine ⟨_, rfl, ?_, _, rfl, v1, _, n, rfl, h1, by omega, by omega, sm1, fun j hj => ?_, fun v3 H2 s2 h3 => ?_⟩
    · obtain ⟨p, dx, e, hp⟩ := h1
      exact ⟨p, dx, _, e, hp, rf_no _ (by decide +kernel) (by decide +kernel)⟩
    · rw [div_pow]
      exact (sm80 (Int.pow_ne_zero b0) (le80 (pw_le hx j (by omega))) (le80 (pw_le hb j (by omega)))).mono (by decide)
    · have h1 := h1.same s2
      have h2 := h2.same s2
      refine ⟨_, rfl, _, rfl, v3, _, _, _, rfl, h3, bn0, le80 (pw_le hb _ hk), div_pow x b n.toNat, fun H3 s3 => ⟨_, rfl, iteF ?_⟩⟩
      have h1 := h1.same s3
      have h2 := h2.same s3
      refine ⟨_, rfl, _, rfl, _, rfl, v1, _, x, b, rfl, h1, b0, l80 hb, rfl, fun H4 s4 => ⟨_, rfl, iteT ?_⟩⟩
      have h2 := h2.same s4
      refine ⟨_, rfl, _, rfl, _, rfl, v2, _, c, d, rfl, h2, d0, l80 hd, rfl, fun H5 s5 => ⟨_, rfl, iteT ?_⟩⟩
      refine ⟨_, rfl, _, rfl, _, rfl, 0, d, rfl, fun q => absurd q d0, fun _ => ⟨l9 hd, fun v4 H6 s6 h6 => ?_⟩⟩
      exact ⟨x, b, v4, rfl, RatAt.to h6 (Rat.zero_divInt d), b0, l80 hb, l80 hx, fun H7 s7 => k H7 (s1.trans (s2.trans (s3.trans (s4.trans (s5.trans (s6.trans s7))))))⟩
abbrev s_law_arithmetic : Stmt := top 18
abbrev n_law_arithmetic : List Str := ["a", "b", "c", "d", "exponent", "one", "two", "equal", "num", "den", "turn"]
abbrev p_law_arithmetic : List Str := ["a", "b", "c", "d", "exponent"]
theorem sc_law_arithmetic : FnScope n_law_arithmetic p_law_arithmetic (defScope s_law_arithmetic) := ⟨rfl, rfl, rfl, by decide +kernel, rfl, by decide +kernel, by decide +kernel⟩

section
variable {P : Program} {w : World} {K : PySem.W.Frag} {mg : Str → Option Value} {base : Heap} {a : LA}
theorem ok_law_arithmetic {fd : FuncData} (F : Fun K "_law_arithmetic" "_law_arithmetic" s_law_arithmetic a.f_law_arithmetic fd) (T : LT K mg a) (G_Ratio_init2 : FR P w K mg base 1 a.fInit (spInit a.toRA)) (G_Ratio_add : FR P w K mg base 3 a.fAdd (spBin a.toRA (· + ·)))
    (G_Ratio_sub : FR P w K mg base 3 a.fSub (spBin a.toRA (· - ·))) (G_Ratio_mul : FR P w K mg base 3 a.fMul (spBin a.toRA (· * ·))) (G_Ratio_floordiv : FR P w K mg base 3 a.fDiv (spDivR a.toRA)) (G_Ratio_neg : FR P w K mg base 3 a.fNeg (spNegR a.toRA))
    (G_Ratio_eq : FR P w K mg base 1 a.fEq (spEqR a.toRA)) (G_Ratio_bool : FR P w K mg base 1 a.fBool (spBoolR a.toRA)) (G_Ratio_power : FR P w K mg base 4 a.fPow (spPow a.toRA)) (G_law_same : FR P w K mg base 3 a.f_law_same (spSameT a.toRA)) (G_law_no_divisor : FR P w K mg base 4 a.f_law_no_divisor (spNoD a.toRA)) :
    FnOk P w K mg base (L2.CX P w) 5 a.f_law_arithmetic fd p_law_arithmetic (spAr a.toRA) := by
  refine FnOk.up (F.ok sc_law_arithmetic (fun vs H Q E h => ?_) (fun cdv A outer s H vs Q E hr h => ?_))
  · obtain ⟨_, _, _, _, _, rfl, _⟩ := h
    rfl
  · obtain ⟨x, b, c, d, n, rfl, hx, hb, hc, hd, b0, d0, n0, n7, k⟩ := h
    refine ⟨_, (pss_cons (ps_set (i := 5) sc_law_arithmetic.nd rfl (Or.inl rfl) (pe_cg (mk_Ratio2 T.toRT G_Ratio_init2 p0) (hr.mono (by decide)) rfl T.m_Ratio T.mk_Ratio.kp (pa_cons (pv 0) (pa_cons (pv 1) pa_nil))))
      (pss_cons (ps_set (i := 6) sc_law_arithmetic.nd rfl (Or.inl rfl) (pe_cg (mk_Ratio2 T.toRT G_Ratio_init2 p0) (hr.mono (by decide)) rfl T.m_Ratio T.mk_Ratio.kp (pa_cons (pv 2) (pa_cons (pv 3) pa_nil))))
      (pss_cons (ps_if (PW.pt (pw_or (pt_not (pt_val (pe_cg (cal_fn G_law_same p0) (hr.mono (by decide)) rfl T.m_law_same T.k_law_same (pa_cons (pv 5) (pa_cons (pv 0) (pa_cons (pv 1) pa_nil)))))) (pw_or1 (pt_not (pt_val (pe_cg (cal_fn G_law_same p0) (hr.mono (by decide)) rfl T.m_law_same T.k_law_same (pa_cons (pv 6) (pa_cons (pv 2) (pa_cons (pv 3) pa_nil))))))))) (pss_one (ps_ret pe_bl)) pss_nil)
      (pss_cons (ps_if (PW.pt (pw_or (pt_not (pt_val (pe_cg (cal_fn G_law_same p0) (hr.mono (by decide)) rfl T.m_law_same T.k_law_same (pa_cons (pe_own T.sf_Ratio T.me_Ratio_add (cal_fn G_Ratio_add p0) (hr.mono (by decide)) (pv 5) (pv 6)) (pa_cons (pe_op op_add (pe_op op_mulW (pv 0) (pv 3)) (pe_op op_mulW (pv 2) (pv 1))) (pa_cons (pe_op op_mulW (pv 1) (pv 3)) pa_nil)))))) (pw_or1 (pt_not (pt_val (pe_cg (cal_fn G_law_same p0) (hr.mono (by decide)) rfl T.m_law_same T.k_law_same (pa_cons (pe_own T.sf_Ratio T.me_Ratio_sub (cal_fn G_Ratio_sub p0) (hr.mono (by decide)) (pv 5) (pv 6)) (pa_cons (pe_op op_sub (pe_op op_mulW (pv 0) (pv 3)) (pe_op op_mulW (pv 2) (pv 1))) (pa_cons (pe_op op_mulW (pv 1) (pv 3)) pa_nil))))))))) (pss_one (ps_ret pe_bl)) pss_nil)
      (pss_cons (ps_if (PW.pt (pw_or (pt_not (pt_val (pe_cg (cal_fn G_law_same p0) (hr.mono (by decide)) rfl T.m_law_same T.k_law_same (pa_cons (pe_own T.sf_Ratio T.me_Ratio_mul (cal_fn G_Ratio_mul p0) (hr.mono (by decide)) (pv 5) (pv 6)) (pa_cons (pe_op op_mulW (pv 0) (pv 2)) (pa_cons (pe_op op_mulW (pv 1) (pv 3)) pa_nil)))))) (pw_or1 (pt_not (pt_val (pe_cg (cal_fn G_law_same p0) (hr.mono (by decide)) rfl T.m_law_same T.k_law_same (pa_cons (pe_ownNeg T.me_Ratio_neg (cal_fn G_Ratio_neg p0) (hr.mono (by decide)) (pv 5)) (pa_cons (pe_un un_neg (pv 0)) (pa_cons (pv 1) pa_nil))))))))) (pss_one (ps_ret pe_bl)) pss_nil)
      (pss_cons (ps_if (PW.pt (pw_and (pt_cmpR op_ne (pv 2) pe_int (nomark _)) (pw_and1 (pt_not (pt_val (pe_cg (cal_fn G_law_same p0) (hr.mono (by decide)) rfl T.m_law_same T.k_law_same (pa_cons (pe_own T.sf_Ratio T.me_Ratio_floordiv (cal_fn G_Ratio_floordiv p0) (hr.mono (by decide)) (pv 5) (pv 6)) (pa_cons (pe_op op_mulW (pv 0) (pv 3)) (pa_cons (pe_op op_mulW (pv 1) (pv 2)) pa_nil))))))))) (pss_one (ps_ret pe_bl)) pss_nil)
      (pss_cons (ps_set (i := 7) sc_law_arithmetic.nd rfl (Or.inl rfl) (pe_ownEq T.nf_Ratio T.me_Ratio_eq (cal_fn G_Ratio_eq p0) (hr.mono (by decide)) (pv 5) (pv 6)))
      (pss_cons (ps_if (PW.pt (pw_or (pt_not (pt_val (pe_callB call_isi (by rfl) T.n_isinstance (by decide +kernel) (pa_cons (pv 7) (pa_cons (pe_bltn (v := .ty "bool") rfl T.n_bool (by decide +kernel) rfl) pa_nil))))) (pw_or (pt_cmpR op_ne (pv 7) (pe_cmpR op_eq (pe_op op_mulW (pv 0) (pv 3)) (pe_op op_mulW (pv 2) (pv 1)) (nomark _)) (nomark _)) (pw_or1 (pt_cmpR op_ne (pe_callTy (cr_boolOwn T.me_Ratio_bool (cal_fn G_Ratio_bool p0) (hr.mono (by decide))) (by rfl) T.n_bool (by decide +kernel) (pa_cons (pv 5) pa_nil)) (pe_cmpR op_ne (pv 0) pe_int (nomark _)) (nomark _)))))) (pss_one (ps_ret pe_bl)) pss_nil)
      (pss_cons (ps_set (i := 8) sc_law_arithmetic.nd rfl (Or.inl rfl) pe_int)
      (pss_cons (ps_set (i := 9) sc_law_arithmetic.nd rfl (Or.inl rfl) pe_int)
      (pss_cons (ps_for PassesOwn.never rfl (pi_range1 (by rfl) T.n_range (pa_cons (pv 4) pa_nil)) (pg_name (i := 10) sc_law_arithmetic.nd rfl (Or.inl rfl))
      (pss_cons (ps_set (i := 8) sc_law_arithmetic.nd rfl (Or.inl rfl) (pe_op op_mulW (pv 8) (pv 0)))
      (pss_one (ps_set (i := 9) sc_law_arithmetic.nd rfl (Or.inl rfl) (pe_op op_mulW (pv 9) (pv 1))))))
      (pss_cons (ps_if (pt_not (pt_val (pe_cg (cal_fn G_law_same p0) (hr.mono (by decide)) rfl T.m_law_same T.k_law_same (pa_cons (pe_mm (pv 5) T.c_Ratio T.me_Ratio_power (cal_fn G_Ratio_power p0) (hr.mono (by decide)) (pa_cons (pv 4) pa_nil)) (pa_cons (pv 8) (pa_cons (pv 9) pa_nil)))))) (pss_one (ps_ret pe_bl)) pss_nil)
      (pss_one (ps_ret (pe_and (pe_cg (cal_fn G_law_same p0) (hr.mono (by decide)) rfl T.m_law_same T.k_law_same (pa_cons (pv 5) (pa_cons (pv 0) (pa_cons (pv 1) pa_nil)))) (pe_and (pe_cg (cal_fn G_law_same p0) (hr.mono (by decide)) rfl T.m_law_same T.k_law_same (pa_cons (pv 6) (pa_cons (pv 2) (pa_cons (pv 3) pa_nil)))) (pe_one (pe_cg (cal_fn G_law_no_divisor p0) (hr.mono (by decide)) rfl T.m_law_no_divisor T.k_law_no_divisor (pa_cons (pv 0) (pa_cons (pv 1) (pa_cons (pe_cg (mk_Ratio2 T.toRT G_Ratio_init2 p0) (hr.mono (by decide)) rfl T.m_Ratio T.mk_Ratio.kp (pa_cons pe_int (pa_cons (pv 3) pa_nil))) pa_nil))))))))))))))))))))), ?_⟩
    have l9 : ∀ {z : Int}, z.natAbs ≤ 10 ^ 12 → z.natAbs < 2 ^ 9000 := fun h => Nat.lt_of_le_of_lt h (Nat.lt_of_lt_of_le (show 10 ^ 12 < 2 ^ 100 by decide) (Nat.pow_le_pow_right (by decide) (by decide)))
    have l80 : ∀ {z : Int}, z.natAbs ≤ 10 ^ 12 → z.natAbs ≤ 10 ^ 80 := fun h => Nat.le_trans h (Nat.pow_le_pow_right (by decide) (by decide))
    have sm1 : Sm 4000 (Rat.divInt x b) := (sm80 b0 (l80 hx) (l80 hb)).mono (by decide)
    have sm2 : Sm 4000 (Rat.divInt c d) := (sm80 d0 (l80 hc) (l80 hd)).mono (by decide)
    refine ⟨_, rfl, _, rfl, x, b, rfl, fun q => absurd q b0, fun _ => ⟨l9 hb, fun v1 H1 s1 h1 => ?_⟩⟩
    refine ⟨_, rfl, _, rfl, c, d, rfl, fun q => absurd q d0, fun _ => ⟨l9 hd, fun v2 H2 s2 h2 => ?_⟩⟩
    have h1 := h1.same s2
    have s1 := s1.trans s2
    refine ⟨_, rfl, _, rfl, _, rfl, v1, _, x, b, rfl, h1, b0, l80 hb, rfl, fun H3 s3 => ⟨_, rfl, iteF ?_⟩⟩
    have h1 := h1.same s3
    have h2 := h2.same s3
    refine ⟨_, rfl, _, rfl, _, rfl, v2, _, c, d, rfl, h2, d0, l80 hd, rfl, fun H4 s4 => ⟨_, rfl, iteF ?_⟩⟩
    have h1 := h1.same s4
    have h2 := h2.same s4
    have bd0 : b * d ≠ 0 := Int.mul_ne_zero b0 d0
    refine ⟨_, rfl, _, rfl, h1.ins, h2.ins, v1, v2, _, _, rfl, h1, h2, sm1, sm2, fun v3 H5 s5 h5 => ?_⟩
    have h1 := h1.same s5
    have h2 := h2.same s5
    refine ⟨_, rfl, _, rfl, _, _, rfl, rfl, cm12 hx hd, _, rfl, _, rfl, _, _, rfl, rfl, cm12 hc hb, _, _, rfl, rfl, _, rfl, _, rfl, _, _, rfl, rfl, cm12 hb hd, v3, _, _, _, rfl, h5, bd0, mul_le24 hb hd, Rat.divInt_add_divInt x c b0 d0, fun H6 s6 => ⟨_, rfl, iteF ?_⟩⟩
    have h1 := h1.same s6
    have h2 := h2.same s6
    refine ⟨_, rfl, _, rfl, h1.ins, h2.ins, v1, v2, _, _, rfl, h1, h2, sm1, sm2, fun v4 H7 s7 h7 => ?_⟩
    have h1 := h1.same s7
    have h2 := h2.same s7
    refine ⟨_, rfl, _, rfl, _, _, rfl, rfl, cm12 hx hd, _, rfl, _, rfl, _, _, rfl, rfl, cm12 hc hb, _, _, rfl, rfl, _, rfl, _, rfl, _, _, rfl, rfl, cm12 hb hd, v4, _, _, _, rfl, h7, bd0, mul_le24 hb hd, Rat.divInt_sub_divInt x c b0 d0, fun H8 s8 => ⟨_, rfl, iteF ?_⟩⟩
    have h1 := h1.same s8
    have h2 := h2.same s8
    refine ⟨_, rfl, _, rfl, h1.ins, h2.ins, v1, v2, _, _, rfl, h1, h2, sm1, sm2, fun v5 H9 s9 h9 => ?_⟩
    have h1 := h1.same s9
    have h2 := h2.same s9
    refine ⟨_, rfl, _, rfl, _, _, rfl, rfl, cm12 hx hc, _, rfl, _, rfl, _, _, rfl, rfl, cm12 hb hd, v5, _, _, _, rfl, h9, bd0, mul_le24 hb hd, Rat.divInt_mul_divInt x c, fun H10 s10 => ⟨_, rfl, iteF ?_⟩⟩
    have h1 := h1.same s10
    have h2 := h2.same s10
    refine ⟨_, rfl, h1.ins, v1, _, rfl, h1, sm1, fun v6 H11 s11 h11 => ?_⟩
    have h1 := h1.same s11
    have h2 := h2.same s11
    refine ⟨_, rfl, _, rfl, _, rfl, v6, _, _, _, rfl, h11, b0, l80 hb, Rat.neg_divInt x b, fun H12 s12 => ⟨_, rfl, iteF ?_⟩⟩
    have h1 := h1.same s12
    have h2 := h2.same s12
    have s12' : Same H H12 := s1.trans (s3.trans (s4.trans (s5.trans (s6.trans (s7.trans (s8.trans (s9.trans (s10.trans (s11.trans s12)))))))))
    refine ⟨_, rfl, rfl, _, rfl, ?_⟩
    refine ite2 (fun e => ?_) (fun e => ?_)
    · have c0 : c ≠ 0 := fun q => by
        rw [q, decide_eq_true rfl] at e
        exact absurd e (by decide)
      have q0 : Rat.divInt c d ≠ 0 := (div_ne d0).mpr c0
      refine ⟨_, rfl, _, rfl, h1.ins, h2.ins, v1, v2, _, _, rfl, h1, h2, sm1, sm2, fun z => absurd z q0, fun _ v7 H13 s13 h13 => ?_⟩
      refine ⟨_, rfl, _, rfl, _, _, rfl, rfl, cm12 hx hd, _, rfl, _, rfl, _, _, rfl, rfl, cm12 hb hc, v7, _, _, _, rfl, h13, Int.mul_ne_zero b0 c0, mul_le24 hb hc, div_div, fun H14 s14 => ⟨_, rfl, iteF ?_⟩⟩
      exact arTail_ok (s12'.trans (s13.trans s14)) (h1.same (s13.trans s14)) (h2.same (s13.trans s14)) hx hb hc hd b0 d0 n0 n7 k
    · exact iteF (arTail_ok s12' h1 h2 hx hb hc hd b0 d0 n0 n7 k)
end
end TL
namespace TLX
open PySem TL
/-- not a written fraction, by reckoning -/
def refd (cs : List Nat) : Bool := !(okL cs) || (rL (Rat.divInt (intOf (topL cs)) ((NumText.digitsVal (botL cs) : Nat) : Int)) != cs)
theorem refd_no {cs : List Nat} (h : refd cs = true) (q : Rat) : ¬ Wr cs q := fun hw => by
  obtain ⟨h1, h2⟩ := wr_ok hw
  unfold refd at h
  rw [h1, h2, hw.1] at h
  simp at h
def odds : List Str := ["", "+1", "-0", "01", "2/4", "3/1", "0/2", "1/0", "1/-2", "1/", "/2", " 1", "1 ", "1/2 ", "1//2", "--1", "1/02", "1.0", "a", "1/2/3", "-", "- 1", "1/ 2", "1e2"]
theorem odds_ok : ∀ z ∈ odds, refd (tl z) = true ∧ z.length ≤ 1000 ∧ ((tl z).all fun c => decide (c < 16 ^ 8)) = true := by decide +kernel
def okD (x : Str) : Bool := decide (x.length = 60) && (tl x).all isDg && (numL (NumText.digitsVal (tl x)) == tl x) && decide (tl x ≠ [])
theorem okD_all : ∀ i : _root_.Fin 9, okD (Txt.mul (ri (1 + (i.val : Int))) 60) = true ∧ (ri (1 + (i.val : Int))).length = 1 := by decide +kernel

theorem dv1 (m : Int) : (Rat.divInt m 1).num = m ∧ (Rat.divInt m 1).den = 1 := by
  have e : Rat.divInt m 1 = (m : Rat) := by
    rw [show (1 : Int) = ((1 : Nat) : Int) from rfl, Rat.divInt_ofNat]
    exact Rat.mkRat_one m
  rw [e]
  exact ⟨Rat.num_intCast m, Rat.den_intCast m⟩
theorem wr_int {m : Int} {cs : List Nat} (h : intL m = cs) (hb : m.natAbs < 10 ^ 60) : Wr cs (Rat.divInt m 1) := by
  obtain ⟨e1, e2⟩ := dv1 m
  refine ⟨?_, by rw [e1]; exact hb, by rw [e2]; decide⟩
  unfold rL
  rw [if_pos e2, e1, h]
theorem okD_of {x : Str} (h : okD x = true) : x.length = 60 ∧ NumText.AllDigits (tl x) ∧ numL (NumText.digitsVal (tl x)) = tl x ∧ tl x ≠ [] ∧ (tl x).length = 60 := by
  unfold okD at h
  rw [Bool.and_eq_true, Bool.and_eq_true, Bool.and_eq_true, List.all_eq_true] at h
  obtain ⟨⟨⟨h1, h2⟩, h3⟩, h4⟩ := h
  have h1 := of_decide_eq_true h1
  refine ⟨h1, fun c hc => ?_, beq_iff_eq.mp h3, of_decide_eq_true h4, by rw [← len_tl]; exact h1⟩
  have := h2 c hc
  unfold isDg at this
  rw [Bool.and_eq_true] at this
  exact ⟨of_decide_eq_true this.1, of_decide_eq_true this.2⟩
theorem okD_neg {x : Str} (h : okD x = true) : Wr (45 :: tl x) (Rat.divInt (-((NumText.digitsVal (tl x) : Nat) : Int)) 1) := by
  obtain ⟨h1, h2, h3, h4, h5⟩ := okD_of h
  have hlt := digitsVal_lt _ h2
  rw [h5] at hlt
  have hne : NumText.digitsVal (tl x) ≠ 0 := fun q => by
    rw [q] at h3
    have : (numL 0).length = 1 := by decide +kernel
    rw [h3, h5] at this
    exact absurd this (by decide)
  refine wr_int ?_ (by omega)
  unfold intL
  rw [if_pos (by omega)]
  have : (-((NumText.digitsVal (tl x) : Nat) : Int)).natAbs = NumText.digitsVal (tl x) := by omega
  rw [this, h3]
theorem dg_free {l : List Nat} (h : NumText.AllDigits l) : 47 ∉ l ∧ dropMinus l = l := by
  refine ⟨fun q => by have := h 47 q; omega, ?_⟩
  unfold dropMinus
  split
  · have := h 45 List.mem_cons_self
    omega
  · rfl
theorem okD_long {x : Str} (h : okD x = true) (q : Rat) : ¬ Wr (tl x ++ [51]) q := fun hw => by
  obtain ⟨h1, h2, h3, h4, h5⟩ := okD_of h
  have ha : NumText.AllDigits (tl x ++ [51]) := fun c hc => by
    rcases List.mem_append.mp hc with hc | hc
    · exact h2 c hc
    · rw [List.mem_singleton.mp hc]; decide
  obtain ⟨f1, f2⟩ := dg_free ha
  have := (wr_ok hw).1
  unfold okL topL at this
  rw [(takeW_all f1).1, f2, Bool.and_eq_true, Bool.and_eq_true] at this
  have := (dig_iff.mp this.1.1).2.1
  rw [List.length_append, h5] at this
  exact absurd this (by decide)
theorem den_txt (d : Nat) : intL (d : Int) = numL d := by
  unfold intL
  rw [if_neg (by omega), Int.natAbs_natCast]
/-- a fraction's parts, read off its written form -/
theorem wr_parts {n : Int} {d : Nat} {q : Rat} (h : Wr (intL n ++ 47 :: numL d) q) : q.num = n ∧ q.den = d ∧ q.den ≠ 1 := by
  have hd : q.den ≠ 1 := fun e => by
    have := h.1
    unfold rL at this
    rw [if_pos e] at this
    exact intL_free (n := q.num) (by rw [this]; simp)
  obtain ⟨t1, t2⟩ := top_rL q
  rw [h.1] at t1 t2
  have f := takeW_free (u := intL n) (v := numL d) intL_free
  unfold topL at t1
  unfold botL at t2
  rw [f.1] at t1
  rw [f.2] at t2
  exact ⟨(intL_inj t1).symm, (numL_inj t2).symm, hd⟩
theorem wr_bad {n : Int} {d : Nat} (h : d < 2 ∨ 1 < Nat.gcd n.natAbs d) (q : Rat) : ¬ Wr (intL n ++ 47 :: numL d) q := fun hw => by
  obtain ⟨e1, e2, e3⟩ := wr_parts hw
  have r := q.reduced
  have z := q.den_nz
  rw [e1, e2] at r
  rcases h with h | h
  · omega
  · have : Nat.gcd n.natAbs d = 1 := r
    omega
theorem wr_good {n : Int} {d : Nat} (h2 : 2 ≤ d) (hg : Nat.gcd n.natAbs d ≤ 1) (hn : n.natAbs < 10 ^ 60) (hd : d < 10 ^ 60) : Wr (intL n ++ 47 :: numL d) (Rat.divInt n d) := by
  have d0 : (d : Int) ≠ 0 := by omega
  have g1 : gsg n d = 1 := by
    have p := gcd_pos (n := n) d0
    rw [Int.natAbs_natCast] at p
    unfold gsg
    rw [if_neg (by omega), Int.natAbs_natCast]
    omega
  have a1 := num_rq (n := n) d0
  have a2 := den_rq (n := n) d0
  rw [g1, Int.fdiv_one] at a1 a2
  have a2' : (Rat.divInt n d).den = d := by omega
  refine ⟨?_, by rw [← a1]; exact hn, by rw [a2']; exact hd⟩
  unfold rL
  rw [if_neg (by omega), ← a1, a2']
end TLX
namespace TL
open PySem PySem.Spec PyProof.Rows L2 TLX
/-- Ratio.read of a written fraction -/
def spReadT (a : RA) : Sp := fun vs H Q _ => ∃ (z : Str) (q : Rat), vs = [.ref a.C, .str z] ∧ Wr (tl z) q ∧ Wn H Q fun v H' => RatAt a.C H' v q
theorem intL_lo {n : Int} : ∀ c ∈ intL n, c < 128 := by
  intro c hc
  unfold intL at hc
  split at hc
  · rcases List.mem_cons.mp hc with h | h
    · omega
    · have := numL_digits _ c h; omega
  · have := numL_digits _ c hc; omega
theorem wr_lo {cs : List Nat} {q : Rat} (h : Wr cs q) : cs.length ≤ 1000 ∧ ∀ c ∈ cs, c < 16 ^ 8 := by
  obtain ⟨rfl, h1, h2⟩ := h
  have l1 := intL_len (n := q.num) (k := 60) (by decide) h1
  have l2 := numL_len (n := q.den) (k := 60) (by decide) h2
  have e : 128 ≤ 16 ^ 8 := by decide
  unfold rL
  split
  · exact ⟨by omega, fun c hc => Nat.lt_of_lt_of_le (intL_lo c hc) e⟩
  · refine ⟨by rw [List.length_append, List.length_cons]; omega, fun c hc => ?_⟩
    rcases List.mem_append.mp hc with h | h
    · exact Nat.lt_of_lt_of_le (intL_lo c h) e
    · rcases List.mem_cons.mp h with h | h
      · omega
      · have := numL_digits _ c h; omega
theorem read_T {a : RA} {vs : List V} {H : Hp} {Q : VK} {E : XK} (h : spReadT a vs H Q E) : spRead a vs H Q E := by
  obtain ⟨z, q, rfl, hw, k⟩ := h
  obtain ⟨l, c⟩ := wr_lo hw
  refine ⟨z, rfl, by rw [len_tl]; omega, c, fun q' hw' => ?_, fun hn => absurd hw (hn q)⟩
  have e : q' = q := (wr_ok hw').2.symm.trans (wr_ok hw).2
  rw [e]
  exact k
def spTx (K : PySem.W.Frag) : Sp := fun vs H Q _ => ∃ (l : Addr) (ns : List Int), vs = [.ref l] ∧ SqL K H l (ns.map V.int) ∧ ∀ H', Same H H' → Q (.bl true) H'
theorem odd_at (i : Int) : ∃ z, atI (odds.map V.str) (i % 24) = some (.str z) ∧ z.length ≤ 100000 ∧ (∀ c ∈ z.cps.toList, c < 16 ^ 8) ∧ ∀ q, ¬ Wr (tl z) q := by
  have h0 := Int.emod_nonneg i (show (24 : Int) ≠ 0 by decide)
  have h1 := Int.emod_lt_of_pos i (show (0 : Int) < 24 by decide)
  have hl : odds.length = 24 := by decide
  have hk : odds[(i % 24).toNat]? = some (odds[(i % 24).toNat]'(by omega)) := List.getElem?_eq_getElem _
  obtain ⟨r, s, c⟩ := odds_ok _ (List.getElem_mem (l := odds) (show (i % 24).toNat < odds.length by omega))
  refine ⟨_, at_of (j := (i % 24).toNat) (by omega) (by rw [List.getElem?_map, hk]; rfl), by omega, fun x hx => ?_, refd_no r⟩
  exact of_decide_eq_true (List.all_eq_true.mp c x hx)
theorem mul_ok {x : Str} (h : x.length = 1) : MulOk x 60 := by
  refine ⟨by decide, fun _ _ => ?_, fun _ _ => ?_⟩
  · rw [h]; decide
  · rw [h]; decide +kernel
theorem log_small {n : Int} (h : n.natAbs ≤ 1000) : n.natAbs.log2 < 1920 := Nat.lt_of_lt_of_le (PySem.Flt.log2_lt_of (k := 10) (by decide) (Nat.lt_of_le_of_lt h (by decide))) (by decide)
theorem ri_small {n : Int} (h : n.natAbs ≤ 1000) : (ri n).length ≤ 10 := by
  rw [len_tl, tl_ri]
  have := intL_len (n := n) (k := 4) (by decide) (by omega)
  omega
abbrev s_law_texts : Stmt := top 19
abbrev n_law_texts : List Str := ["script", "odd", "digits", "num", "den"]
abbrev p_law_texts : List Str := ["script"]
theorem sc_law_texts : FnScope n_law_texts p_law_texts (defScope s_law_texts) := ⟨rfl, rfl, rfl, by decide +kernel, rfl, by decide +kernel, by decide +kernel⟩

section
variable {P : Program} {w : World} {K : PySem.W.Frag} {mg : Str → Option Value} {base : Heap} {a : LA}
theorem ok_law_texts {fd : FuncData} (F : Fun K "_law_texts" "_law_texts" s_law_texts a.f_law_texts fd) (T : LT K mg a) (G_Ratio_read : FR P w K mg base 4 a.fRead (spReadT a.toRA)) (G_law_cell : FR P w K mg base 1 a.f_law_cell (spCell K)) (G_law_same : FR P w K mg base 3 a.f_law_same (spSameT a.toRA))
    (G_law_refused : FR P w K mg base 5 a.f_law_refused (spRef a.toRA)) (G_law_divisor : FR P w K mg base 1 a.f_law_divisor spDvs) : FnOk P w K mg base (L2.CX P w) 6 a.f_law_texts fd p_law_texts (spTx K) := by
  refine F.okX sc_law_texts (fun vs H Q E h => ?_) (fun cdv A outer s H vs Q E hr h => ?_)
  · obtain ⟨_, _, rfl, _⟩ := h
    rfl
  · obtain ⟨l, ns, rfl, hS, k⟩ := h
    refine ⟨_, (pss_cons (ps_set (i := 1) sc_law_texts.nd rfl (Or.inl rfl) (pe_lst (pa_cons pe_str (pa_cons pe_str (pa_cons pe_str (pa_cons pe_str (pa_cons pe_str (pa_cons pe_str (pa_cons pe_str (pa_cons pe_str (pa_cons pe_str (pa_cons pe_str (pa_cons pe_str (pa_cons pe_str (pa_cons pe_str (pa_cons pe_str (pa_cons pe_str (pa_cons pe_str pa_nil))))))))))))))))))
      (pss_cons (ps_set (i := 1) sc_law_texts.nd rfl (Or.inl rfl) (pe_op op_cat (pv 1) (pe_lst (pa_cons pe_str (pa_cons pe_str (pa_cons pe_str (pa_cons pe_str (pa_cons pe_str (pa_cons pe_str (pa_cons pe_str (pa_cons pe_str pa_nil)))))))))))
      (pss_cons (ps_if (pt_not (pt_val (pe_cg (cal_fn G_law_refused p0) (hr.mono (by decide)) rfl T.m_law_refused T.k_law_refused (pa_cons (pe_ix ix_list (pv 1) (pe_op op_mod (pe_callTy call_int1 (by rfl) T.n_int (by decide +kernel) (pa_cons (pe_cg (cal_fn G_law_cell p0) (hr.mono (by decide)) rfl T.m_law_cell T.k_law_cell (pa_cons (pv 0) (pa_cons pe_int pa_nil))) pa_nil)) pe_int) (fun _ _ => rfl)) pa_nil)))) (pss_one (ps_ret pe_bl)) pss_nil)
      (pss_cons (ps_set (i := 2) sc_law_texts.nd rfl (Or.inl rfl) (pe_op op_mulStr (pe_callTy call_str_int (by rfl) T.n_str (by decide +kernel) (pa_cons (pe_op op_add pe_int (pe_op op_mod (pe_callTy call_int1 (by rfl) T.n_int (by decide +kernel) (pa_cons (pe_cg (cal_fn G_law_cell p0) (hr.mono (by decide)) rfl T.m_law_cell T.k_law_cell (pa_cons (pv 0) (pa_cons pe_int pa_nil))) pa_nil)) pe_int)) pa_nil)) pe_int))
      (pss_cons (ps_if (PW.pt (pw_or (pt_not (pt_val (pe_cg (cal_fn G_law_same p0) (hr.mono (by decide)) rfl T.m_law_same T.k_law_same (pa_cons (pe_cm (pe_glob (v := .ref a.C) rfl T.m_Ratio rfl) T.rd_Ratio T.cm_Ratio_read G_Ratio_read (hr.mono (by decide)) p0 (pa_cons (pe_op op_add_str pe_str (pv 2)) pa_nil)) (pa_cons (pe_un un_neg (pe_callTy call_int_str (by rfl) T.n_int (by decide +kernel) (pa_cons (pv 2) pa_nil))) (pa_cons pe_int pa_nil)))))) (pw_or1 (pt_not (pt_val (pe_cg (cal_fn G_law_refused p0) (hr.mono (by decide)) rfl T.m_law_refused T.k_law_refused (pa_cons (pe_op op_add_str (pv 2) pe_str) pa_nil))))))) (pss_one (ps_ret pe_bl)) pss_nil)
      (pss_cons (ps_set (i := 3) sc_law_texts.nd rfl (Or.inl rfl) (pe_op op_sub (pe_op op_mod (pe_callTy call_int1 (by rfl) T.n_int (by decide +kernel) (pa_cons (pe_cg (cal_fn G_law_cell p0) (hr.mono (by decide)) rfl T.m_law_cell T.k_law_cell (pa_cons (pv 0) (pa_cons pe_int pa_nil))) pa_nil)) pe_int) pe_int))
      (pss_cons (ps_set (i := 4) sc_law_texts.nd rfl (Or.inl rfl) (pe_op op_mod (pe_callTy call_int1 (by rfl) T.n_int (by decide +kernel) (pa_cons (pe_cg (cal_fn G_law_cell p0) (hr.mono (by decide)) rfl T.m_law_cell T.k_law_cell (pa_cons (pv 0) (pa_cons pe_int pa_nil))) pa_nil)) pe_int))
      (pss_cons (ps_if (pt_not (pt_val (pe_cg (cal_fn G_law_same p0) (hr.mono (by decide)) rfl T.m_law_same T.k_law_same (pa_cons (pe_cm (pe_glob (v := .ref a.C) rfl T.m_Ratio rfl) T.rd_Ratio T.cm_Ratio_read G_Ratio_read (hr.mono (by decide)) p0 (pa_cons (pe_callTy call_str_int (by rfl) T.n_str (by decide +kernel) (pa_cons (pv 3) pa_nil)) pa_nil)) (pa_cons (pv 3) (pa_cons pe_int pa_nil)))))) (pss_one (ps_ret pe_bl)) pss_nil)
      (pss_cons (ps_if (PW.pt (pw_or (pt_cmpR op_lt (pv 4) pe_int (nomark _)) (pw_or1 (pt_cmpR op_gt (pe_cg (cal_fn G_law_divisor p0) (hr.mono (by decide)) rfl T.m_law_divisor T.k_law_divisor (pa_cons (pv 3) (pa_cons (pv 4) pa_nil))) pe_int (nomark _))))) (pss_one (ps_ret (pe_cg (cal_fn G_law_refused p0) (hr.mono (by decide)) rfl T.m_law_refused T.k_law_refused (pa_cons (pe_op op_add_str (pe_op op_add_str (pe_callTy call_str_int (by rfl) T.n_str (by decide +kernel) (pa_cons (pv 3) pa_nil)) pe_str) (pe_callTy call_str_int (by rfl) T.n_str (by decide +kernel) (pa_cons (pv 4) pa_nil))) pa_nil)))) pss_nil)
      (pss_one (ps_ret (pe_cg (cal_fn G_law_same p0) (hr.mono (by decide)) rfl T.m_law_same T.k_law_same (pa_cons (pe_cm (pe_glob (v := .ref a.C) rfl T.m_Ratio rfl) T.rd_Ratio T.cm_Ratio_read G_Ratio_read (hr.mono (by decide)) p0 (pa_cons (pe_op op_add_str (pe_op op_add_str (pe_callTy call_str_int (by rfl) T.n_str (by decide +kernel) (pa_cons (pv 3) pa_nil)) pe_str) (pe_callTy call_str_int (by rfl) T.n_str (by decide +kernel) (pa_cons (pv 4) pa_nil))) pa_nil)) (pa_cons (pv 3) (pa_cons (pv 4) pa_nil))))))))))))))), ?_⟩
    refine ⟨by show 16 ≤ sizeLine; decide, fun p1 hp1 => ?_⟩
    refine ⟨_, rfl, by show 8 ≤ sizeLine; decide, fun p2 hp2 => ⟨p1, p2, _, _, rfl, rfl, by rw [upd_ne (ne_of_none upd_same hp2)]; exact upd_same, upd_same, by show 16 + 8 ≤ sizeLine; decide, fun p3 hp3 => ?_⟩⟩
    have s3 := ((same_upd hp1).trans (same_upd hp2)).trans (same_upd hp3 (o := HO.lst (odds.map V.str)))
    refine ⟨_, rfl, _, rfl, l, ns, 6, rfl, s3.seq hS, by decide, by decide, fun i6 => .inl ⟨i6, rfl, _, _, rfl, rfl, (by show (0 : Int) < 24; decide), ?_⟩⟩
    obtain ⟨z, z1, z2, z3, z4⟩ := odd_at i6
    refine ⟨p3, odds.map V.str, _, _, rfl, rfl, SqL.of (by rw [upd_same]; rfl), z1, z, rfl, z2, z3, z4, fun H4 s4 => ⟨_, rfl, iteF ?_⟩⟩
    have s4 := s3.trans s4
    refine ⟨_, rfl, l, ns, 7, rfl, s4.seq hS, by decide, by decide, fun i7 => .inl ⟨i7, rfl, _, _, rfl, rfl, (by show (0 : Int) < 9; decide), _, _, rfl, rfl, ?_⟩⟩
    have h70 := Int.emod_nonneg i7 (show (9 : Int) ≠ 0 by decide)
    have h79 := Int.emod_lt_of_pos i7 (show (0 : Int) < 9 by decide)
    obtain ⟨dok, dln⟩ := okD_all ⟨(i7 % 9).toNat, by omega⟩
    have ei : 1 + (((i7 % 9).toNat : Nat) : Int) = 1 + i7 % 9 := by omega
    have dok : okD (Txt.mul (ri (1 + i7 % 9)) 60) = true := by rw [← ei]; exact dok
    have dln : (ri (1 + i7 % 9)).length = 1 := by rw [← ei]; exact dln
    refine ⟨_, rfl, log_small (by omega), _, _, rfl, rfl, mul_ok dln, ?_⟩
    have wD := okD_neg dok
    obtain ⟨d1, d2, d3, d4, d5⟩ := okD_of dok
    have lD := okD_long dok
    have iD : intText? (Txt.mul (ri (1 + i7 % 9)) 60) = some ((NumText.digitsVal (tl (Txt.mul (ri (1 + i7 % 9)) 60)) : Nat) : Int) := intText_digits d2 d4 (by omega)
    show tSeq _ _ _ [some (.ref l), some (.ref p3), some (.str (Txt.mul (ri (1 + i7 % 9)) 60)), none, none] H4
    generalize Txt.mul (ri (1 + i7 % 9)) 60 = D at *
    have eD : tl (Str.ofString "-" ++ D) = 45 :: tl D := by rw [tl_append]; rfl
    refine ⟨rfl, _, rfl, _, _, rfl, rfl, szl (by rw [d1]; decide +kernel), _, _, rfl, by rw [eD]; exact wD, fun v5 H5 s5 h5 => ?_⟩
    refine ⟨_, rfl, D, _, rfl, iD, by omega, _, rfl, v5, _, _, 1, rfl, h5, by decide, by decide, rfl, fun H6 s6 => ⟨_, rfl, iteF ?_⟩⟩
    have s6 := (s4.trans s5).trans s6
    have eD3 : tl (D ++ Str.ofString "3") = tl D ++ [51] := by rw [tl_append]; rfl
    have l3 : (Str.ofString "3").length = 1 := by decide +kernel
    refine ⟨_, rfl, _, _, rfl, rfl, szl (by rw [d1, l3]; decide), _, rfl, by rw [len_app, d1, l3]; decide, fun c hc => ?_, fun q => by rw [eD3]; exact lD q, fun H7 s7 => ⟨_, rfl, iteF ?_⟩⟩
    · have hc' : c ∈ tl D ++ [51] := by rw [← eD3]; exact hc
      rcases List.mem_append.mp hc' with h | h
      · have := d2 c h; omega
      · have := List.mem_singleton.mp h; omega
    have s7 := s6.trans s7
    refine ⟨_, rfl, l, ns, 8, rfl, s7.seq hS, by decide, by decide, fun i8 => .inl ⟨i8, rfl, _, _, rfl, rfl, (by show (0 : Int) < 81; decide), _, _, rfl, rfl, ?_⟩⟩
    have h80 := Int.emod_nonneg i8 (show (81 : Int) ≠ 0 by decide)
    have h81 := Int.emod_lt_of_pos i8 (show (0 : Int) < 81 by decide)
    refine ⟨_, rfl, l, ns, 9, rfl, s7.seq hS, by decide, by decide, fun i9 => .inl ⟨i9, rfl, _, _, rfl, rfl, (by show (0 : Int) < 13; decide), ?_⟩⟩
    have h90 := Int.emod_nonneg i9 (show (13 : Int) ≠ 0 by decide)
    have h91 := Int.emod_lt_of_pos i9 (show (0 : Int) < 13 by decide)
    show tSeq _ _ _ [some (.ref l), some (.ref p3), some (.str D), some (.int (i8 % 81 - 40)), some (.int (i9 % 13))] H7
    have hn : (i8 % 81 - 40).natAbs ≤ 40 := by omega
    generalize i8 % 81 - 40 = n at *
    obtain ⟨d, hd⟩ : ∃ d : Nat, i9 % 13 = (d : Int) := ⟨(i9 % 13).toNat, by omega⟩
    rw [hd] at h90 h91 ⊢
    refine ⟨rfl, _, rfl, _, rfl, log_small (by omega), ri n, _, rfl, by rw [tl_ri]; exact wr_int rfl (Nat.lt_of_le_of_lt hn (by decide)), fun v8 H8 s8 h8 => ?_⟩
    refine ⟨_, rfl, v8, _, n, 1, rfl, h8, by decide, by decide, rfl, fun H9 s9 => ⟨_, rfl, iteF ?_⟩⟩
    have s9 := s7.trans (s8.trans s9)
    have e47 : (Str.ofString "/").length = 1 := by decide +kernel
    have r1 := ri_small (n := n) (by omega)
    have r2 := ri_small (n := (d : Int)) (by omega)
    have et : tl (ri n ++ Str.ofString "/" ++ ri d) = intL n ++ 47 :: numL d := by
      rw [tl_append, tl_append, tl_ri, tl_ri, den_txt, List.append_assoc]
      rfl
    have lo : ∀ c ∈ (ri n ++ Str.ofString "/" ++ ri d).cps.toList, c < 16 ^ 8 := fun c hc => by
      have e : 128 ≤ 16 ^ 8 := by decide
      have hc' : c ∈ intL n ++ 47 :: numL d := by rw [← et]; exact hc
      rcases List.mem_append.mp hc' with h | h
      · exact Nat.lt_of_lt_of_le (intL_lo c h) e
      · rcases List.mem_cons.mp h with h | h
        · omega
        · have := numL_digits _ c h; omega
    have refu : (d < 2 ∨ 1 < Nat.gcd n.natAbs d) → ∀ H10, Same H H10 → tRet (tC1 (rSp (spRef a.toRA) fun _ => E0) (tCons (tOp rAddS (tOp rAddS (tCB (fun xs H Q => ∃ i, xs = [.int i] ∧ i.natAbs.log2 < 1920 ∧ Q (.str (toString i)) H) (tCons (tVar 3) tNil)) (tC (.str (Str.ofString "/")))) (tCB (fun xs H Q => ∃ i, xs = [.int i] ∧ i.natAbs.log2 < 1920 ∧ Q (.str (toString i)) H) (tCons (tVar 4) tNil))) tNil))
        { nx := fun _ H' => Q .non H', rt := Q } [some (.ref l), some (.ref p3), some (.str D), some (.int n), some (.int (d : Int))] H10 := fun hb H10 s10 => by
      refine ⟨_, rfl, _, rfl, log_small (by omega), _, _, rfl, rfl, szl (by show (ri n).length + _ ≤ _; omega), _, rfl, _, rfl, log_small (by omega), _, _, rfl, rfl, szl (by rw [len_app]; show (ri n).length + _ + (ri d).length ≤ _; omega), ri n ++ Str.ofString "/" ++ ri d, rfl, by rw [len_app, len_app]; omega, lo, fun q => by rw [et]; exact wr_bad hb q, fun H11 s11 => k H11 (s10.trans s11)⟩
    refine ⟨_, rfl, _, _, rfl, rfl, _, rfl, ?_⟩
    refine ite2 (fun e => iteT (refu (.inl (by have := of_decide_eq_true e; omega)) H9 s9)) (fun e => ?_)
    have d2' : 2 ≤ d := by
      rcases Nat.lt_or_ge d 2 with z | z
      · exact absurd (decide_eq_true (by omega)) e
      · exact z
    refine ⟨_, rfl, _, rfl, n, d, rfl, by rw [Int.natAbs_natCast]; exact Nat.le_trans (show d ≤ 13 by omega) (by decide), _, _, rfl, rfl, _, rfl, ?_⟩
    rw [Int.natAbs_natCast]
    refine ite2 (fun e => refu (.inr (by have := of_decide_eq_true e; omega)) H9 s9) (fun e => ?_)
    have dg : Nat.gcd n.natAbs d ≤ 1 := by
      rcases Nat.lt_or_ge 1 (Nat.gcd n.natAbs d) with z | z
      · exact absurd (decide_eq_true (by omega)) e
      · exact z
    refine ⟨rfl, _, rfl, _, rfl, log_small (by omega), _, _, rfl, rfl, szl (by show (ri n).length + _ ≤ _; omega), _, rfl, _, rfl, log_small (by omega), _, _, rfl, rfl, szl (by rw [len_app]; show (ri n).length + _ + (ri d).length ≤ _; omega), ri n ++ Str.ofString "/" ++ ri d, Rat.divInt n d, rfl, by rw [et]; exact wr_good d2' dg (Nat.lt_of_le_of_lt hn (by decide)) (Nat.lt_of_le_of_lt (show d ≤ 13 by omega) (by decide)), fun v10 H10 s10 h10 => ?_⟩
    exact ⟨_, rfl, _, rfl, v10, _, n, d, rfl, h10, by omega, by rw [Int.natAbs_natCast]; exact Nat.le_trans (show d ≤ 13 by omega) (by decide), rfl, fun H11 s11 => k H11 (s9.trans (s10.trans s11))⟩
end
end TL
namespace TL
open PySem PySem.Spec PyProof.Rows L2 TLX
theorem nd_le {n d : Int} (hd : d ≠ 0) : (Rat.divInt n d).num.natAbs ≤ n.natAbs ∧ (Rat.divInt n d).den ≤ d.natAbs := by
  refine ⟨?_, ?_⟩
  · have q : (d.sign * n).natAbs ≤ n.natAbs := by
      rcases Int.lt_or_gt_of_ne hd with z | z
      · rw [Int.sign_eq_neg_one_of_neg z]; omega
      · rw [Int.sign_eq_one_of_pos z]; omega
    rw [Rat.num_divInt, Int.natAbs_ediv_of_dvd (Int.dvd_trans (Int.gcd_dvd_right d n) (Int.dvd_mul_left _ _))]
    exact Nat.le_trans (Nat.div_le_self _ _) q
  · rw [Rat.den_divInt, if_neg hd]
    exact Nat.div_le_self _ _
theorem scal_str (x y : Str) : scal (.str x) (.str y) = true := rfl

abbrev t_int1 (t : TA) : TE := tCB (fun xs H Q => (∃ i, xs = [V.int i] ∧ Q (V.int i) H) ∨ ∃ k, xs = [V.bl k] ∧ Q (V.int (if k = true then 1 else 0)) H) t
def t_lawTail (K : PySem.W.Frag) (a : RA) : TS :=
  tSeq (tIfS (tNot (tB (tC1 (rSp (spAr a) fun x => E0) (tCons (tVar 2) (tCons (tVar 3) (tCons (tVar 4) (tCons (tVar 5) (tCons
      (tOp (rI (fun x j => 0 < j) fun i j => V.int (i % j)) (t_int1 (tCons (tC1 (rSp (spCell K) fun x => E0) (tCons (tVar 0) (tCons (tC (V.int 5)) tNil))) tNil)) (tC (V.int 7))) tNil)))))))) (tRet (tC (V.bl false))) tNext)
  (tSeq (tAsg (tCB (fun vs H Q => ∃ x, vs = [x] ∧ IsIns a.C H x ∧ spStrR a [x] H (fun v H' => ∃ b, v = V.str b ∧ Q (V.str b) H') E0) (tCons (tC1 (rSp (spMkR a) fun x => E0) (tCons (tVar 2) (tCons (tVar 3) tNil))) tNil)) (gName 6))
  (tSeq (tIfS (tOr (tNot (tB (tCB (rIsi K) (tCons (tVar 6) (tCons (tC (V.ty "str")) tNil))))) (tTest (tOp rNe (tVar 6) (tC1 (rSp spWrt fun x => E0) (tCons (tVar 2) (tCons (tVar 3) tNil)))))) (tRet (tC (V.bl false))) tNext)
  (tRet (tAndV (tC1 (rSp (spSameT a) fun x => E0) (tCons (tCm a.C (spReadT a) (fun x => E0) (tC (V.ref a.C)) (tCons (tVar 6) tNil)) (tCons (tVar 2) (tCons (tVar 3) tNil)))) (tC1 (rSp (spTx K) fun x => E0) (tCons (tVar 0) tNil))))))
theorem lawTail_ok {K : PySem.W.Frag} {a : RA} {Q : VK} {H : Hp} {l : Addr} {ns : List Int} {o : Option V} {x b c d : Int} (hS : SqL K H l (ns.map V.int)) (hx : x.natAbs ≤ 10 ^ 12) (hb : b.natAbs ≤ 10 ^ 12) (hc : c.natAbs ≤ 10 ^ 12) (hd : d.natAbs ≤ 10 ^ 12)
    (b0 : b ≠ 0) (d0 : d ≠ 0) (k : ∀ H', Same H H' → Q (.bl true) H') : t_lawTail K a { nx := fun _ H' => Q .non H', rt := Q } [some (.ref l), o, some (.int x), some (.int b), some (.int c), some (.int d), none] H := by
  have l9 : ∀ {z : Int}, z.natAbs ≤ 10 ^ 12 → z.natAbs < 2 ^ 9000 := fun h => Nat.lt_of_le_of_lt h (Nat.lt_of_lt_of_le (show 10 ^ 12 < 2 ^ 100 by decide) (Nat.pow_le_pow_right (by decide) (by decide)))
  have l80 : ∀ {z : Int}, z.natAbs ≤ 10 ^ 12 → z.natAbs ≤ 10 ^ 80 := fun h => Nat.le_trans h (Nat.pow_le_pow_right (by decide) (by decide))
  refine ⟨_, rfl, _, rfl, _, rfl, _, rfl, _, rfl, l, ns, 5, rfl, hS, by decide, by decide, fun i5 => .inl ⟨i5, rfl, _, _, rfl, rfl, (by show (0 : Int) < 7; decide), x, b, c, d, i5 % 7, rfl, hx, hb, hc, hd, b0, d0, Int.emod_nonneg i5 (by decide), Int.emod_lt_of_pos i5 (by decide), fun H1 s1 => ⟨_, rfl, iteF ?_⟩⟩⟩
  have sm := sm80 b0 (l80 hx) (l80 hb)
  refine ⟨_, rfl, _, rfl, x, b, rfl, fun q => absurd q b0, fun _ => ⟨l9 hb, fun v H2 s2 h2 => ⟨v, rfl, h2.ins, v, _, rfl, h2, sm, fun y hy hyl => ⟨y, rfl, ?_⟩⟩⟩⟩
  refine ⟨_, rfl, _, _, _, _, true, rfl, .ty "str", .base (.str _), kit_ty (by decide +kernel), _, rfl, iteF ?_⟩
  refine ⟨_, rfl, _, rfl, _, rfl, x, b, rfl, b0, l80 hb, l80 hx, fun y2 H3 s3 hy2 => ⟨rfl, _, rfl, ?_⟩⟩
  have e : y = y2 := ext_tl (hy.trans hy2.symm)
  rw [e, decide_eq_true rfl]
  refine iteF ?_
  rw [e] at hy
  obtain ⟨nl, dl⟩ := nd_le (n := x) b0
  have hw : Wr (tl y2) (Rat.divInt x b) := ⟨hy.symm, Nat.lt_of_le_of_lt (Nat.le_trans nl hx) (by decide), Nat.lt_of_le_of_lt (Nat.le_trans dl hb) (by decide)⟩
  refine ⟨rfl, _, rfl, y2, _, rfl, hw, fun v4 H4 s4 h4 => ?_⟩
  refine ⟨_, rfl, _, rfl, v4, _, x, b, rfl, h4, b0, l80 hb, rfl, fun H5 s5 => ⟨_, rfl, iteT ?_⟩⟩
  have s5 := s1.trans (s2.trans (s3.trans (s4.trans s5)))
  exact ⟨_, rfl, l, ns, rfl, s5.seq hS, fun H6 s6 => k H6 (s5.trans s6)⟩
abbrev s_law : Stmt := top 20
abbrev n_law : List Str := ["script", "small", "a", "b", "c", "d", "shown"]
abbrev p_law : List Str := ["script"]
theorem sc_law : FnScope n_law p_law (defScope s_law) := ⟨rfl, rfl, rfl, by decide +kernel, rfl, by decide +kernel, by decide +kernel⟩

section
variable {P : Program} {w : World} {K : PySem.W.Frag} {mg : Str → Option Value} {base : Heap} {a : LA}
theorem ok_law {f : Addr} {fd : FuncData} (F : Fun K "law" "law" s_law f fd) (T : LT K mg a) (G_Ratio_init2 : FR P w K mg base 1 a.fInit (spInit a.toRA)) (G_Ratio_str : FR P w K mg base 1 a.fStr (spStrR a.toRA)) (G_Ratio_read : FR P w K mg base 4 a.fRead (spReadT a.toRA))
    (G_law_cell : FR P w K mg base 1 a.f_law_cell (spCell K)) (G_law_span : FR P w K mg base 1 a.f_law_span spSpan) (G_law_same : FR P w K mg base 3 a.f_law_same (spSameT a.toRA)) (G_law_written : FR P w K mg base 3 a.f_law_written spWrt)
    (G_law_arithmetic : FR P w K mg base 5 a.f_law_arithmetic (spAr a.toRA)) (G_law_texts : FR P w K mg base 6 a.f_law_texts (spTx K)) : FnOk P w K mg base (L2.CX P w) 7 f fd p_law (spTx K) := by
  refine F.okX sc_law (fun vs H Q E h => ?_) (fun cdv A outer s H vs Q E hr h => ?_)
  · obtain ⟨_, _, rfl, _⟩ := h
    rfl
  · obtain ⟨l, ns, rfl, hS, k⟩ := h
    refine ⟨_, (pss_cons (ps_set (i := 1) sc_law.nd rfl (Or.inl rfl) (pe_cmpR op_eq (pe_op op_mod (pe_callTy call_int1 (by rfl) T.n_int (by decide +kernel) (pa_cons (pe_cg (cal_fn G_law_cell p0) (hr.mono (by decide)) rfl T.m_law_cell T.k_law_cell (pa_cons (pv 0) (pa_cons pe_int pa_nil))) pa_nil)) pe_int) pe_int (nomark _)))
      (pss_cons (ps_set (i := 2) sc_law.nd rfl (Or.inl rfl) (pe_cg (cal_fn G_law_span p0) (hr.mono (by decide)) rfl T.m_law_span T.k_law_span (pa_cons (pe_cg (cal_fn G_law_cell p0) (hr.mono (by decide)) rfl T.m_law_cell T.k_law_cell (pa_cons (pv 0) (pa_cons pe_int pa_nil))) (pa_cons (pv 1) pa_nil))))
      (pss_cons (ps_set (i := 3) sc_law.nd rfl (Or.inl rfl) (pe_cg (cal_fn G_law_span p0) (hr.mono (by decide)) rfl T.m_law_span T.k_law_span (pa_cons (pe_cg (cal_fn G_law_cell p0) (hr.mono (by decide)) rfl T.m_law_cell T.k_law_cell (pa_cons (pv 0) (pa_cons pe_int pa_nil))) (pa_cons (pv 1) pa_nil))))
      (pss_cons (ps_set (i := 4) sc_law.nd rfl (Or.inl rfl) (pe_cg (cal_fn G_law_span p0) (hr.mono (by decide)) rfl T.m_law_span T.k_law_span (pa_cons (pe_cg (cal_fn G_law_cell p0) (hr.mono (by decide)) rfl T.m_law_cell T.k_law_cell (pa_cons (pv 0) (pa_cons pe_int pa_nil))) (pa_cons (pv 1) pa_nil))))
      (pss_cons (ps_set (i := 5) sc_law.nd rfl (Or.inl rfl) (pe_cg (cal_fn G_law_span p0) (hr.mono (by decide)) rfl T.m_law_span T.k_law_span (pa_cons (pe_cg (cal_fn G_law_cell p0) (hr.mono (by decide)) rfl T.m_law_cell T.k_law_cell (pa_cons (pv 0) (pa_cons pe_int pa_nil))) (pa_cons (pv 1) pa_nil))))
      (pss_cons (ps_if (pt_cmpR op_eq (pv 3) pe_int (nomark _)) (pss_one (ps_set (i := 3) sc_law.nd rfl (Or.inl rfl) pe_int)) pss_nil)
      (pss_cons (ps_if (pt_cmpR op_eq (pv 5) pe_int (nomark _)) (pss_one (ps_set (i := 5) sc_law.nd rfl (Or.inl rfl) (pe_un un_neg pe_int))) pss_nil)
      (pss_cons (ps_if (pt_not (pt_val (pe_cg (cal_fn G_law_arithmetic p0) (hr.mono (by decide)) rfl T.m_law_arithmetic T.k_law_arithmetic (pa_cons (pv 2) (pa_cons (pv 3) (pa_cons (pv 4) (pa_cons (pv 5) (pa_cons (pe_op op_mod (pe_callTy call_int1 (by rfl) T.n_int (by decide +kernel) (pa_cons (pe_cg (cal_fn G_law_cell p0) (hr.mono (by decide)) rfl T.m_law_cell T.k_law_cell (pa_cons (pv 0) (pa_cons pe_int pa_nil))) pa_nil)) pe_int) pa_nil)))))))) (pss_one (ps_ret pe_bl)) pss_nil)
      (pss_cons (ps_set (i := 6) sc_law.nd rfl (Or.inl rfl) (pe_callTy (cr_strOwn T.me_Ratio_str (cal_fn G_Ratio_str p0) (hr.mono (by decide))) (by rfl) T.n_str (by decide +kernel) (pa_cons (pe_cg (mk_Ratio2 T.toRT G_Ratio_init2 p0) (hr.mono (by decide)) rfl T.m_Ratio T.mk_Ratio.kp (pa_cons (pv 2) (pa_cons (pv 3) pa_nil))) pa_nil)))
      (pss_cons (ps_if (PW.pt (pw_or (pt_not (pt_val (pe_callB call_isi (by rfl) T.n_isinstance (by decide +kernel) (pa_cons (pv 6) (pa_cons (pe_bltn (v := .ty "str") rfl T.n_str (by decide +kernel) rfl) pa_nil))))) (pw_or1 (pt_cmpR op_ne (pv 6) (pe_cg (cal_fn G_law_written p0) (hr.mono (by decide)) rfl T.m_law_written T.k_law_written (pa_cons (pv 2) (pa_cons (pv 3) pa_nil))) (nomark _))))) (pss_one (ps_ret pe_bl)) pss_nil)
      (pss_one (ps_ret (pe_and (pe_cg (cal_fn G_law_same p0) (hr.mono (by decide)) rfl T.m_law_same T.k_law_same (pa_cons (pe_cm (pe_glob (v := .ref a.C) rfl T.m_Ratio rfl) T.rd_Ratio T.cm_Ratio_read G_Ratio_read (hr.mono (by decide)) p0 (pa_cons (pv 6) pa_nil)) (pa_cons (pv 2) (pa_cons (pv 3) pa_nil)))) (pe_one (pe_cg (cal_fn G_law_texts p0) (hr.mono (by decide)) rfl T.m_law_texts T.k_law_texts (pa_cons (pv 0) pa_nil)))))))))))))))), ?_⟩
    have dec1 : ∀ i : Int, 0 ≤ i → i < 1000 → ∀ R : Int → Prop, (∀ z : Int, R z) → (0 : Int) ≤ i ∧ i < 1000 ∧ ∀ z : Int, R z := fun i h1 h2 R h => ⟨h1, h2, h⟩
    refine ⟨_, rfl, l, ns, 0, rfl, hS, by decide, by decide, fun i0 => .inl ⟨i0, rfl, _, _, rfl, rfl, (by show (0 : Int) < 3; decide), rfl, ?_⟩⟩
    refine ⟨_, rfl, l, ns, 1, rfl, hS, by decide, by decide, fun i1 => ⟨_, rfl, i1, _, rfl, fun x hx => ?_⟩⟩
    refine ⟨_, rfl, l, ns, 2, rfl, hS, by decide, by decide, fun i2 => ⟨_, rfl, i2, _, rfl, fun b hb => ?_⟩⟩
    refine ⟨_, rfl, l, ns, 3, rfl, hS, by decide, by decide, fun i3 => ⟨_, rfl, i3, _, rfl, fun c hc => ?_⟩⟩
    refine ⟨_, rfl, l, ns, 4, rfl, hS, by decide, by decide, fun i4 => ⟨_, rfl, i4, _, rfl, fun d hd => ?_⟩⟩
    refine ⟨_, rfl, rfl, _, rfl, ?_⟩
    have fin : ∀ b' d' : Int, b'.natAbs ≤ 10 ^ 12 → d'.natAbs ≤ 10 ^ 12 → b' ≠ 0 → d' ≠ 0 → ∀ o, t_lawTail K a.toRA { nx := fun _ H' => Q .non H', rt := Q } [some (.ref l), o, some (.int x), some (.int b'), some (.int c), some (.int d'), none] H :=
      fun b' d' h1 h2 h3 h4 o => lawTail_ok hS hx h1 hc h2 h3 h4 k
    have ne_ : ∀ z : Int, ¬ decide (V.int z = V.int 0) = true → z ≠ 0 := fun z h q => h (by rw [q]; exact decide_eq_true rfl)
    refine ite2 (fun e => ?_) (fun e => ?_)
    · refine ⟨_, rfl, rfl, _, rfl, ?_⟩
      refine ite2 (fun e2 => ?_) (fun e2 => ?_)
      · exact ⟨_, rfl, fin 5 (-4) (by decide) (by decide) (by decide) (by decide) _⟩
      · exact fin 5 d (by decide) hd (by decide) (ne_ _ e2) _
    · refine ⟨_, rfl, rfl, _, rfl, ?_⟩
      refine ite2 (fun e2 => ?_) (fun e2 => ?_)
      · exact ⟨_, rfl, fin b (-4) hb (by decide) (ne_ _ e) (by decide) _⟩
      · exact fin b d hb hd (ne_ _ e) (ne_ _ e2) _
end
end TL
namespace TL
open PySem PySem.Spec PyProof.Rows L2 TLX
theorem dAdd : PySem.dunder Operator.Add.info.2 = ("__add__" : Str) := by decide +kernel
theorem dSub : PySem.dunder Operator.Sub.info.2 = ("__sub__" : Str) := by decide +kernel
theorem dMul : PySem.dunder Operator.Mult.info.2 = ("__mul__" : Str) := by decide +kernel
theorem dDiv : PySem.dunder Operator.FloorDiv.info.2 = ("__floordiv__" : Str) := by decide +kernel
theorem kit_self {K : PySem.W.Frag} {C : Addr} : PySem.W.kitOne K (.ref C) (.ref C) = some true := by
  unfold PySem.W.kitOne
  rw [if_pos (by simp)]
theorem kit_ref {K : PySem.W.Frag} {C : Addr} {t : Value} {b : Bool} (hd : PySem.W.hasDictIn K C = true) (ht : PySem.W.typeIn K (.ref C) = some (.type "type")) (hs : PySem.W.subIn K t (.ref C) = some b) (hss : PySem.W.subIn K (.ref C) (.ref C) = some true) : PySem.W.kitOne K t (.ref C) = some b := by
  unfold PySem.W.kitOne
  by_cases h : (t == Value.ref C) = true
  · rw [if_pos h]
    rw [beq_iff_eq.mp h, hss] at hs
    exact hs
  · rw [if_neg h]
    obtain ⟨cd, hc, _⟩ := PySem.W.any_some hd
    have e2 : ((PySem.W.clsIn K C).isSome && PySem.W.typeIn K (.ref C) == some (.type "type")) = true := by rw [hc, ht] <;> rfl
    show (if ((PySem.W.clsIn K C).isSome && PySem.W.typeIn K (.ref C) == some (.type "type")) = true then PySem.W.subIn K t (.ref C) else none) = some b
    rw [if_pos e2]
    exact hs
theorem kit_val {K : PySem.W.Frag} {C : Addr} {T : String} {b : Bool} (hm : PySem.W.kitMeta T = true) (hs : PySem.W.subIn K (.ref C) (.type T) = some b) : PySem.W.kitOne K (.ref C) (.type T) = some b := by
  show (if PySem.W.kitMeta T = true then PySem.W.subIn K (.ref C) (.type T) else none) = some b
  rw [if_pos hm]
  exact hs
theorem cx_none {P : Program} {w : World} {H : Hp} {s : Shared} {e : Value} {s' : Shared} (h : L2.CX P w [] H s (fun _ _ _ => False) e s') : False := by
  obtain ⟨_, _, _, _, _, _, _, _, _, _, _, _, z⟩ := h
  exact z.elim

theorem all_mk {l : PySem.W.OpenLaw} {w : World} {K : PySem.W.Frag} {h : Heap} {mg : Str → Option Value} {fa : Addr} (X : K.In h) (G : h.Ns mainGlobals mg) (hfa : mg "law" = some (.ref fa))
    {C CT CZ CN fInit fStr fEq fBool fAdd fSub fMul fDiv fNeg fPow fDig fRead pRead f_law_cell f_law_span f_law_divisor f_law_lowest f_law_same f_law_written f_law_refused f_law_no_divisor f_law_arithmetic f_law_texts fLaw : Addr}
    {ocInit dcInit pmInit cdInit ctInit kVInit : Value} {TD : Addr} {odInit anInit : Option Addr} {slInit : Array (Option Value)} {ocTD : Value} {odTD : Option Addr} {tkTD : Tok} {nTD : Nat} {slTD : Array (Option Value)}
    {ocStr dcStr pmStr cdStr ctStr kVStr : Value} {odStr anStr : Option Addr} {slStr : Array (Option Value)}
    {ocEq dcEq pmEq cdEq ctEq kVEq : Value} {odEq anEq : Option Addr} {slEq : Array (Option Value)}
    {ocBool dcBool pmBool cdBool ctBool kVBool : Value} {odBool anBool : Option Addr} {slBool : Array (Option Value)}
    {ocAdd dcAdd pmAdd cdAdd ctAdd kVAdd : Value} {odAdd anAdd : Option Addr} {slAdd : Array (Option Value)}
    {ocSub dcSub pmSub cdSub ctSub kVSub : Value} {odSub anSub : Option Addr} {slSub : Array (Option Value)}
    {ocMul dcMul pmMul cdMul ctMul kVMul : Value} {odMul anMul : Option Addr} {slMul : Array (Option Value)}
    {ocDiv dcDiv pmDiv cdDiv ctDiv kVDiv : Value} {odDiv anDiv : Option Addr} {slDiv : Array (Option Value)}
    {ocNeg dcNeg pmNeg cdNeg ctNeg kVNeg : Value} {odNeg anNeg : Option Addr} {slNeg : Array (Option Value)}
    {ocPow dcPow pmPow cdPow ctPow kVPow : Value} {odPow anPow : Option Addr} {slPow : Array (Option Value)}
    {restR : List Value}
    {ocRead dcRead pmRead cdRead ctRead kVRead : Value} {odRead anRead : Option Addr} {slRead : Array (Option Value)}
    {ocDig dcDig pmDig cdDig ctDig kVDig : Value} {odDig anDig : Option Addr} {slDig : Array (Option Value)}
    {ocf_law_cell dcf_law_cell pmf_law_cell cdf_law_cell ctf_law_cell kVf_law_cell : Value} {odf_law_cell anf_law_cell : Option Addr} {slf_law_cell : Array (Option Value)}
    {ocf_law_span dcf_law_span pmf_law_span cdf_law_span ctf_law_span kVf_law_span : Value} {odf_law_span anf_law_span : Option Addr} {slf_law_span : Array (Option Value)}
    {ocf_law_divisor dcf_law_divisor pmf_law_divisor cdf_law_divisor ctf_law_divisor kVf_law_divisor : Value} {odf_law_divisor anf_law_divisor : Option Addr} {slf_law_divisor : Array (Option Value)}
    {ocf_law_lowest dcf_law_lowest pmf_law_lowest cdf_law_lowest ctf_law_lowest kVf_law_lowest : Value} {odf_law_lowest anf_law_lowest : Option Addr} {slf_law_lowest : Array (Option Value)}
    {ocf_law_same dcf_law_same pmf_law_same cdf_law_same ctf_law_same kVf_law_same : Value} {odf_law_same anf_law_same : Option Addr} {slf_law_same : Array (Option Value)}
    {ocf_law_written dcf_law_written pmf_law_written cdf_law_written ctf_law_written kVf_law_written : Value} {odf_law_written anf_law_written : Option Addr} {slf_law_written : Array (Option Value)}
    {ocf_law_refused dcf_law_refused pmf_law_refused cdf_law_refused ctf_law_refused kVf_law_refused : Value} {odf_law_refused anf_law_refused : Option Addr} {slf_law_refused : Array (Option Value)}
    {ocf_law_no_divisor dcf_law_no_divisor pmf_law_no_divisor cdf_law_no_divisor ctf_law_no_divisor kVf_law_no_divisor : Value} {odf_law_no_divisor anf_law_no_divisor : Option Addr} {slf_law_no_divisor : Array (Option Value)}
    {ocf_law_arithmetic dcf_law_arithmetic pmf_law_arithmetic cdf_law_arithmetic ctf_law_arithmetic kVf_law_arithmetic : Value} {odf_law_arithmetic anf_law_arithmetic : Option Addr} {slf_law_arithmetic : Array (Option Value)}
    {ocf_law_texts dcf_law_texts pmf_law_texts cdf_law_texts ctf_law_texts kVf_law_texts : Value} {odf_law_texts anf_law_texts : Option Addr} {slf_law_texts : Array (Option Value)}
    {ocLaw dcLaw pmLaw cdLaw ctLaw kVLaw : Value} {odLaw anLaw : Option Addr} {slLaw : Array (Option Value)}
    {tkM : Tok}
    (aC : PySem.W.nsIn K mainGlobals "Ratio" = some (some (.ref C)))
    (aCT : PySem.W.nsIn K mainGlobals "TableError" = some (some (.ref CT)))
    (aCZ : PySem.W.nsIn K mainGlobals "ZeroDivisor" = some (some (.ref CZ)))
    (aCN : PySem.W.nsIn K mainGlobals "InvalidNumber" = some (some (.ref CN)))
    (aInit : PySem.W.findIn K (.ref C) "__init__" = some (some (.ref fInit)))
    (iInit : PySem.W.isFn K (.ref fInit) = true)
    (lInit : K.lookup fInit = some ⟨ocInit, odInit, .func (PySem.W.fnOf "__init__" "Ratio.__init__" (defArgs s_Ratio__init) (defBody s_Ratio__init) (defScope s_Ratio__init) (.ref TD) kVInit dcInit pmInit anInit cdInit ctInit), slInit⟩)
    (cInit : PySem.W.codeIn K cdInit "Ratio.__init__" = true)
    (kInit : PySem.W.keepIn K (.ref fInit) = true)
    (lTD : K.lookup TD = some ⟨ocTD, odTD, .seq #[.int 1 tkTD] nTD, slTD⟩)
    (aStr : PySem.W.findIn K (.ref C) "__str__" = some (some (.ref fStr)))
    (iStr : PySem.W.isFn K (.ref fStr) = true)
    (lStr : K.lookup fStr = some ⟨ocStr, odStr, .func (PySem.W.fnOf "__str__" "Ratio.__str__" (defArgs s_Ratio__str) (defBody s_Ratio__str) (defScope s_Ratio__str) .none kVStr dcStr pmStr anStr cdStr ctStr), slStr⟩)
    (cStr : PySem.W.codeIn K cdStr "Ratio.__str__" = true)
    (kStr : PySem.W.keepIn K (.ref fStr) = true)
    (aEq : PySem.W.findIn K (.ref C) "__eq__" = some (some (.ref fEq)))
    (iEq : PySem.W.isFn K (.ref fEq) = true)
    (lEq : K.lookup fEq = some ⟨ocEq, odEq, .func (PySem.W.fnOf "__eq__" "Ratio.__eq__" (defArgs s_Ratio__eq) (defBody s_Ratio__eq) (defScope s_Ratio__eq) .none kVEq dcEq pmEq anEq cdEq ctEq), slEq⟩)
    (cEq : PySem.W.codeIn K cdEq "Ratio.__eq__" = true)
    (kEq : PySem.W.keepIn K (.ref fEq) = true)
    (aBool : PySem.W.findIn K (.ref C) "__bool__" = some (some (.ref fBool)))
    (iBool : PySem.W.isFn K (.ref fBool) = true)
    (lBool : K.lookup fBool = some ⟨ocBool, odBool, .func (PySem.W.fnOf "__bool__" "Ratio.__bool__" (defArgs s_Ratio__bool) (defBody s_Ratio__bool) (defScope s_Ratio__bool) .none kVBool dcBool pmBool anBool cdBool ctBool), slBool⟩)
    (cBool : PySem.W.codeIn K cdBool "Ratio.__bool__" = true)
    (kBool : PySem.W.keepIn K (.ref fBool) = true)
    (aAdd : PySem.W.findIn K (.ref C) "__add__" = some (some (.ref fAdd)))
    (iAdd : PySem.W.isFn K (.ref fAdd) = true)
    (lAdd : K.lookup fAdd = some ⟨ocAdd, odAdd, .func (PySem.W.fnOf "__add__" "Ratio.__add__" (defArgs s_Ratio__add) (defBody s_Ratio__add) (defScope s_Ratio__add) .none kVAdd dcAdd pmAdd anAdd cdAdd ctAdd), slAdd⟩)
    (cAdd : PySem.W.codeIn K cdAdd "Ratio.__add__" = true)
    (kAdd : PySem.W.keepIn K (.ref fAdd) = true)
    (aSub : PySem.W.findIn K (.ref C) "__sub__" = some (some (.ref fSub)))
    (iSub : PySem.W.isFn K (.ref fSub) = true)
    (lSub : K.lookup fSub = some ⟨ocSub, odSub, .func (PySem.W.fnOf "__sub__" "Ratio.__sub__" (defArgs s_Ratio__sub) (defBody s_Ratio__sub) (defScope s_Ratio__sub) .none kVSub dcSub pmSub anSub cdSub ctSub), slSub⟩)
    (cSub : PySem.W.codeIn K cdSub "Ratio.__sub__" = true)
    (kSub : PySem.W.keepIn K (.ref fSub) = true)
    (aMul : PySem.W.findIn K (.ref C) "__mul__" = some (some (.ref fMul)))
    (iMul : PySem.W.isFn K (.ref fMul) = true)
    (lMul : K.lookup fMul = some ⟨ocMul, odMul, .func (PySem.W.fnOf "__mul__" "Ratio.__mul__" (defArgs s_Ratio__mul) (defBody s_Ratio__mul) (defScope s_Ratio__mul) .none kVMul dcMul pmMul anMul cdMul ctMul), slMul⟩)
    (cMul : PySem.W.codeIn K cdMul "Ratio.__mul__" = true)
    (kMul : PySem.W.keepIn K (.ref fMul) = true)
    (aDiv : PySem.W.findIn K (.ref C) "__floordiv__" = some (some (.ref fDiv)))
    (iDiv : PySem.W.isFn K (.ref fDiv) = true)
    (lDiv : K.lookup fDiv = some ⟨ocDiv, odDiv, .func (PySem.W.fnOf "__floordiv__" "Ratio.__floordiv__" (defArgs s_Ratio__floordiv) (defBody s_Ratio__floordiv) (defScope s_Ratio__floordiv) .none kVDiv dcDiv pmDiv anDiv cdDiv ctDiv), slDiv⟩)
    (cDiv : PySem.W.codeIn K cdDiv "Ratio.__floordiv__" = true)
    (kDiv : PySem.W.keepIn K (.ref fDiv) = true)
    (aNeg : PySem.W.findIn K (.ref C) "__neg__" = some (some (.ref fNeg)))
    (iNeg : PySem.W.isFn K (.ref fNeg) = true)
    (lNeg : K.lookup fNeg = some ⟨ocNeg, odNeg, .func (PySem.W.fnOf "__neg__" "Ratio.__neg__" (defArgs s_Ratio__neg) (defBody s_Ratio__neg) (defScope s_Ratio__neg) .none kVNeg dcNeg pmNeg anNeg cdNeg ctNeg), slNeg⟩)
    (cNeg : PySem.W.codeIn K cdNeg "Ratio.__neg__" = true)
    (kNeg : PySem.W.keepIn K (.ref fNeg) = true)
    (aPow : PySem.W.findIn K (.ref C) "power" = some (some (.ref fPow)))
    (iPow : PySem.W.isFn K (.ref fPow) = true)
    (lPow : K.lookup fPow = some ⟨ocPow, odPow, .func (PySem.W.fnOf "power" "Ratio.power" (defArgs s_Ratio_power) (defBody s_Ratio_power) (defScope s_Ratio_power) .none kVPow dcPow pmPow anPow cdPow ctPow), slPow⟩)
    (cPow : PySem.W.codeIn K cdPow "Ratio.power" = true)
    (kPow : PySem.W.keepIn K (.ref fPow) = true)
    (aRead : PySem.W.findCls K (.ref C) (.type "type") "read" = some (.get (.builtin "classmethod.__get__") (.ref pRead) .none (.ref C)))
    (rRead : PySem.W.recIn K pRead "classmethod" = some (.ref fRead :: restR))
    (fiRead : PySem.W.fnIn K fRead = true)
    (lRead : K.lookup fRead = some ⟨ocRead, odRead, .func (PySem.W.fnOf "read" "Ratio.read" (defArgs s_Ratio_read) (defBody s_Ratio_read) (defScope s_Ratio_read) .none kVRead dcRead pmRead anRead cdRead ctRead), slRead⟩)
    (cRead : PySem.W.codeIn K cdRead "Ratio.read" = true)
    (kRead : PySem.W.keepIn K (.ref fRead) = true)
    (rdC : PySem.W.readsIn K C (.type "type") = true)
    (gaC : PySem.W.specialIn K (.ref C) "__getattribute__" = some (some (.builtin "type.__getattribute__")))
    (aDig : PySem.W.nsIn K mainGlobals "_are_digits" = some (some (.ref fDig)))
    (lDig : K.lookup fDig = some ⟨ocDig, odDig, .func (PySem.W.fnOf "_are_digits" "_are_digits" (defArgs s_are_digits) (defBody s_are_digits) (defScope s_are_digits) .none kVDig dcDig pmDig anDig cdDig ctDig), slDig⟩)
    (cDig : PySem.W.codeIn K cdDig "_are_digits" = true)
    (kDig : PySem.W.keepIn K (.ref fDig) = true)
    (af_law_cell : PySem.W.nsIn K mainGlobals "_law_cell" = some (some (.ref f_law_cell)))
    (lf_law_cell : K.lookup f_law_cell = some ⟨ocf_law_cell, odf_law_cell, .func (PySem.W.fnOf "_law_cell" "_law_cell" (defArgs s_law_cell) (defBody s_law_cell) (defScope s_law_cell) .none kVf_law_cell dcf_law_cell pmf_law_cell anf_law_cell cdf_law_cell ctf_law_cell), slf_law_cell⟩)
    (cf_law_cell : PySem.W.codeIn K cdf_law_cell "_law_cell" = true)
    (kf_law_cell : PySem.W.keepIn K (.ref f_law_cell) = true)
    (af_law_span : PySem.W.nsIn K mainGlobals "_law_span" = some (some (.ref f_law_span)))
    (lf_law_span : K.lookup f_law_span = some ⟨ocf_law_span, odf_law_span, .func (PySem.W.fnOf "_law_span" "_law_span" (defArgs s_law_span) (defBody s_law_span) (defScope s_law_span) .none kVf_law_span dcf_law_span pmf_law_span anf_law_span cdf_law_span ctf_law_span), slf_law_span⟩)
    (cf_law_span : PySem.W.codeIn K cdf_law_span "_law_span" = true)
    (kf_law_span : PySem.W.keepIn K (.ref f_law_span) = true)
    (af_law_divisor : PySem.W.nsIn K mainGlobals "_law_divisor" = some (some (.ref f_law_divisor)))
    (lf_law_divisor : K.lookup f_law_divisor = some ⟨ocf_law_divisor, odf_law_divisor, .func (PySem.W.fnOf "_law_divisor" "_law_divisor" (defArgs s_law_divisor) (defBody s_law_divisor) (defScope s_law_divisor) .none kVf_law_divisor dcf_law_divisor pmf_law_divisor anf_law_divisor cdf_law_divisor ctf_law_divisor), slf_law_divisor⟩)
    (cf_law_divisor : PySem.W.codeIn K cdf_law_divisor "_law_divisor" = true)
    (kf_law_divisor : PySem.W.keepIn K (.ref f_law_divisor) = true)
    (af_law_lowest : PySem.W.nsIn K mainGlobals "_law_lowest" = some (some (.ref f_law_lowest)))
    (lf_law_lowest : K.lookup f_law_lowest = some ⟨ocf_law_lowest, odf_law_lowest, .func (PySem.W.fnOf "_law_lowest" "_law_lowest" (defArgs s_law_lowest) (defBody s_law_lowest) (defScope s_law_lowest) .none kVf_law_lowest dcf_law_lowest pmf_law_lowest anf_law_lowest cdf_law_lowest ctf_law_lowest), slf_law_lowest⟩)
    (cf_law_lowest : PySem.W.codeIn K cdf_law_lowest "_law_lowest" = true)
    (kf_law_lowest : PySem.W.keepIn K (.ref f_law_lowest) = true)
    (af_law_same : PySem.W.nsIn K mainGlobals "_law_same" = some (some (.ref f_law_same)))
    (lf_law_same : K.lookup f_law_same = some ⟨ocf_law_same, odf_law_same, .func (PySem.W.fnOf "_law_same" "_law_same" (defArgs s_law_same) (defBody s_law_same) (defScope s_law_same) .none kVf_law_same dcf_law_same pmf_law_same anf_law_same cdf_law_same ctf_law_same), slf_law_same⟩)
    (cf_law_same : PySem.W.codeIn K cdf_law_same "_law_same" = true)
    (kf_law_same : PySem.W.keepIn K (.ref f_law_same) = true)
    (af_law_written : PySem.W.nsIn K mainGlobals "_law_written" = some (some (.ref f_law_written)))
    (lf_law_written : K.lookup f_law_written = some ⟨ocf_law_written, odf_law_written, .func (PySem.W.fnOf "_law_written" "_law_written" (defArgs s_law_written) (defBody s_law_written) (defScope s_law_written) .none kVf_law_written dcf_law_written pmf_law_written anf_law_written cdf_law_written ctf_law_written), slf_law_written⟩)
    (cf_law_written : PySem.W.codeIn K cdf_law_written "_law_written" = true)
    (kf_law_written : PySem.W.keepIn K (.ref f_law_written) = true)
    (af_law_refused : PySem.W.nsIn K mainGlobals "_law_refused" = some (some (.ref f_law_refused)))
    (lf_law_refused : K.lookup f_law_refused = some ⟨ocf_law_refused, odf_law_refused, .func (PySem.W.fnOf "_law_refused" "_law_refused" (defArgs s_law_refused) (defBody s_law_refused) (defScope s_law_refused) .none kVf_law_refused dcf_law_refused pmf_law_refused anf_law_refused cdf_law_refused ctf_law_refused), slf_law_refused⟩)
    (cf_law_refused : PySem.W.codeIn K cdf_law_refused "_law_refused" = true)
    (kf_law_refused : PySem.W.keepIn K (.ref f_law_refused) = true)
    (af_law_no_divisor : PySem.W.nsIn K mainGlobals "_law_no_divisor" = some (some (.ref f_law_no_divisor)))
    (lf_law_no_divisor : K.lookup f_law_no_divisor = some ⟨ocf_law_no_divisor, odf_law_no_divisor, .func (PySem.W.fnOf "_law_no_divisor" "_law_no_divisor" (defArgs s_law_no_divisor) (defBody s_law_no_divisor) (defScope s_law_no_divisor) .none kVf_law_no_divisor dcf_law_no_divisor pmf_law_no_divisor anf_law_no_divisor cdf_law_no_divisor ctf_law_no_divisor), slf_law_no_divisor⟩)
    (cf_law_no_divisor : PySem.W.codeIn K cdf_law_no_divisor "_law_no_divisor" = true)
    (kf_law_no_divisor : PySem.W.keepIn K (.ref f_law_no_divisor) = true)
    (af_law_arithmetic : PySem.W.nsIn K mainGlobals "_law_arithmetic" = some (some (.ref f_law_arithmetic)))
    (lf_law_arithmetic : K.lookup f_law_arithmetic = some ⟨ocf_law_arithmetic, odf_law_arithmetic, .func (PySem.W.fnOf "_law_arithmetic" "_law_arithmetic" (defArgs s_law_arithmetic) (defBody s_law_arithmetic) (defScope s_law_arithmetic) .none kVf_law_arithmetic dcf_law_arithmetic pmf_law_arithmetic anf_law_arithmetic cdf_law_arithmetic ctf_law_arithmetic), slf_law_arithmetic⟩)
    (cf_law_arithmetic : PySem.W.codeIn K cdf_law_arithmetic "_law_arithmetic" = true)
    (kf_law_arithmetic : PySem.W.keepIn K (.ref f_law_arithmetic) = true)
    (af_law_texts : PySem.W.nsIn K mainGlobals "_law_texts" = some (some (.ref f_law_texts)))
    (lf_law_texts : K.lookup f_law_texts = some ⟨ocf_law_texts, odf_law_texts, .func (PySem.W.fnOf "_law_texts" "_law_texts" (defArgs s_law_texts) (defBody s_law_texts) (defScope s_law_texts) .none kVf_law_texts dcf_law_texts pmf_law_texts anf_law_texts cdf_law_texts ctf_law_texts), slf_law_texts⟩)
    (cf_law_texts : PySem.W.codeIn K cdf_law_texts "_law_texts" = true)
    (kf_law_texts : PySem.W.keepIn K (.ref f_law_texts) = true)
    (aLaw : PySem.W.nsIn K mainGlobals "law" = some (some (.ref fLaw)))
    (lLaw : K.lookup fLaw = some ⟨ocLaw, odLaw, .func (PySem.W.fnOf "law" "law" (defArgs s_law) (defBody s_law) (defScope s_law) .none kVLaw dcLaw pmLaw anLaw cdLaw ctLaw), slLaw⟩)
    (cLaw : PySem.W.codeIn K cdLaw "law" = true)
    (kLaw : PySem.W.keepIn K (.ref fLaw) = true)
    (pg : PySem.W.plainGet K C Str.empty = true)
    (hd : PySem.W.hasDictIn K C = true)
    (po : PySem.W.plainOver K C = true)
    (sa : PySem.W.findIn K (.ref C) "__setattr__" = some (some (.builtin "object.__setattr__")))
    (mk : PySem.W.makesIn K C = true)
    (kc : PySem.W.keepIn K (.ref C) = true)
    (nN : PySem.W.findIn K (.ref C) "num" = some none)
    (nD : PySem.W.findIn K (.ref C) "den" = some none)
    (sf : PySem.W.selfFirst K C = true)
    (nf : PySem.W.notFirst K C (.ref C) = true)
    (cls1 : PySem.W.findIn K (.ref C) "__class__" = some (some (.builtin "object.__class__")))
    (cls2 : PySem.W.specialIn K (.builtin "object.__class__") "__get__" = some (some (.builtin "getset_descriptor.__get__")))
    (cls3 : PySem.W.takesIn K (.builtin "object.__class__") = some true)
    (cls4 : PySem.W.mroIn K C (.type "object") = some true)
    (gM : PySem.W.nsIn K mainGlobals "MOST_DIGITS" = some (some (.int 60 tkM)))
    (gG : PySem.W.nsIn K mainGlobals "gcd" = some (some (.builtin "math.gcd")))
    (n_int : PySem.W.nsIn K mainGlobals "int" = some none)
    (n_bool : PySem.W.nsIn K mainGlobals "bool" = some none)
    (n_str : PySem.W.nsIn K mainGlobals "str" = some none)
    (n_len : PySem.W.nsIn K mainGlobals "len" = some none)
    (n_all : PySem.W.nsIn K mainGlobals "all" = some none)
    (n_abs : PySem.W.nsIn K mainGlobals "abs" = some none)
    (n_range : PySem.W.nsIn K mainGlobals "range" = some none)
    (n_isinstance : PySem.W.nsIn K mainGlobals "isinstance" = some none)
    (n_ValueError : PySem.W.nsIn K mainGlobals "ValueError" = some none)
    (xCZ : PySem.W.excIn K CZ bmV "ValueError.__new__" = true)
    (kCZ : PySem.W.keepIn K (.ref CZ) = true)
    (bCZ : PySem.W.subIn K (.ref CZ) (.type "BaseException") = some true)
    (tCZ : PySem.W.typeIn K (.ref CZ) = some (.type "type"))
    (gaCZ : PySem.W.findIn K (.ref CZ) "__getattribute__" = some (some (.builtin "BaseException.__getattribute__")))
    (ggCZ : PySem.W.findIn K (.ref CZ) "__getattr__" = some none)
    (hdCZ : PySem.W.hasDictIn K CZ = true)
    (clCZ : PySem.W.findIn K (.ref CZ) "__class__" = some (some (.builtin "object.__class__")))
    (mrCZ : PySem.W.mroIn K CZ (.type "object") = some true)
    (ssCZ : PySem.W.subIn K (.ref CZ) (.ref CZ) = some true)
    (xCN : PySem.W.excIn K CN bmV "ValueError.__new__" = true)
    (kCN : PySem.W.keepIn K (.ref CN) = true)
    (bCN : PySem.W.subIn K (.ref CN) (.type "BaseException") = some true)
    (tCN : PySem.W.typeIn K (.ref CN) = some (.type "type"))
    (gaCN : PySem.W.findIn K (.ref CN) "__getattribute__" = some (some (.builtin "BaseException.__getattribute__")))
    (ggCN : PySem.W.findIn K (.ref CN) "__getattr__" = some none)
    (hdCN : PySem.W.hasDictIn K CN = true)
    (clCN : PySem.W.findIn K (.ref CN) "__class__" = some (some (.builtin "object.__class__")))
    (mrCN : PySem.W.mroIn K CN (.type "object") = some true)
    (ssCN : PySem.W.subIn K (.ref CN) (.ref CN) = some true)
    (hdCT : PySem.W.hasDictIn K CT = true)
    (tCT : PySem.W.typeIn K (.ref CT) = some (.type "type"))
    (ssCT : PySem.W.subIn K (.ref CT) (.ref CT) = some true)
    (uNT : PySem.W.subIn K (.ref CN) (.ref CT) = some true)
    (uNV : PySem.W.subIn K (.ref CN) (.type "ValueError") = some true)
    (uNZ : PySem.W.subIn K (.ref CN) (.ref CZ) = some false)
    (uZT : PySem.W.subIn K (.ref CZ) (.ref CT) = some true)
    (uZN : PySem.W.subIn K (.ref CZ) (.ref CN) = some false) :
    ∃ fd : FuncData, (∀ (s : Shared) (v : Value), BindsTo s fd ⟨[v], []⟩ [("script", v)]) ∧ ∀ base : Heap, K.In base → base.Ns mainGlobals mg → FnOk l.prog w K mg base (L2.CX l.prog w) 7 fa fd ["script"] (spTx K) := by
  have e := hfa.symm.trans (PySem.W.mg_of X G aLaw)
  cases e

  let a : LA := { C := C, CT := CT, CZ := CZ, CN := CN, fInit := fInit, fStr := fStr, fEq := fEq, fBool := fBool, fAdd := fAdd, fSub := fSub, fMul := fMul, fDiv := fDiv, fNeg := fNeg, fPow := fPow, fDig := fDig, fRead := fRead, pRead := pRead, f_law_cell := f_law_cell, f_law_span := f_law_span, f_law_divisor := f_law_divisor, f_law_lowest := f_law_lowest, f_law_same := f_law_same, f_law_written := f_law_written, f_law_refused := f_law_refused, f_law_no_divisor := f_law_no_divisor, f_law_arithmetic := f_law_arithmetic, f_law_texts := f_law_texts }
  have mg_ : ∀ {x : Str} {u : Value}, PySem.W.nsIn K mainGlobals x = some (some u) → mg x = some u := fun e => PySem.W.mg_of X G e
  have mn_ : ∀ {x : Str}, PySem.W.nsIn K mainGlobals x = some none → mg x = none := fun e => PySem.W.mg_none_of X G e
  have cC : Cls K C := ⟨pg, hd, po, sa⟩
  have TR : RT K mg a.toRA := { m_Ratio := mg_ aC, c_Ratio := cC, nn := nN, nd := nD, mk_Ratio := ⟨mk, aInit, iInit, kc⟩, sf_Ratio := sf, nf_Ratio := nf, me_Ratio_add := by rw [dAdd]; exact ⟨aAdd, iAdd, kAdd⟩, me_Ratio_sub := by rw [dSub]; exact ⟨aSub, iSub, kSub⟩, me_Ratio_mul := by rw [dMul]; exact ⟨aMul, iMul, kMul⟩, me_Ratio_floordiv := by rw [dDiv]; exact ⟨aDiv, iDiv, kDiv⟩, me_Ratio_neg := ⟨aNeg, iNeg, kNeg⟩, me_Ratio_eq := ⟨aEq, iEq, kEq⟩, me_Ratio_bool := ⟨aBool, iBool, kBool⟩, me_Ratio_str := ⟨aStr, iStr, kStr⟩, me_Ratio_power := ⟨aPow, iPow, kPow⟩, rd_Ratio := ⟨rdC, gaC⟩, cm_Ratio_read := ⟨aRead, ⟨_, rRead⟩, fiRead⟩, isC := kit_self, tyC := fun H p dx fs e => .base (.ins e cC cls1 cls2 cls3 cls4), m_are_digits := mg_ aDig, k_are_digits := kDig, g_MOST_DIGITS := ⟨_, mg_ gM⟩, g_gcd := mg_ gG, n_int := mn_ n_int, n_bool := mn_ n_bool, n_str := mn_ n_str, n_len := mn_ n_len, n_all := mn_ n_all, n_abs := mn_ n_abs, n_range := mn_ n_range, n_isinstance := mn_ n_isinstance, m_ZeroDivisor := mg_ aCZ, x_ZeroDivisor := xCZ, k_ZeroDivisor := kCZ, b_ZeroDivisor := bCZ, t_ZeroDivisor := tCZ, m_InvalidNumber := mg_ aCN, x_InvalidNumber := xCN, k_InvalidNumber := kCN, b_InvalidNumber := bCN, t_InvalidNumber := tCN }
  have T : LT K mg a := { toRT := TR, m_law_cell := mg_ af_law_cell, k_law_cell := kf_law_cell, m_law_span := mg_ af_law_span, k_law_span := kf_law_span, m_law_divisor := mg_ af_law_divisor, k_law_divisor := kf_law_divisor, m_law_lowest := mg_ af_law_lowest, k_law_lowest := kf_law_lowest, m_law_same := mg_ af_law_same, k_law_same := kf_law_same, m_law_written := mg_ af_law_written, k_law_written := kf_law_written, m_law_refused := mg_ af_law_refused, k_law_refused := kf_law_refused, m_law_no_divisor := mg_ af_law_no_divisor, k_law_no_divisor := kf_law_no_divisor, m_law_arithmetic := mg_ af_law_arithmetic, k_law_arithmetic := kf_law_arithmetic, m_law_texts := mg_ af_law_texts, k_law_texts := kf_law_texts, n_ValueError := mn_ n_ValueError, m_TableError := mg_ aCT, ec_InvalidNumber := ⟨gaCN, ggCN, bCN, hdCN, clCN, cls2, cls3, mrCN⟩, ec_ZeroDivisor := ⟨gaCZ, ggCZ, bCZ, hdCZ, clCZ, cls2, cls3, mrCZ⟩, i_NT := kit_ref hdCT tCT uNT ssCT, i_NV := kit_val (by decide +kernel) uNV, i_NZ := kit_ref hdCZ tCZ uNZ ssCZ, i_ZT := kit_ref hdCT tCT uZT ssCT, i_ZN := kit_ref hdCN tCN uZN ssCN, eNN := PySem.W.exm_ref bCN hdCN tCN ssCN, eZZ := PySem.W.exm_ref bCZ hdCZ tCZ ssCZ }
  have FI : FunD K "__init__" "Ratio.__init__" (defArgs s_Ratio__init) (defBody s_Ratio__init) (defScope s_Ratio__init) [V.int 1] [] fInit _ := ⟨⟨_, _, _, _, _, _, _, _, _, _, rfl, lInit, cInit, .inr ⟨by simp, TD, _, [.int 1 tkTD], nTD, rfl, lTD, rfl, .cons ⟨_, rfl⟩ .nil⟩, .inl rfl⟩, kInit⟩
  have FStr := fun_mk (st := s_Ratio__str) lStr cStr kStr
  have bStr := FStr.binds (ps := p_Ratio__str) fun _ _ _ _ _ _ us hl => match us, hl with | [_], _ => rfl
  have FEq := fun_mk (st := s_Ratio__eq) lEq cEq kEq
  have bEq := FEq.binds (ps := p_Ratio__eq) fun _ _ _ _ _ _ us hl => match us, hl with | [_, _], _ => rfl
  have FBool := fun_mk (st := s_Ratio__bool) lBool cBool kBool
  have bBool := FBool.binds (ps := p_Ratio__bool) fun _ _ _ _ _ _ us hl => match us, hl with | [_], _ => rfl
  have FAdd := fun_mk (st := s_Ratio__add) lAdd cAdd kAdd
  have bAdd := FAdd.binds (ps := p_Ratio__add) fun _ _ _ _ _ _ us hl => match us, hl with | [_, _], _ => rfl
  have FSub := fun_mk (st := s_Ratio__sub) lSub cSub kSub
  have bSub := FSub.binds (ps := p_Ratio__sub) fun _ _ _ _ _ _ us hl => match us, hl with | [_, _], _ => rfl
  have FMul := fun_mk (st := s_Ratio__mul) lMul cMul kMul
  have bMul := FMul.binds (ps := p_Ratio__mul) fun _ _ _ _ _ _ us hl => match us, hl with | [_, _], _ => rfl
  have FDiv := fun_mk (st := s_Ratio__floordiv) lDiv cDiv kDiv
  have bDiv := FDiv.binds (ps := p_Ratio__floordiv) fun _ _ _ _ _ _ us hl => match us, hl with | [_, _], _ => rfl
  have FNeg := fun_mk (st := s_Ratio__neg) lNeg cNeg kNeg
  have bNeg := FNeg.binds (ps := p_Ratio__neg) fun _ _ _ _ _ _ us hl => match us, hl with | [_], _ => rfl
  have FPow := fun_mk (st := s_Ratio_power) lPow cPow kPow
  have bPow := FPow.binds (ps := p_Ratio_power) fun _ _ _ _ _ _ us hl => match us, hl with | [_, _], _ => rfl
  have FRead := fun_mk (st := s_Ratio_read) lRead cRead kRead
  have bRead := FRead.binds (ps := p_Ratio_read) fun _ _ _ _ _ _ us hl => match us, hl with | [_, _], _ => rfl
  have FDig := fun_mk (st := s_are_digits) lDig cDig kDig
  have bDig := FDig.binds (ps := p_are_digits) fun _ _ _ _ _ _ us hl => match us, hl with | [_], _ => rfl
  have Ff_law_cell := fun_mk (st := s_law_cell) lf_law_cell cf_law_cell kf_law_cell
  have bf_law_cell := Ff_law_cell.binds (ps := p_law_cell) fun _ _ _ _ _ _ us hl => match us, hl with | [_, _], _ => rfl
  have Ff_law_span := fun_mk (st := s_law_span) lf_law_span cf_law_span kf_law_span
  have bf_law_span := Ff_law_span.binds (ps := p_law_span) fun _ _ _ _ _ _ us hl => match us, hl with | [_, _], _ => rfl
  have Ff_law_divisor := fun_mk (st := s_law_divisor) lf_law_divisor cf_law_divisor kf_law_divisor
  have bf_law_divisor := Ff_law_divisor.binds (ps := p_law_divisor) fun _ _ _ _ _ _ us hl => match us, hl with | [_, _], _ => rfl
  have Ff_law_lowest := fun_mk (st := s_law_lowest) lf_law_lowest cf_law_lowest kf_law_lowest
  have bf_law_lowest := Ff_law_lowest.binds (ps := p_law_lowest) fun _ _ _ _ _ _ us hl => match us, hl with | [_, _], _ => rfl
  have Ff_law_same := fun_mk (st := s_law_same) lf_law_same cf_law_same kf_law_same
  have bf_law_same := Ff_law_same.binds (ps := p_law_same) fun _ _ _ _ _ _ us hl => match us, hl with | [_, _, _], _ => rfl
  have Ff_law_written := fun_mk (st := s_law_written) lf_law_written cf_law_written kf_law_written
  have bf_law_written := Ff_law_written.binds (ps := p_law_written) fun _ _ _ _ _ _ us hl => match us, hl with | [_, _], _ => rfl
  have Ff_law_refused := fun_mk (st := s_law_refused) lf_law_refused cf_law_refused kf_law_refused
  have bf_law_refused := Ff_law_refused.binds (ps := p_law_refused) fun _ _ _ _ _ _ us hl => match us, hl with | [_], _ => rfl
  have Ff_law_no_divisor := fun_mk (st := s_law_no_divisor) lf_law_no_divisor cf_law_no_divisor kf_law_no_divisor
  have bf_law_no_divisor := Ff_law_no_divisor.binds (ps := p_law_no_divisor) fun _ _ _ _ _ _ us hl => match us, hl with | [_, _, _], _ => rfl
  have Ff_law_arithmetic := fun_mk (st := s_law_arithmetic) lf_law_arithmetic cf_law_arithmetic kf_law_arithmetic
  have bf_law_arithmetic := Ff_law_arithmetic.binds (ps := p_law_arithmetic) fun _ _ _ _ _ _ us hl => match us, hl with | [_, _, _, _, _], _ => rfl
  have Ff_law_texts := fun_mk (st := s_law_texts) lf_law_texts cf_law_texts kf_law_texts
  have bf_law_texts := Ff_law_texts.binds (ps := p_law_texts) fun _ _ _ _ _ _ us hl => match us, hl with | [_], _ => rfl
  have raw : ∀ {base : Heap} {k : Nat} {f : Addr} {fd : FuncData} {ps : List Str} {sp : Sp}, FnOk l.prog w K mg base (L2.CX l.prog w) k f fd ps sp → Binds K fd ps [] → FR l.prog w K mg base k f sp := fun F b => FnR.imp (FnOk.raw F b .nil) fun vs H Q E h => by rw [List.append_nil]; exact h
  refine ⟨PySem.W.fnOf "law" "law" (defArgs s_law) (defBody s_law) (defScope s_law) .none kVLaw dcLaw pmLaw anLaw cdLaw ctLaw, fun s v => .of_eq rfl, fun base _ _ => ?_⟩
  have G_i2 := fr_init2 (base := base) (P := l.prog) (w := w) FI TR
  have G_i1 := fr_init1 (base := base) (P := l.prog) (w := w) FI TR
  have G_add := raw (base := base) (ok_Ratio__add FAdd TR G_i2) bAdd
  have G_sub := raw (base := base) (ok_Ratio__sub FSub TR G_i2) bSub
  have G_mul := raw (base := base) (ok_Ratio__mul FMul TR G_i2) bMul
  have G_div := raw (base := base) (ok_Ratio__floordiv FDiv TR G_i2) bDiv
  have G_neg := raw (base := base) (ok_Ratio__neg FNeg TR G_i2) bNeg
  have G_eq := raw (base := base) (ok_Ratio__eq FEq TR) bEq
  have G_bool := raw (base := base) (ok_Ratio__bool FBool TR) bBool
  have G_str := raw (base := base) (ok_Ratio__str FStr TR) bStr
  have G_pow := raw (base := base) (ok_Ratio_power FPow TR G_i1 G_mul) bPow
  have G_dig := raw (base := base) (ok_are_digits FDig TR) bDig
  have G_read := raw (base := base) (ok_Ratio_read FRead TR G_dig G_i2 G_str) bRead
  have G_readT := FnR.imp G_read (fun vs H Q E h => read_T h)
  have G_cell := raw (base := base) (ok_law_cell Ff_law_cell T) bf_law_cell
  have G_span := raw (base := base) (ok_law_span Ff_law_span T) bf_law_span
  have G_dvs := raw (base := base) (ok_law_divisor Ff_law_divisor T) bf_law_divisor
  have G_low := raw (base := base) (ok_law_lowest Ff_law_lowest T G_dvs) bf_law_lowest
  have G_same0 := raw (base := base) (ok_law_same Ff_law_same T G_low) bf_law_same
  have G_same := FnR.imp G_same0 (fun vs H Q E h => same_T h)
  have G_wrt := raw (base := base) (ok_law_written Ff_law_written T G_low) bf_law_written
  have G_ref := raw (base := base) (ok_law_refused Ff_law_refused T G_read) bf_law_refused
  have G_nod := raw (base := base) (ok_law_no_divisor Ff_law_no_divisor T G_i2 G_div) bf_law_no_divisor
  have G_ar := raw (base := base) (ok_law_arithmetic Ff_law_arithmetic T G_i2 G_add G_sub G_mul G_div G_neg G_eq G_bool G_pow G_same G_nod) bf_law_arithmetic
  have G_tx := raw (base := base) (ok_law_texts Ff_law_texts T G_readT G_cell G_same G_ref G_dvs) bf_law_texts
  exact ok_law (fun_mk (st := s_law) lLaw cLaw kLaw) T G_i2 G_str G_readT G_cell G_span G_same G_wrt G_ar G_tx
theorem walk {l : PySem.W.OpenLaw} {q : Program} {loose : List Str} {XP : (Str → Option Value) → Heap → Prop} {YP : World → Heap → Prop} {d : DefRec} {K : Params → PySem.W.Frag} (hn : l.most = some 63) (hdf : d.params.defaults = [])
    (hY : ∀ (w : World) (h : Heap), YP w h → (K w.params).In h)
    (F : ∀ (w : World) (mg : Str → Option Value) (fa : Addr) (h : Heap), (K w.params).In h → h.Ns mainGlobals mg → mg d.name = some (.ref fa) →
      ∃ fd : FuncData, (∀ (s : Shared) (u : Value), BindsTo s fd ⟨[u], []⟩ [("script", u)]) ∧ ∀ base : Heap, (K w.params).In base → base.Ns mainGlobals mg → FnOk l.prog w (K w.params) mg base (L2.CX l.prog w) 7 fa fd ["script"] (spTx (K w.params))) :
    PySem.W.WalkO q loose XP YP l.row.toRowW d [] (fun f vs => PySem.call f vs) :=
  L2.walk_of (n := 63) (k := 7) (x := "script") (CX := fun w => L2.CX l.prog w) (sp := fun w => spTx (K w.params)) hn (by decide) hdf ⟨rfl, by decide, by decide⟩ hY F (fun _ _ a ns hl _ hS => ⟨a, ns, rfl, hS, fun _ _ => rfl⟩) fun _ _ _ _ _ z => cx_none z
end TL

open PySem PySem.W PyProof.Rows in
set_option maxRecDepth 100000 in
set_option maxHeartbeats 0 in
theorem PySem.Challenge.cw_tablelaws_k86_fractions_holds : PySem.Challenge.rw_tablelaws_k86_fractions.Holds := by
  w_on; o_law; k_head; (case hw => w_witness2)
  k_fill
  refine TL.walk (l := PySem.Challenge.rw_tablelaws_k86_fractions) rfl rfl (fun w h Y => PySem.W.kIn_of Y) ?F
  case F =>
    intro w mg fa h KX G hmg
    refine' TL.all_mk KX G hmg ?aC ?aCT ?aCZ ?aCN ?aInit ?iInit ?lInit ?cInit ?kInit ?lTD ?aStr ?iStr ?lStr ?cStr ?kStr ?aEq ?iEq ?lEq ?cEq ?kEq ?aBool ?iBool ?lBool ?cBool ?kBool ?aAdd ?iAdd ?lAdd ?cAdd ?kAdd ?aSub ?iSub ?lSub ?cSub ?kSub ?aMul ?iMul ?lMul ?cMul ?kMul ?aDiv ?iDiv ?lDiv ?cDiv ?kDiv ?aNeg ?iNeg ?lNeg ?cNeg ?kNeg ?aPow ?iPow ?lPow ?cPow ?kPow ?aRead ?rRead ?fiRead ?lRead ?cRead ?kRead ?rdC ?gaC ?aDig ?lDig ?cDig ?kDig ?af_law_cell ?lf_law_cell ?cf_law_cell ?kf_law_cell ?af_law_span ?lf_law_span ?cf_law_span ?kf_law_span ?af_law_divisor ?lf_law_divisor ?cf_law_divisor ?kf_law_divisor ?af_law_lowest ?lf_law_lowest ?cf_law_lowest ?kf_law_lowest ?af_law_same ?lf_law_same ?cf_law_same ?kf_law_same ?af_law_written ?lf_law_written ?cf_law_written ?kf_law_written ?af_law_refused ?lf_law_refused ?cf_law_refused ?kf_law_refused ?af_law_no_divisor ?lf_law_no_divisor ?cf_law_no_divisor ?kf_law_no_divisor ?af_law_arithmetic ?lf_law_arithmetic ?cf_law_arithmetic ?kf_law_arithmetic ?af_law_texts ?lf_law_texts ?cf_law_texts ?kf_law_texts ?aLaw ?lLaw ?cLaw ?kLaw ?pg ?hd ?po ?sa ?mk ?kc ?nN ?nD ?sf ?nf ?cls1 ?cls2 ?cls3 ?cls4 ?gM ?gG ?n_int ?n_bool ?n_str ?n_len ?n_all ?n_abs ?n_range ?n_isinstance ?n_ValueError ?xCZ ?kCZ ?bCZ ?tCZ ?gaCZ ?ggCZ ?hdCZ ?clCZ ?mrCZ ?ssCZ ?xCN ?kCN ?bCN ?tCN ?gaCN ?ggCN ?hdCN ?clCN ?mrCN ?ssCN ?hdCT ?tCT ?ssCT ?uNT ?uNV ?uNZ ?uZT ?uZN
    (case aC => k_is)
    (case aCT => k_is)
    (case aCZ => k_is)
    (case aCN => k_is)
    (case aInit => k_is)
    (case iInit => k_is)
    (case lInit => k_is)
    (case cInit => k_is)
    (case kInit => k_is)
    (case lTD => k_is)
    (case aStr => k_is)
    (case iStr => k_is)
    (case lStr => k_is)
    (case cStr => k_is)
    (case kStr => k_is)
    (case aEq => k_is)
    (case iEq => k_is)
    (case lEq => k_is)
    (case cEq => k_is)
    (case kEq => k_is)
    (case aBool => k_is)
    (case iBool => k_is)
    (case lBool => k_is)
    (case cBool => k_is)
    (case kBool => k_is)
    (case aAdd => k_is)
    (case iAdd => k_is)
    (case lAdd => k_is)
    (case cAdd => k_is)
    (case kAdd => k_is)
    (case aSub => k_is)
    (case iSub => k_is)
    (case lSub => k_is)
    (case cSub => k_is)
    (case kSub => k_is)
    (case aMul => k_is)
    (case iMul => k_is)
    (case lMul => k_is)
    (case cMul => k_is)
    (case kMul => k_is)
    (case aDiv => k_is)
    (case iDiv => k_is)
    (case lDiv => k_is)
    (case cDiv => k_is)
    (case kDiv => k_is)
    (case aNeg => k_is)
    (case iNeg => k_is)
    (case lNeg => k_is)
    (case cNeg => k_is)
    (case kNeg => k_is)
    (case aPow => k_is)
    (case iPow => k_is)
    (case lPow => k_is)
    (case cPow => k_is)
    (case kPow => k_is)
    (case aRead => k_is)
    (case rRead => k_is)
    (case fiRead => k_is)
    (case lRead => k_is)
    (case cRead => k_is)
    (case kRead => k_is)
    (case rdC => k_is)
    (case gaC => k_is)
    (case aDig => k_is)
    (case lDig => k_is)
    (case cDig => k_is)
    (case kDig => k_is)
    (case af_law_cell => k_is)
    (case lf_law_cell => k_is)
    (case cf_law_cell => k_is)
    (case kf_law_cell => k_is)
    (case af_law_span => k_is)
    (case lf_law_span => k_is)
    (case cf_law_span => k_is)
    (case kf_law_span => k_is)
    (case af_law_divisor => k_is)
    (case lf_law_divisor => k_is)
    (case cf_law_divisor => k_is)
    (case kf_law_divisor => k_is)
    (case af_law_lowest => k_is)
    (case lf_law_lowest => k_is)
    (case cf_law_lowest => k_is)
    (case kf_law_lowest => k_is)
    (case af_law_same => k_is)
    (case lf_law_same => k_is)
    (case cf_law_same => k_is)
    (case kf_law_same => k_is)
    (case af_law_written => k_is)
    (case lf_law_written => k_is)
    (case cf_law_written => k_is)
    (case kf_law_written => k_is)
    (case af_law_refused => k_is)
    (case lf_law_refused => k_is)
    (case cf_law_refused => k_is)
    (case kf_law_refused => k_is)
    (case af_law_no_divisor => k_is)
    (case lf_law_no_divisor => k_is)
    (case cf_law_no_divisor => k_is)
    (case kf_law_no_divisor => k_is)
    (case af_law_arithmetic => k_is)
    (case lf_law_arithmetic => k_is)
    (case cf_law_arithmetic => k_is)
    (case kf_law_arithmetic => k_is)
    (case af_law_texts => k_is)
    (case lf_law_texts => k_is)
    (case cf_law_texts => k_is)
    (case kf_law_texts => k_is)
    (case aLaw => k_is)
    (case lLaw => k_is)
    (case cLaw => k_is)
    (case kLaw => k_is)
    (case pg => k_is)
    (case hd => k_is)
    (case po => k_is)
    (case sa => k_is)
    (case mk => k_is)
    (case kc => k_is)
    (case nN => k_is)
    (case nD => k_is)
    (case sf => k_is)
    (case nf => k_is)
    (case cls1 => k_is)
    (case cls2 => k_is)
    (case cls3 => k_is)
    (case cls4 => k_is)
    (case gM => k_is)
    (case gG => k_is)
    (case n_int => k_is)
    (case n_bool => k_is)
    (case n_str => k_is)
    (case n_len => k_is)
    (case n_all => k_is)
    (case n_abs => k_is)
    (case n_range => k_is)
    (case n_isinstance => k_is)
    (case n_ValueError => k_is)
    (case xCZ => k_exc)
    (case kCZ => k_is)
    (case bCZ => k_is)
    (case tCZ => k_is)
    (case gaCZ => k_is)
    (case ggCZ => k_is)
    (case hdCZ => k_is)
    (case clCZ => k_is)
    (case mrCZ => k_is)
    (case ssCZ => first | rfl | k_is)
    (case xCN => k_exc)
    (case kCN => k_is)
    (case bCN => k_is)
    (case tCN => k_is)
    (case gaCN => k_is)
    (case ggCN => k_is)
    (case hdCN => k_is)
    (case clCN => k_is)
    (case mrCN => k_is)
    (case ssCN => first | rfl | k_is)
    (case hdCT => k_is)
    (case tCT => k_is)
    (case ssCT => first | rfl | k_is)
    (case uNT => k_is)
    (case uNV => k_is)
    (case uNZ => k_is)
    (case uZT => k_is)
    (case uZN => k_is)
