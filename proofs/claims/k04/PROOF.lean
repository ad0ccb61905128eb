import PyProof.Rows.All
import Wide.All
import OpenK.AllK
import Wide.FinOn
import HandS.ForMost
import HandS.ForExc
import HandS.DictComp
import HandS.ExcSuper
import HandS.IsInst
import HandS.Defaults
import HandS.OwnEq
import HandS.Wide
import HandS.OwnIter
import HandS.TupLen
import HandS.Deep
import HandS.DictEq
import HandS.IterVal
import HandS.SetFor
import HandS.Conv
import HandS.Sort
import HandS.Star
import HandS.ClsMeth
import KE.KExcSuper
import KE.KSuper
import HandS.FStr
import HandS.FStrTup
import HandS.ExcInit
import HandS.ExcField
import HandS.ExcIs
import HandS.HotCalls
import HandS.ExcCtx
import KE.KExcIs
import KE.KIsAll
import HandS.ExcOwn
import HandS.Iter
import PyProof.Draws
import KE.GoesEnumKw
import KE.GoesMore
import HandS.Small
import HandS.More
import KE.KxField
import HandS.Bytes
import HandS.StrMore
import HandS.Text
import HandS.Property
import HandS.BytesMake
import PyProof.Rows.Range3
import HandS.TupAny
import KE.KRevSl
import HandS.Style
import HandS.Remove
import PySem.Challenge.RW_partkeepers_k04_counts_of_a_book
set_option Elab.async false
set_option linter.all false
set_option maxRecDepth 100000
set_option maxHeartbeats 0
/-! Pv: values of Python as typed Lean values; what an expression gives, from typed slots, without the heap. -/
namespace Pv
open PySem L2

/-! ### heaps -/
/-- no tuple: tuples never change, and may be frozen at any time -/
def NT : HO → Prop
  | .tup _ => False
  | _ => True
/-- the frozen part Hf of the heap H grows; nothing that stood is frozen anew, but for tuples -/
structure Stp (Hf H Hf' H' : Hp) : Prop where
  f : Same Hf Hf'
  h : Same H H'
  s : Same Hf' H'
  d : ∀ p o, Hf p = none → H p = some o → NT o → Hf' p = none
theorem Stp.refl {Hf H : Hp} (s : Same Hf H) : Stp Hf H Hf H := ⟨Same.refl _, Same.refl _, s, fun _ _ h _ _ => h⟩
theorem Stp.trans {A B C D E F : Hp} (x : Stp A B C D) (y : Stp C D E F) : Stp A B E F :=
  ⟨x.f.trans y.f, x.h.trans y.h, y.s, fun p o h g n => y.d p o (x.d p o h g n) (x.h p o g) n⟩
theorem same_new {H : Hp} {p : Addr} {o : HO} (h : H p = none) : Same H (upd H p o) := fun b u e => by
  rw [upd_ne (ne_of_none e h)]; exact e
theorem same_upd2 {A B : Hp} {p : Addr} {o : HO} (s : Same A B) : Same (upd A p o) (upd B p o) := fun b u e => by
  by_cases hb : b = p
  · subst hb; rw [upd_same] at e ⊢; exact e
  · rw [upd_ne hb] at e ⊢; exact s b u e
/-- a new object that is frozen at once -/
theorem Stp.new {Hf H : Hp} {p : Addr} {o : HO} (s : Same Hf H) (h : H p = none) : Stp Hf H (upd Hf p o) (upd H p o) := by
  have hf : Hf p = none := s.free h
  refine ⟨same_new hf, same_new h, same_upd2 s, fun q u a b _ => ?_⟩
  by_cases e : q = p
  · subst e; rw [h] at b; cases b
  · rw [upd_ne e]; exact a

/-! ### typed values -/
abbrev CL := String → Addr
class Rp (α : Type) where
  rp : PySem.W.Frag → CL → Hp → V → α → Prop
  mono : ∀ {K c H H' v a}, Same H H' → rp K c H v a → rp K c H' v a
open Rp (rp)
instance : Rp Int := ⟨fun _ _ _ v i => v = .int i, fun _ h => h⟩
instance : Rp Bool := ⟨fun _ _ _ v b => v = .bl b, fun _ h => h⟩
instance : Rp Unit := ⟨fun _ _ _ v _ => v = .non, fun _ h => h⟩
instance : Rp Str := ⟨fun _ _ _ v s => v = .str s, fun _ h => h⟩
theorem rp_int {K : PySem.W.Frag} {c : CL} {H : Hp} {v : V} {i : Int} : rp K c H v i ↔ v = .int i := Iff.rfl
theorem rp_bl {K : PySem.W.Frag} {c : CL} {H : Hp} {v : V} {b : Bool} : rp K c H v b ↔ v = .bl b := Iff.rfl
theorem sqT_same {K : PySem.W.Frag} {H H' : Hp} {a : Addr} {xs : List V} (e : Same H H') (h : SqT K H a xs) : SqT K H' a xs := by
  rcases h with (h | ⟨o, h⟩) | h
  · exact .inl (.inl (e _ _ h))
  · exact .inl (.inr ⟨o, e _ _ h⟩)
  · exact .inr h
def RpL {α : Type} [Rp α] (K : PySem.W.Frag) (c : CL) (H : Hp) (vs : List V) (as : List α) : Prop := Paired (fun v a => rp K c H v a) vs as
theorem paired_imp {α β : Type} {F G : α → β → Prop} (f : ∀ a b, F a b → G a b) : ∀ {l₁ : List α} {l₂ : List β}, Paired F l₁ l₂ → Paired G l₁ l₂
  | _, _, .nil => .nil
  | _, _, .cons r t => .cons (f _ _ r) (paired_imp f t)
theorem RpL.mono {α : Type} [Rp α] {K : PySem.W.Frag} {c : CL} {H H' : Hp} {vs : List V} {as : List α} (e : Same H H') (r : RpL K c H vs as) : RpL K c H' vs as :=
  paired_imp (fun _ _ h => Rp.mono e h) r
theorem RpL.len {α : Type} [Rp α] {K : PySem.W.Frag} {c : CL} {H : Hp} {vs : List V} {as : List α} (r : RpL K c H vs as) : vs.length = as.length := Paired.length r
theorem paired_get {α β : Type} {F : α → β → Prop} : ∀ {l₁ : List α} {l₂ : List β} {i : Nat} {a : α}, Paired F l₁ l₂ → l₁[i]? = some a → ∃ b, l₂[i]? = some b ∧ F a b
  | _, _, _, _, .nil, e => by simp at e
  | _, _, 0, _, .cons r t, e => by simp at e; subst e; exact ⟨_, rfl, r⟩
  | _, _, i + 1, a, .cons r t, e => by
    obtain ⟨b, h1, h2⟩ := paired_get (i := i) (a := a) t (by simpa using e)
    exact ⟨b, by simpa using h1, h2⟩
theorem paired_get' {α β : Type} {F : α → β → Prop} : ∀ {l₁ : List α} {l₂ : List β} {i : Nat} {b : β}, Paired F l₁ l₂ → l₂[i]? = some b → ∃ a, l₁[i]? = some a ∧ F a b
  | _, _, _, _, .nil, e => by simp at e
  | _, _, 0, _, .cons r t, e => by simp at e; subst e; exact ⟨_, rfl, r⟩
  | _, _, i + 1, b, .cons r t, e => by
    obtain ⟨a, h1, h2⟩ := paired_get' (i := i) (b := b) t (by simpa using e)
    exact ⟨a, by simpa using h1, h2⟩
theorem paired_append {α β : Type} {F : α → β → Prop} : ∀ {l₁ m₁ : List α} {l₂ m₂ : List β}, Paired F l₁ l₂ → Paired F m₁ m₂ → Paired F (l₁ ++ m₁) (l₂ ++ m₂)
  | _, _, _, _, .nil, s => s
  | _, _, _, _, .cons r t, s => .cons r (paired_append t s)
/-- a list of Python -/
instance {α : Type} [Rp α] : Rp (List α) := ⟨fun K c H v as => ∃ p vs, v = .ref p ∧ SqL K H p vs ∧ RpL K c H vs as, fun e ⟨p, vs, h1, h2, h3⟩ => ⟨p, vs, h1, e.seq h2, h3.mono e⟩⟩
/-- a tuple of Python whose items are of one kind -/
structure Tup (α : Type) where
  l : List α
  deriving DecidableEq
instance {α : Type} [Rp α] : Rp (Tup α) := ⟨fun K c H v t => ∃ p vs, v = .ref p ∧ H p = some (.tup vs) ∧ RpL K c H vs t.l, fun e ⟨p, vs, h1, h2, h3⟩ => ⟨p, vs, h1, e _ _ h2, h3.mono e⟩⟩
/-- a tuple that may also stand in the written part (a constant of a module) -/
structure TupW (α : Type) where
  l : List α
  deriving DecidableEq
instance {α : Type} [Rp α] : Rp (TupW α) := ⟨fun K c H v t => ∃ p vs, v = .ref p ∧ SqT K H p vs ∧ RpL K c H vs t.l, fun e ⟨p, vs, h1, h2, h3⟩ => ⟨p, vs, h1, sqT_same e h2, h3.mono e⟩⟩
theorem sqT_of {K : PySem.W.Frag} {H : Hp} {p : Addr} {vs : List V} (h : H p = some (.tup vs)) : SqT K H p vs := .inl (.inl h)

/-! ### slots -/
structure Pk where
  {α : Type}
  [i : Rp α]
  a : α
/-- what a def owns and may change -/
class Ow (β : Type 1) where
  ow : PySem.W.Frag → CL → Hp → Hp → List Addr → V → β → Prop
  stay : ∀ {K c Hf Hf' H H' R v b}, Same Hf Hf' → (∀ a ∈ R, H' a = H a) → ow K c Hf H R v b → ow K c Hf' H' R v b
  here : ∀ {K c Hf H R v b}, ow K c Hf H R v b → ∀ a ∈ R, ∃ o, H a = some o ∧ NT o
open Ow (ow)
inductive Sl where
  | any
  | dat (p : Pk)
  | own {β : Type 1} [Ow β] (b : β)
abbrev d {α : Type} [Rp α] (a : α) : Sl := .dat ⟨a⟩
def SlOk (K : PySem.W.Frag) (c : CL) (Hf H : Hp) (o : Option V) (R : List Addr) : Sl → Prop
  | .any => True
  | .dat p => ∃ v, o = some v ∧ p.i.rp K c Hf v p.a
  | @Sl.own _ i b => ∃ v, o = some v ∧ i.ow K c Hf H R v b
structure EnvOk (K : PySem.W.Frag) (c : CL) (H0f H0 Hf H : Hp) (σ : L2.St) (Γ : List Sl) : Prop where
  stp : Stp H0f H0 Hf H
  len : σ.length = Γ.length
  reg : ∃ R : Nat → List Addr, (∀ i o s, σ[i]? = some o → Γ[i]? = some s → SlOk K c Hf H o (R i) s) ∧ (∀ i j, i ≠ j → ∀ a ∈ R i, a ∉ R j) ∧ (∀ i, ∀ a ∈ R i, H0 a = none ∧ Hf a = none ∧ ∃ o, H a = some o ∧ NT o)
theorem EnvOk.same {K : PySem.W.Frag} {c : CL} {H0f H0 Hf H : Hp} {σ : L2.St} {Γ : List Sl} (e : EnvOk K c H0f H0 Hf H σ Γ) : Same Hf H := e.stp.s
theorem EnvOk.step {K : PySem.W.Frag} {c : CL} {H0f H0 Hf H Hf' H' : Hp} {σ : L2.St} {Γ : List Sl} (e : EnvOk K c H0f H0 Hf H σ Γ) (s : Stp Hf H Hf' H') : EnvOk K c H0f H0 Hf' H' σ Γ := by
  obtain ⟨h1, h2, R, h3, h4, h5⟩ := e
  refine ⟨h1.trans s, h2, R, fun i o sl a b => ?_, h4, fun i a ha => ?_⟩
  · have q := h3 i o sl a b
    cases sl with
    | any => trivial
    | dat p =>
      obtain ⟨v, e1, e2⟩ := q
      exact ⟨v, e1, p.i.mono s.f e2⟩
    | @own _ io b =>
      obtain ⟨v, e1, e2⟩ := q
      refine ⟨v, e1, io.stay s.f (fun a ha => ?_) e2⟩
      obtain ⟨_, _, o, g, _⟩ := h5 i a ha
      rw [g, s.h _ _ g]
  · obtain ⟨g1, g2, o, g3, g4⟩ := h5 i a ha
    exact ⟨g1, s.d a o g2 g3 g4, o, s.h _ _ g3, g4⟩

/-! ### the weakest readings -/
section
variable (X : Cx)
def wE (e : Expr) : TE := fun σ H Q => ∃ t, PE X e t ∧ t σ H Q
def wT (e : Expr) : TT := fun σ H Q => ∃ t, PT X e t ∧ t σ H Q
def wW (e : Expr) : TT := fun σ H Q => ∃ t, PW X e t ∧ t σ H Q
def wA (es : List Expr) : TA := fun σ H Q => ∃ t, PA X es t ∧ t σ H Q
def wS (s : Stmt) : TS := fun D σ H => ∃ t, PS X s t ∧ t D σ H
def wSs (s : List Stmt) : TS := fun D σ H => ∃ t, PSs X s t ∧ t D σ H
variable {X}
theorem pe_w {e : Expr} : PE X e (wE X e) := ⟨fun pins s σ H Q I ⟨t, h, q⟩ => h.run pins s σ H Q I q⟩
theorem pt_w {e : Expr} : PT X e (wT X e) := ⟨fun pins s σ H Q I ⟨t, h, q⟩ => h.run pins s σ H Q I q⟩
theorem pw_w {e : Expr} : PW X e (wW X e) := ⟨fun wh pins s σ H Q I ⟨t, h, q⟩ => h.run wh pins s σ H Q I q⟩
theorem pa_w {es : List Expr} : PA X es (wA X es) := ⟨fun pos pins s σ H Q I ⟨t, h, q⟩ => h.run pos pins s σ H Q I q⟩
theorem ps_w {s : Stmt} : PS X s (wS X s) := ⟨fun pins st σ H D I ⟨t, h, q⟩ => h.run pins st σ H D I q⟩
theorem pss_w {s : List Stmt} : PSs X s (wSs X s) := ⟨fun pins st σ H D I ⟨t, h, q⟩ => h.run pins st σ H D I q⟩
end

/-! ### what evaluates to what -/
variable {X : Cx} {c : CL} {Γ : List Sl}
/-- e gives a -/
def E (X : Cx) (c : CL) (Γ : List Sl) (e : Expr) {α : Type} [Rp α] (a : α) : Prop :=
  ∀ (H0f H0 : Hp) (σ : L2.St) (Hf H : Hp), EnvOk X.K c H0f H0 Hf H σ Γ → ∀ Q : VK, (∀ v Hf' H', Stp Hf H Hf' H' → rp X.K c Hf' v a → Q v H') → wE X e σ H Q
/-- the test e comes out as b -/
def T (X : Cx) (c : CL) (Γ : List Sl) (e : Expr) (b : Bool) : Prop :=
  ∀ (H0f H0 : Hp) (σ : L2.St) (Hf H : Hp), EnvOk X.K c H0f H0 Hf H σ Γ → ∀ Q : Bool → Hp → Prop, (∀ Hf' H', Stp Hf H Hf' H' → Q b H') → wT X e σ H Q
def TW (X : Cx) (c : CL) (Γ : List Sl) (e : Expr) (b : Bool) : Prop :=
  ∀ (H0f H0 : Hp) (σ : L2.St) (Hf H : Hp), EnvOk X.K c H0f H0 Hf H σ Γ → ∀ Q : Bool → Hp → Prop, (∀ Hf' H', Stp Hf H Hf' H' → Q b H') → wW X e σ H Q
/-- arguments -/
inductive PkL (K : PySem.W.Frag) (c : CL) (H : Hp) : List V → List Pk → Prop
  | nil : PkL K c H [] []
  | cons {v : V} {p : Pk} {vs : List V} {ps : List Pk} (h : p.i.rp K c H v p.a) (t : PkL K c H vs ps) : PkL K c H (v :: vs) (p :: ps)
theorem PkL.mono {K : PySem.W.Frag} {c : CL} {H H' : Hp} {vs : List V} {ps : List Pk} (e : Same H H') (r : PkL K c H vs ps) : PkL K c H' vs ps := by
  induction r with
  | nil => exact .nil
  | @cons v p vs ps h t ih => exact .cons (p.i.mono e h) ih
theorem PkL.len {K : PySem.W.Frag} {c : CL} {H : Hp} {vs : List V} {ps : List Pk} (r : PkL K c H vs ps) : vs.length = ps.length := by
  induction r with
  | nil => rfl
  | cons h t ih => rw [List.length_cons, List.length_cons, ih]
def As (X : Cx) (c : CL) (Γ : List Sl) (es : List Expr) (ps : List Pk) : Prop :=
  ∀ (H0f H0 : Hp) (σ : L2.St) (Hf H : Hp), EnvOk X.K c H0f H0 Hf H σ Γ → ∀ Q : List V → Hp → Prop, (∀ vs Hf' H', Stp Hf H Hf' H' → PkL X.K c Hf' vs ps → Q vs H') → wA X es σ H Q

theorem E.is {e : Expr} {α : Type} [Rp α] {a b : α} (h : E X c Γ e a) (q : a = b) : E X c Γ e b := q ▸ h
theorem T.is {e : Expr} {a b : Bool} (h : T X c Γ e a) (q : a = b) : T X c Γ e b := q ▸ h

section
variable {e a b : Expr} {pos : Pos}
theorem e_var (i : Nat) {α : Type} [Rp α] {v : α} {x : Str} (hΓ : Γ[i]? = some (.dat ⟨v⟩) := by rfl) (hN : X.N[i]? = some x := by rfl) (hv : Vis X.env.scope x := by first | exact Or.inl rfl | exact Or.inr (Or.inl rfl) | exact Or.inr (Or.inr rfl))
    (hd : (x == ("__debug__" : Str)) = false := by decide) (hcd : (x == ("__classdict__" : Str)) = false := by decide) : E X c Γ (.Name x pos) v := fun H0f H0 σ Hf H h Q k => by
  refine ⟨_, pe_var hN hv hd hcd, ?_⟩
  obtain ⟨h1, h2, R, h3, _⟩ := h
  have hlt : i < Γ.length := (List.getElem?_eq_some_iff.mp hΓ).1
  have hs : σ[i]? = some σ[i] := List.getElem?_eq_getElem (by omega)
  obtain ⟨w, e1, e2⟩ := h3 i _ _ hs hΓ
  exact ⟨w, by rw [hs, e1], k w Hf H (Stp.refl h1.s) e2⟩
theorem e_int {i : Int} {j} : E X c Γ (.Constant (.int i) j pos) i := fun _ _ _ _ _ h Q k => ⟨_, pe_int, k _ _ _ (Stp.refl h.same) rfl⟩
theorem e_bl {i : Bool} {j} : E X c Γ (.Constant (.bool i) j pos) i := fun _ _ _ _ _ h Q k => ⟨_, pe_bl, k _ _ _ (Stp.refl h.same) rfl⟩
theorem e_non {j} : E X c Γ (.Constant .none j pos) () := fun _ _ _ _ _ h Q k => ⟨_, pe_non, k _ _ _ (Stp.refl h.same) rfl⟩
theorem e_str {i : Str} {j} : E X c Γ (.Constant (.str i) j pos) i := fun _ _ _ _ _ h Q k => ⟨_, pe_str, k _ _ _ (Stp.refl h.same) rfl⟩
/-- a rule of two values that gives z -/
def RV2 (X : Cx) (c : CL) (r : R2) {α β γ : Type} [Rp α] [Rp β] [Rp γ] (x : α) (y : β) (z : γ) : Prop :=
  ∀ (Hf H : Hp) (u v : V), Same Hf H → rp X.K c Hf u x → rp X.K c Hf v y → ∀ Q : VK, (∀ w Hf' H', Stp Hf H Hf' H' → rp X.K c Hf' w z → Q w H') → r u v H Q
section
variable {α β γ : Type} [Rp α] [Rp β] [Rp γ] {x : α} {y : β} {z : γ} {r : R2}
theorem tOp_ok (ha : E X c Γ a x) (hb : E X c Γ b y) (hr : RV2 X c r x y z) {H0f H0 : Hp} {σ : L2.St} {Hf H : Hp} (h : EnvOk X.K c H0f H0 Hf H σ Γ) {Q : VK} (k : ∀ v Hf' H', Stp Hf H Hf' H' → rp X.K c Hf' v z → Q v H') : tOp r (wE X a) (wE X b) σ H Q :=
  ha _ _ σ Hf H h _ fun u Hf1 H1 s1 r1 => hb _ _ σ Hf1 H1 (h.step s1) _ fun v Hf2 H2 s2 r2 => hr Hf2 H2 u v s2.s (Rp.mono s2.f r1) r2 Q fun w Hf3 H3 s3 r3 => k w Hf3 H3 ((s1.trans s2).trans s3) r3
theorem e_op {op : Operator} (ho : OpR X (binaryOp op) r) (ha : E X c Γ a x) (hb : E X c Γ b y) (hr : RV2 X c r x y z) : E X c Γ (.BinOp a op b pos) z := fun _ _ σ Hf H h Q k =>
  ⟨_, pe_op ho pe_w pe_w, tOp_ok ha hb hr h k⟩
theorem e_cmp {op : CmpOp} (ho : OpR X (compareOp op) r) (ha : E X c Γ a x) (hb : E X c Γ b y) (hr : RV2 X c r x y z) (hm : behindInMarks op b = false := by first | exact nomark _ | rfl) : E X c Γ (.Compare a [op] [b] pos) z := fun _ _ σ Hf H h Q k =>
  ⟨_, pe_cmpR ho pe_w pe_w hm, tOp_ok ha hb hr h k⟩
theorem t_cmp {op : CmpOp} {z : Bool} (ho : OpR X (compareOp op) r) (ha : E X c Γ a x) (hb : E X c Γ b y) (hr : RV2 X c r x y z) (hm : behindInMarks op b = false := by first | exact nomark _ | rfl) : T X c Γ (.Compare a [op] [b] pos) z := fun _ _ σ Hf H h Q k =>
  ⟨_, pt_cmpR ho pe_w pe_w hm, tOp_ok ha hb hr h fun v Hf' H' s q => ⟨z, q, k Hf' H' s⟩⟩
end
theorem rv_I0 {g : Int → Int → V} {γ : Type} [Rp γ] {i j : Int} {z : γ} (h : ∀ H, rp X.K c H (g i j) z) : RV2 X c (rI0 g) i j z := fun Hf H u v s hu hv Q k => ⟨i, j, hu, hv, k _ _ _ (Stp.refl s) (h _)⟩
theorem rv_I {C : Int → Int → Prop} {g : Int → Int → V} {γ : Type} [Rp γ] {i j : Int} {z : γ} (hc : C i j) (h : ∀ H, rp X.K c H (g i j) z) : RV2 X c (rI C g) i j z := fun Hf H u v s hu hv Q k => ⟨i, j, hu, hv, hc, k _ _ _ (Stp.refl s) (h _)⟩
theorem e_add {i j : Int} (ha : E X c Γ a i) (hb : E X c Γ b j) : E X c Γ (.BinOp a .Add b pos) (i + j) := e_op op_add ha hb (rv_I0 fun _ => rfl)
theorem e_sub {i j : Int} (ha : E X c Γ a i) (hb : E X c Γ b j) : E X c Γ (.BinOp a .Sub b pos) (i - j) := e_op op_sub ha hb (rv_I0 fun _ => rfl)
theorem e_mul {i j : Int} (ha : E X c Γ a i) (hb : E X c Γ b j) (hc : CMul i j) : E X c Γ (.BinOp a .Mult b pos) (i * j) := e_op op_mul ha hb (rv_I hc fun _ => rfl)
theorem e_fdiv {i j : Int} (ha : E X c Γ a i) (hb : E X c Γ b j) (hc : CDiv i j := by exact ⟨by decide, by decide⟩) : E X c Γ (.BinOp a .FloorDiv b pos) (i / j) := e_op op_fdiv ha hb (rv_I hc fun _ => rfl)
theorem e_mod {i j : Int} (ha : E X c Γ a i) (hb : E X c Γ b j) (hc : 0 < j := by decide) : E X c Γ (.BinOp a .Mod b pos) (i % j) := e_op op_mod ha hb (rv_I hc fun _ => rfl)
theorem e_pow {i j : Int} (ha : E X c Γ a i) (hb : E X c Γ b j) (hc : CPow i j) : E X c Γ (.BinOp a .Pow b pos) (i ^ j.toNat) := e_op op_pow ha hb (rv_I hc fun _ => rfl)
theorem e_shr {i j : Int} (ha : E X c Γ a i) (hb : E X c Γ b j) (hc : 0 ≤ j) : E X c Γ (.BinOp a .RShift b pos) (i / 2 ^ j.toNat) := e_op op_shr ha hb (rv_I hc fun _ => rfl)
theorem e_lt {i j : Int} (ha : E X c Γ a i) (hb : E X c Γ b j) : E X c Γ (.Compare a [.Lt] [b] pos) (decide (i < j)) := e_cmp op_lt ha hb (rv_I0 fun _ => rfl)
theorem e_le {i j : Int} (ha : E X c Γ a i) (hb : E X c Γ b j) : E X c Γ (.Compare a [.LtE] [b] pos) (decide (i ≤ j)) := e_cmp op_le ha hb (rv_I0 fun _ => rfl)
theorem e_gt {i j : Int} (ha : E X c Γ a i) (hb : E X c Γ b j) : E X c Γ (.Compare a [.Gt] [b] pos) (decide (j < i)) := e_cmp op_gt ha hb (rv_I0 fun _ => rfl)
theorem e_ge {i j : Int} (ha : E X c Γ a i) (hb : E X c Γ b j) : E X c Γ (.Compare a [.GtE] [b] pos) (decide (j ≤ i)) := e_cmp op_ge ha hb (rv_I0 fun _ => rfl)
theorem t_lt {i j : Int} (ha : E X c Γ a i) (hb : E X c Γ b j) : T X c Γ (.Compare a [.Lt] [b] pos) (decide (i < j)) := t_cmp op_lt ha hb (rv_I0 fun _ => rfl)
theorem t_le {i j : Int} (ha : E X c Γ a i) (hb : E X c Γ b j) : T X c Γ (.Compare a [.LtE] [b] pos) (decide (i ≤ j)) := t_cmp op_le ha hb (rv_I0 fun _ => rfl)
theorem t_gt {i j : Int} (ha : E X c Γ a i) (hb : E X c Γ b j) : T X c Γ (.Compare a [.Gt] [b] pos) (decide (j < i)) := t_cmp op_gt ha hb (rv_I0 fun _ => rfl)
theorem t_ge {i j : Int} (ha : E X c Γ a i) (hb : E X c Γ b j) : T X c Γ (.Compare a [.GtE] [b] pos) (decide (j ≤ i)) := t_cmp op_ge ha hb (rv_I0 fun _ => rfl)
/-- == of ints, bools, texts -/
class Scal (α : Type) extends Rp α where
  toV : α → V
  isV : ∀ {K c H v a}, rp K c H v a ↔ v = toV a
  sc : ∀ a b : α, scal (toV a) (toV b) = true
  inj : ∀ a b : α, toV a = toV b → a = b
instance : Scal Int := ⟨.int, Iff.rfl, fun _ _ => rfl, fun _ _ h => by injection h⟩
instance : Scal Bool := ⟨.bl, Iff.rfl, fun _ _ => rfl, fun _ _ h => by injection h⟩
instance : Scal Str := ⟨.str, Iff.rfl, fun _ _ => rfl, fun _ _ h => by injection h⟩
theorem rv_eqS {α : Type} [Scal α] [DecidableEq α] {i j : α} : RV2 X c rEq i j (decide (i = j)) := fun Hf H u v s hu hv Q k => by
  rw [Scal.isV] at hu hv
  subst hu hv
  refine ⟨Scal.sc _ _, ?_⟩
  have e : decide (Scal.toV i = Scal.toV j) = decide (i = j) := by
    by_cases h : i = j
    · subst h; simp
    · rw [decide_eq_false h, decide_eq_false fun q => h (Scal.inj _ _ q)]
  rw [e]
  exact k _ _ _ (Stp.refl s) rfl
theorem rv_neS {α : Type} [Scal α] [DecidableEq α] {i j : α} : RV2 X c rNe i j (!decide (i = j)) := fun Hf H u v s hu hv Q k => by
  rw [Scal.isV] at hu hv
  subst hu hv
  refine ⟨Scal.sc _ _, ?_⟩
  have e : decide (Scal.toV i = Scal.toV j) = decide (i = j) := by
    by_cases h : i = j
    · subst h; simp
    · rw [decide_eq_false h, decide_eq_false fun q => h (Scal.inj _ _ q)]
  rw [e]
  exact k _ _ _ (Stp.refl s) rfl
theorem e_eqS {α : Type} [Scal α] [DecidableEq α] {i j : α} (ha : E X c Γ a i) (hb : E X c Γ b j) : E X c Γ (.Compare a [.Eq] [b] pos) (decide (i = j)) := e_cmp op_eq ha hb rv_eqS
theorem t_eqS {α : Type} [Scal α] [DecidableEq α] {i j : α} (ha : E X c Γ a i) (hb : E X c Γ b j) : T X c Γ (.Compare a [.Eq] [b] pos) (decide (i = j)) := t_cmp op_eq ha hb rv_eqS
theorem e_neS {α : Type} [Scal α] [DecidableEq α] {i j : α} (ha : E X c Γ a i) (hb : E X c Γ b j) : E X c Γ (.Compare a [.NotEq] [b] pos) (!decide (i = j)) := e_cmp op_ne ha hb rv_neS
theorem t_neS {α : Type} [Scal α] [DecidableEq α] {i j : α} (ha : E X c Γ a i) (hb : E X c Γ b j) : T X c Γ (.Compare a [.NotEq] [b] pos) (!decide (i = j)) := t_cmp op_ne ha hb rv_neS
/-! tests -/
theorem t_val {z : Bool} (h : E X c Γ e z) (he : ∀ whole, isTrue e X.env whole = (do let v ← whole; standAt e.pos; holding [v] (truthy v)) := by intro _; rfl) : T X c Γ e z := fun _ _ σ Hf H g Q k =>
  ⟨_, pt_val pe_w he, h _ _ σ Hf H g _ fun v Hf' H' s q => ⟨z, q, k Hf' H' s⟩⟩
theorem t_not {z : Bool} (h : T X c Γ a z) : T X c Γ (.UnaryOp .Not a pos) (!z) := fun _ _ σ Hf H g Q k =>
  ⟨_, pt_not pt_w, h _ _ σ Hf H g _ fun Hf' H' s => k Hf' H' s⟩
theorem t_bool {op : BoolOp} {es : List Expr} {z : Bool} (h : TW X c Γ (.BoolOp op es pos) z) : T X c Γ (.BoolOp op es pos) z := fun _ _ σ Hf H g Q k =>
  let ⟨t, ht, q⟩ := h _ _ σ Hf H g Q k
  ⟨t, ht.pt, q⟩
end
end Pv
namespace Pv
open Rp (rp)
open Ow (ow)
open PySem L2
variable {X : Cx} {c : CL} {Γ : List Sl}
section
variable {e a b : Expr} {es rest : List Expr} {pos : Pos}
/-! ### and, or, if .. else -/
theorem tw_and1 {x : Bool} (h : T X c Γ a x) : TW X c Γ (.BoolOp .And [a] pos) x := fun _ _ σ Hf H g Q k => ⟨_, pw_and1 pt_w, h _ _ σ Hf H g Q k⟩
theorem tw_or1 {x : Bool} (h : T X c Γ a x) : TW X c Γ (.BoolOp .Or [a] pos) x := fun _ _ σ Hf H g Q k => ⟨_, pw_or1 pt_w, h _ _ σ Hf H g Q k⟩
theorem tw_and {x y : Bool} (h : T X c Γ a x) (h2 : x = true → TW X c Γ (.BoolOp .And (b :: rest) pos) y) : TW X c Γ (.BoolOp .And (a :: b :: rest) pos) (x && y) := fun _ _ σ Hf H g Q k =>
  ⟨_, pw_and pt_w pw_w, h _ _ σ Hf H g _ fun Hf1 H1 s1 => by
    cases x with
    | true => exact (h2 rfl) _ _ σ Hf1 H1 (g.step s1) Q fun Hf2 H2 s2 => k Hf2 H2 (s1.trans s2)
    | false => exact k Hf1 H1 s1⟩
theorem tw_or {x y : Bool} (h : T X c Γ a x) (h2 : x = false → TW X c Γ (.BoolOp .Or (b :: rest) pos) y) : TW X c Γ (.BoolOp .Or (a :: b :: rest) pos) (x || y) := fun _ _ σ Hf H g Q k =>
  ⟨_, pw_or pt_w pw_w, h _ _ σ Hf H g _ fun Hf1 H1 s1 => by
    cases x with
    | false => exact (h2 rfl) _ _ σ Hf1 H1 (g.step s1) Q fun Hf2 H2 s2 => k Hf2 H2 (s1.trans s2)
    | true => exact k Hf1 H1 s1⟩
theorem e_one {op} {x : Bool} (h : E X c Γ a x) : E X c Γ (.BoolOp op [a] pos) x := fun _ _ σ Hf H g Q k => ⟨_, pe_one pe_w, h _ _ σ Hf H g Q k⟩
theorem e_and {x y : Bool} (h : E X c Γ a x) (h2 : x = true → E X c Γ (.BoolOp .And (b :: rest) pos) y) : E X c Γ (.BoolOp .And (a :: b :: rest) pos) (x && y) := fun _ _ σ Hf H g Q k =>
  ⟨_, pe_and pe_w pe_w, h _ _ σ Hf H g _ fun v Hf1 H1 s1 r1 => ⟨x, r1, by
    cases x with
    | true => exact (h2 rfl) _ _ σ Hf1 H1 (g.step s1) Q fun w Hf2 H2 s2 r2 => k w Hf2 H2 (s1.trans s2) r2
    | false => exact k _ Hf1 H1 s1 rfl⟩⟩
theorem e_or {x y : Bool} (h : E X c Γ a x) (h2 : x = false → E X c Γ (.BoolOp .Or (b :: rest) pos) y) : E X c Γ (.BoolOp .Or (a :: b :: rest) pos) (x || y) := fun _ _ σ Hf H g Q k =>
  ⟨_, pe_or pe_w pe_w, h _ _ σ Hf H g _ fun v Hf1 H1 s1 r1 => ⟨x, r1, by
    cases x with
    | false => exact (h2 rfl) _ _ σ Hf1 H1 (g.step s1) Q fun w Hf2 H2 s2 r2 => k w Hf2 H2 (s1.trans s2) r2
    | true => exact k _ Hf1 H1 s1 rfl⟩⟩
theorem e_not {x : Bool} (h : E X c Γ a x) : E X c Γ (.UnaryOp .Not a pos) (!x) := fun _ _ σ Hf H g Q k =>
  ⟨_, pe_not pe_w, h _ _ σ Hf H g _ fun v Hf1 H1 s1 r1 => ⟨x, r1, k _ Hf1 H1 s1 rfl⟩⟩
theorem e_neg {i : Int} (h : E X c Γ a i) : E X c Γ (.UnaryOp .USub a pos) (-i) := fun _ _ σ Hf H g Q k =>
  ⟨_, pe_un un_neg pe_w, h _ _ σ Hf H g _ fun v Hf1 H1 s1 r1 => ⟨i, r1, k _ Hf1 H1 s1 rfl⟩⟩
theorem e_if {α : Type} [Rp α] {cnd : Expr} {z : Bool} {x y : α} (ht : T X c Γ cnd z) (h1 : z = true → E X c Γ a x) (h2 : z = false → E X c Γ b y) : E X c Γ (.IfExp cnd a b pos) (if z = true then x else y) := fun _ _ σ Hf H g Q k =>
  ⟨_, pe_ifExp pt_w pe_w pe_w, ht _ _ σ Hf H g _ fun Hf1 H1 s1 => by
    cases z with
    | true => exact (h1 rfl) _ _ σ Hf1 H1 (g.step s1) Q fun w Hf2 H2 s2 r2 => k w Hf2 H2 (s1.trans s2) r2
    | false => exact (h2 rfl) _ _ σ Hf1 H1 (g.step s1) Q fun w Hf2 H2 s2 r2 => k w Hf2 H2 (s1.trans s2) r2⟩
/-- a < b < c -/
theorem tChain_ok {op op' : CmpOp} {d3 : Expr} {α β γ : Type} [Rp α] [Rp β] [Rp γ] {x : α} {y : β} {w : γ} {r r' : R2} {z z' : Bool} (ha : E X c Γ a x) (hb : E X c Γ b y) (hr : RV2 X c r x y z) (hc : E X c Γ d3 w) (hr' : RV2 X c r' y w z')
    {H0f H0 : Hp} {σ : L2.St} {Hf H : Hp} (g : EnvOk X.K c H0f H0 Hf H σ Γ) {Q : VK} (k : ∀ Hf' H', Stp Hf H Hf' H' → Q (.bl (z && z')) H') : tChain r r' (wE X a) (wE X b) (wE X d3) σ H Q :=
  ha _ _ σ Hf H g _ fun u Hf1 H1 s1 r1 => hb _ _ σ Hf1 H1 (g.step s1) _ fun v Hf2 H2 s2 r2 => hr Hf2 H2 u v s2.s (Rp.mono s2.f r1) r2 _ fun w' Hf3 H3 s3 r3 => ⟨z, r3, by
    cases z with
    | false => exact k Hf3 H3 ((s1.trans s2).trans s3)
    | true => exact hc _ _ σ Hf3 H3 (((g.step s1).step s2).step s3) _ fun t Hf4 H4 s4 r4 => hr' Hf4 H4 v t s4.s (Rp.mono (s3.f.trans s4.f) r2) r4 _ fun q Hf5 H5 s5 r5 => (show q = V.bl z' from r5) ▸ k Hf5 H5 ((((s1.trans s2).trans s3).trans s4).trans s5)⟩
theorem e_chain {op op' : CmpOp} {d3 : Expr} {α β γ : Type} [Rp α] [Rp β] [Rp γ] {x : α} {y : β} {w : γ} {r r' : R2} {z z' : Bool} (ho : OpR X (compareOp op) r) (ho' : OpR X (compareOp op') r') (ha : E X c Γ a x) (hb : E X c Γ b y) (hr : RV2 X c r x y z) (hc : E X c Γ d3 w) (hr' : RV2 X c r' y w z')
    (he : PE X (.Compare a [op, op'] [b, d3] pos) (tChain r r' (wE X a) (wE X b) (wE X d3))) : E X c Γ (.Compare a [op, op'] [b, d3] pos) (z && z') := fun _ _ σ Hf H g Q k =>
  ⟨_, he, tChain_ok (op := op) (op' := op') ha hb hr hc hr' g fun Hf' H' s => k _ Hf' H' s rfl⟩
theorem t_chain {op op' : CmpOp} {d3 : Expr} {α β γ : Type} [Rp α] [Rp β] [Rp γ] {x : α} {y : β} {w : γ} {r r' : R2} {z z' : Bool} (ha : E X c Γ a x) (hb : E X c Γ b y) (hr : RV2 X c r x y z) (hc : E X c Γ d3 w) (hr' : RV2 X c r' y w z')
    (he : PT X (.Compare a [op, op'] [b, d3] pos) (tTest (tChain r r' (wE X a) (wE X b) (wE X d3)))) : T X c Γ (.Compare a [op, op'] [b, d3] pos) (z && z') := fun _ _ σ Hf H g Q k =>
  ⟨_, he, tChain_ok (op := op) (op' := op') ha hb hr hc hr' g fun Hf' H' s => ⟨_, rfl, k _ H' s⟩⟩
theorem t_leLt {d3 : Expr} {i j k : Int} (ha : E X c Γ a i) (hb : E X c Γ b j) (hc : E X c Γ d3 k) (hm : lastMarks [.LtE, .Lt] [b, d3] = false := by with_unfolding_all rfl) : T X c Γ (.Compare a [.LtE, .Lt] [b, d3] pos) (decide (i ≤ j) && decide (j < k)) :=
  t_chain ha hb (rv_I0 fun _ => rfl) hc (rv_I0 fun _ => rfl) (pt_chain op_le op_lt pe_w pe_w pe_w hm)
theorem t_leLe {d3 : Expr} {i j k : Int} (ha : E X c Γ a i) (hb : E X c Γ b j) (hc : E X c Γ d3 k) (hm : lastMarks [.LtE, .LtE] [b, d3] = false := by with_unfolding_all rfl) : T X c Γ (.Compare a [.LtE, .LtE] [b, d3] pos) (decide (i ≤ j) && decide (j ≤ k)) :=
  t_chain ha hb (rv_I0 fun _ => rfl) hc (rv_I0 fun _ => rfl) (pt_chain op_le op_le pe_w pe_w pe_w hm)
theorem e_leLt {d3 : Expr} {i j k : Int} (ha : E X c Γ a i) (hb : E X c Γ b j) (hc : E X c Γ d3 k) (hm : lastMarks [.LtE, .Lt] [b, d3] = false := by with_unfolding_all rfl) : E X c Γ (.Compare a [.LtE, .Lt] [b, d3] pos) (decide (i ≤ j) && decide (j < k)) :=
  e_chain op_le op_lt ha hb (rv_I0 fun _ => rfl) hc (rv_I0 fun _ => rfl) (pe_chain op_le op_lt pe_w pe_w pe_w hm)
theorem e_leLe {d3 : Expr} {i j k : Int} (ha : E X c Γ a i) (hb : E X c Γ b j) (hc : E X c Γ d3 k) (hm : lastMarks [.LtE, .LtE] [b, d3] = false := by with_unfolding_all rfl) : E X c Γ (.Compare a [.LtE, .LtE] [b, d3] pos) (decide (i ≤ j) && decide (j ≤ k)) :=
  e_chain op_le op_le ha hb (rv_I0 fun _ => rfl) hc (rv_I0 fun _ => rfl) (pe_chain op_le op_le pe_w pe_w pe_w hm)

/-! ### arguments, displays -/
theorem a_nil : As X c Γ [] [] := fun _ _ σ Hf H g Q k => ⟨_, pa_nil, k _ _ _ (Stp.refl g.same) .nil⟩
theorem a_cons {α : Type} [Rp α] {x : α} {ps : List Pk} (h : E X c Γ e x) (hr : As X c Γ es ps) (hs : starEach (e :: es) X.env = (false, eval e X.env) :: starEach es X.env := by rfl) : As X c Γ (e :: es) (⟨x⟩ :: ps) := fun _ _ σ Hf H g Q k =>
  ⟨_, pa_cons pe_w pa_w hs, h _ _ σ Hf H g _ fun v Hf1 H1 s1 r1 => hr _ _ σ Hf1 H1 (g.step s1) _ fun vs Hf2 H2 s2 r2 => k (v :: vs) Hf2 H2 (s1.trans s2) (.cons (Rp.mono s2.f r1) r2)⟩
/-- items of one kind -/
def AL (X : Cx) (c : CL) (Γ : List Sl) (es : List Expr) {α : Type} [Rp α] (as : List α) : Prop :=
  ∀ (H0f H0 : Hp) (σ : L2.St) (Hf H : Hp), EnvOk X.K c H0f H0 Hf H σ Γ → ∀ Q : List V → Hp → Prop, (∀ vs Hf' H', Stp Hf H Hf' H' → RpL X.K c Hf' vs as → Q vs H') → wA X es σ H Q
section
variable {α : Type} [Rp α] {x : α} {as : List α}
theorem al_nil : AL X c Γ [] ([] : List α) := fun _ _ σ Hf H g Q k => ⟨_, pa_nil, k _ _ _ (Stp.refl g.same) .nil⟩
theorem al_cons (h : E X c Γ e x) (hr : AL X c Γ es as) (hs : starEach (e :: es) X.env = (false, eval e X.env) :: starEach es X.env := by rfl) : AL X c Γ (e :: es) (x :: as) := fun _ _ σ Hf H g Q k =>
  ⟨_, pa_cons pe_w pa_w hs, h _ _ σ Hf H g _ fun v Hf1 H1 s1 r1 => hr _ _ σ Hf1 H1 (g.step s1) _ fun vs Hf2 H2 s2 r2 => k (v :: vs) Hf2 H2 (s1.trans s2) (.cons (Rp.mono s2.f r1) r2)⟩
theorem rpl_upd {K : PySem.W.Frag} {Hf : Hp} {vs : List V} {p : Addr} {o : HO} (h : Hf p = none) (r : RpL K c Hf vs as) : RpL K c (upd Hf p o) vs as := r.mono (same_new h)
theorem e_tup (h : AL X c Γ es as) {k} (hl : as.length ≤ 1000 := by exact Nat.le_of_ble_eq_true rfl) : E X c Γ (.Tuple es k pos) (⟨as⟩ : Tup α) := fun _ _ σ Hf H g Q k =>
  ⟨_, pe_tup pa_w, h _ _ σ Hf H g _ fun vs Hf1 H1 s1 r1 => ⟨by rw [r1.len]; exact Nat.le_of_lt (small1000 hl), fun p hp => k _ _ _ (s1.trans (Stp.new s1.s hp)) ⟨p, vs, rfl, upd_same, rpl_upd (s1.s.free hp) r1⟩⟩⟩
theorem e_lst (h : AL X c Γ es as) (hl : as.length ≤ 1000 := by exact Nat.le_of_ble_eq_true rfl) : E X c Γ (.List es pos) as := fun _ _ σ Hf H g Q k =>
  ⟨_, pe_lst pa_w, h _ _ σ Hf H g _ fun vs Hf1 H1 s1 r1 => ⟨by rw [r1.len]; exact Nat.le_of_lt (small1000 hl), fun p hp => k _ _ _ (s1.trans (Stp.new s1.s hp)) ⟨p, vs, rfl, .inl (.inl upd_same), rpl_upd (s1.s.free hp) r1⟩⟩⟩
/-! ### items and slices -/
theorem atI_rp {K : PySem.W.Frag} {H : Hp} {vs : List V} {i : Int} (r : RpL K c H vs as) (h : atI as i = some x) : ∃ w, atI vs i = some w ∧ rp K c H w x := by
  unfold atI at h ⊢
  rw [r.len]
  cases e : ixN as.length i with
  | none => rw [e] at h; cases h
  | some j =>
    rw [e] at h
    exact paired_get' r h
theorem e_ixL {i : Int} (ha : E X c Γ a as) (hb : E X c Γ b i) (hi : atI as i = some x) (hp : PlainIx b := by exact fun _ _ => rfl) : E X c Γ (.Subscript a b pos) x := fun _ _ σ Hf H g Q k =>
  ⟨_, pe_ix ix_list pe_w pe_w hp, tOp_ok (z := x) ha hb (fun Hf1 H1 u v s1 hu hv Q1 k1 => by
    obtain ⟨p, vs, rfl, h2, h3⟩ := hu
    obtain ⟨w, h4, h5⟩ := atI_rp h3 hi
    exact ⟨p, vs, i, w, rfl, hv, s1.seq h2, h4, k1 w _ _ (Stp.refl s1) h5⟩) g k⟩
theorem e_ixT {t : Tup α} {i : Int} (ha : E X c Γ a t) (hb : E X c Γ b i) (hi : atI t.l i = some x) (hp : PlainIx b := by exact fun _ _ => rfl) : E X c Γ (.Subscript a b pos) x := fun _ _ σ Hf H g Q k =>
  ⟨_, pe_ix ix_tup pe_w pe_w hp, tOp_ok (z := x) ha hb (fun Hf1 H1 u v s1 hu hv Q1 k1 => by
    obtain ⟨p, vs, rfl, h2, h3⟩ := hu
    obtain ⟨w, h4, h5⟩ := atI_rp h3 hi
    exact ⟨p, vs, i, w, rfl, hv, sqT_of (s1 _ _ h2), h4, k1 w _ _ (Stp.refl s1) h5⟩) g k⟩
end
end
/-! ### builtin calls -/
section
variable {e a b : Expr} {es rest : List Expr} {pos p0 : Pos} {α : Type} [Rp α] {x : α} {as : List α}
theorem e_callB {id : String} {f : Str} {r : List V → Hp → VK → Prop} {ps : List Pk} {γ : Type} [Rp γ] {z : γ} (hc : CallR X (.builtin id) r) (ha : As X c Γ (e :: es) ps)
    (hr : ∀ Hf H vs, Same Hf H → PkL X.K c Hf vs ps → ∀ Q : VK, (∀ w Hf' H', Stp Hf H Hf' H' → rp X.K c Hf' w z → Q w H') → r vs H Q) (hg : Gl X f) (hm : X.mg f = none) (hv : bootBuiltins f = some (.builtin id)) (hn : f ≠ "__name__" := by decide) (hdb : (f == ("__debug__" : Str)) = false := by decide)
    (he : starEach (e :: es) X.env = (false, eval e X.env) :: starEach es X.env := by rfl) (hpl : (backTo pos (starEach es X.env)).any (·.1) = false := by rfl) : E X c Γ (.Call (.Name f p0) (e :: es) [] pos) z := fun _ _ σ Hf H g Q k =>
  ⟨_, pe_callB hc hg hm hv pa_w hn hdb he hpl, ha _ _ σ Hf H g _ fun vs Hf1 H1 s1 r1 => hr Hf1 H1 vs s1.s r1 Q fun w Hf2 H2 s2 r2 => k w Hf2 H2 (s1.trans s2) r2⟩
theorem e_callTy {T : String} {f : Str} {r : List V → Hp → VK → Prop} {ps : List Pk} {γ : Type} [Rp γ] {z : γ} (hc : CallR X (.type T) r) (ha : As X c Γ (e :: es) ps)
    (hr : ∀ Hf H vs, Same Hf H → PkL X.K c Hf vs ps → ∀ Q : VK, (∀ w Hf' H', Stp Hf H Hf' H' → rp X.K c Hf' w z → Q w H') → r vs H Q) (hg : Gl X f) (hm : X.mg f = none) (hv : bootBuiltins f = some (.type T)) (hn : f ≠ "__name__" := by decide) (hdb : (f == ("__debug__" : Str)) = false := by decide)
    (he : starEach (e :: es) X.env = (false, eval e X.env) :: starEach es X.env := by rfl) (hpl : (backTo pos (starEach es X.env)).any (·.1) = false := by rfl) : E X c Γ (.Call (.Name f p0) (e :: es) [] pos) z := fun _ _ σ Hf H g Q k =>
  ⟨_, pe_callTy hc hg hm hv pa_w hn hdb he hpl, ha _ _ σ Hf H g _ fun vs Hf1 H1 s1 r1 => hr Hf1 H1 vs s1.s r1 Q fun w Hf2 H2 s2 r2 => k w Hf2 H2 (s1.trans s2) r2⟩
theorem pkl1 {K : PySem.W.Frag} {H : Hp} {vs : List V} {p : Pk} (r : PkL K c H vs [p]) : ∃ v, vs = [v] ∧ p.i.rp K c H v p.a := by
  cases r with
  | cons h t => cases t; exact ⟨_, rfl, h⟩
theorem pkl2 {K : PySem.W.Frag} {H : Hp} {vs : List V} {p q : Pk} (r : PkL K c H vs [p, q]) : ∃ v w, vs = [v, w] ∧ p.i.rp K c H v p.a ∧ q.i.rp K c H w q.a := by
  cases r with
  | cons h t =>
    obtain ⟨w, rfl, h2⟩ := pkl1 t
    exact ⟨_, _, rfl, h, h2⟩
theorem e_len (ha : E X c Γ a as) (hm : X.mg "len" = none) (hg : Gl X "len" := by rfl) (he : starEach [a] X.env = (false, eval a X.env) :: starEach [] X.env := by rfl) : E X c Γ (.Call (.Name "len" p0) [a] [] pos) (as.length : Int) :=
  e_callB call_len_seq (a_cons ha a_nil he) (fun Hf H vs s r Q k => by
    obtain ⟨v, rfl, q, ys, rfl, h2, h3⟩ := pkl1 r
    exact ⟨q, ys, rfl, .inl (s.seq h2), k _ _ _ (Stp.refl s) (by rw [h3.len]; rfl)⟩) hg hm PySem.boot_len (by decide) (by decide) he
theorem e_lenT {t : Tup α} (ha : E X c Γ a t) (hm : X.mg "len" = none) (hg : Gl X "len" := by rfl) (he : starEach [a] X.env = (false, eval a X.env) :: starEach [] X.env := by rfl) : E X c Γ (.Call (.Name "len" p0) [a] [] pos) (t.l.length : Int) :=
  e_callB call_len_seq (a_cons ha a_nil he) (fun Hf H vs s r Q k => by
    obtain ⟨v, rfl, q, ys, rfl, h2, h3⟩ := pkl1 r
    exact ⟨q, ys, rfl, .inr (sqT_of (s _ _ h2)), k _ _ _ (Stp.refl s) (by rw [h3.len]; rfl)⟩) hg hm PySem.boot_len (by decide) (by decide) he
theorem e_intc {i : Int} (ha : E X c Γ a i) (hm : X.mg "int" = none) (hg : Gl X "int" := by rfl) (he : starEach [a] X.env = (false, eval a X.env) :: starEach [] X.env := by rfl) : E X c Γ (.Call (.Name "int" p0) [a] [] pos) i :=
  e_callTy call_int1 (a_cons ha a_nil he) (fun Hf H vs s r Q k => by
    obtain ⟨v, rfl, h⟩ := pkl1 r
    exact .inl ⟨i, by rw [show v = V.int i from h], k _ _ _ (Stp.refl s) rfl⟩) hg hm (by decide +kernel) (by decide) (by decide) he
theorem e_listc (ha : E X c Γ a as) (hm : X.mg "list" = none) (hg : Gl X "list" := by rfl) (he : starEach [a] X.env = (false, eval a X.env) :: starEach [] X.env := by rfl) : E X c Γ (.Call (.Name "list" p0) [a] [] pos) as :=
  e_callTy call_list_of (a_cons ha a_nil he) (fun Hf H vs s r Q k => by
    obtain ⟨v, rfl, q, ys, rfl, h2, h3⟩ := pkl1 r
    exact ⟨q, ys, rfl, .inl (s.seq h2), fun l hl => k _ _ _ (Stp.new s hl) ⟨l, ys, rfl, .inl (.inl upd_same), rpl_upd (s.free hl) h3⟩⟩) hg hm (by decide +kernel) (by decide) (by decide) he
theorem e_listcT {t : Tup α} (ha : E X c Γ a t) (hm : X.mg "list" = none) (hg : Gl X "list" := by rfl) (he : starEach [a] X.env = (false, eval a X.env) :: starEach [] X.env := by rfl) : E X c Γ (.Call (.Name "list" p0) [a] [] pos) t.l :=
  e_callTy call_list_of (a_cons ha a_nil he) (fun Hf H vs s r Q k => by
    obtain ⟨v, rfl, q, ys, rfl, h2, h3⟩ := pkl1 r
    exact ⟨q, ys, rfl, .inr (sqT_of (s _ _ h2)), fun l hl => k _ _ _ (Stp.new s hl) ⟨l, ys, rfl, .inl (.inl upd_same), rpl_upd (s.free hl) h3⟩⟩) hg hm (by decide +kernel) (by decide) (by decide) he
theorem e_tupc (ha : E X c Γ a as) (hm : X.mg "tuple" = none) (hg : Gl X "tuple" := by rfl) (he : starEach [a] X.env = (false, eval a X.env) :: starEach [] X.env := by rfl) : E X c Γ (.Call (.Name "tuple" p0) [a] [] pos) (⟨as⟩ : Tup α) :=
  e_callTy call_tuple_of (a_cons ha a_nil he) (fun Hf H vs s r Q k => by
    obtain ⟨v, rfl, q, ys, rfl, h2, h3⟩ := pkl1 r
    exact ⟨q, ys, rfl, .inl ⟨s.seq h2, fun l hl => k _ _ _ (Stp.new s hl) ⟨l, ys, rfl, upd_same, rpl_upd (s.free hl) h3⟩⟩⟩) hg hm (by decide +kernel) (by decide) (by decide) he
theorem rpl_bls {K : PySem.W.Frag} {H : Hp} : ∀ {vs : List V} {bs : List Bool}, RpL K c H vs bs → vs = bs.map V.bl
  | _, _, .nil => rfl
  | _, _, .cons h t => by rw [List.map_cons, ← rpl_bls t, show _ = _ from h]
theorem rpl_ints {K : PySem.W.Frag} {H : Hp} : ∀ {vs : List V} {bs : List Int}, RpL K c H vs bs → vs = bs.map V.int
  | _, _, .nil => rfl
  | _, _, .cons h t => by rw [List.map_cons, ← rpl_ints t, show _ = _ from h]
theorem e_all {bs : List Bool} (hc : X.calm = true) (ha : E X c Γ a bs) (hm : X.mg "all" = none) (hg : Gl X "all" := by rfl) (he : starEach [a] X.env = (false, eval a X.env) :: starEach [] X.env := by rfl) : E X c Γ (.Call (.Name "all" p0) [a] [] pos) (bs.all id) :=
  e_callB (cr_all hc) (a_cons ha a_nil he) (fun Hf H vs s r Q k => by
    obtain ⟨v, rfl, q, ys, rfl, h2, h3⟩ := pkl1 r
    exact ⟨q, bs, rfl, by rw [← rpl_bls h3]; exact s.seq h2, k _ _ _ (Stp.refl s) rfl⟩) hg hm (by decide +kernel) (by decide) (by decide) he
theorem e_sum {bs : List Int} (hc : X.calm = true) (ha : E X c Γ a bs) (hm : X.mg "sum" = none) (hg : Gl X "sum" := by rfl) (he : starEach [a] X.env = (false, eval a X.env) :: starEach [] X.env := by rfl) : E X c Γ (.Call (.Name "sum" p0) [a] [] pos) bs.sum :=
  e_callB (cr_sum hc) (a_cons ha a_nil he) (fun Hf H vs s r Q k => by
    obtain ⟨v, rfl, q, ys, rfl, h2, h3⟩ := pkl1 r
    exact ⟨q, bs, rfl, by rw [← rpl_ints h3]; exact s.seq h2, k _ _ _ (Stp.refl s) rfl⟩) hg hm (by decide +kernel) (by decide) (by decide) he
/-- what kind a value is, for isinstance -/
class Ty (α : Type) [Rp α] (n : outParam String) where
  ty : ∀ {K c H v} {a : α}, rp K c H v a → TyX K H v (.type n)
instance : Ty Int "int" := ⟨fun h => by rw [show _ = _ from h]; exact .base (.int _)⟩
instance : Ty Bool "bool" := ⟨fun h => by rw [show _ = _ from h]; exact .base (.bl _)⟩
instance : Ty Unit "NoneType" := ⟨fun h => by rw [show _ = _ from h]; exact .base .non⟩
theorem ty_list {K : PySem.W.Frag} {H : Hp} {p : Addr} {vs : List V} (h : SqL K H p vs) : TyX K H (.ref p) (.type "list") := by
  rcases h with (h | ⟨o, h⟩) | h
  · exact .base (.lst h)
  · exact .base (.frz h)
  · obtain ⟨o, its, n, h1, h2, _⟩ := h
    exact .kList (o := o) h1 h2
theorem ty_tup {K : PySem.W.Frag} {H : Hp} {p : Addr} {vs : List V} (h : SqT K H p vs) : TyX K H (.ref p) (.type "tuple") := by
  rcases h with (h | ⟨o, h⟩) | h
  · exact .base (.tup h)
  · exact .fTuple h
  · obtain ⟨o, its, n, h1, h2, _⟩ := h
    exact .kTuple (o := o) h1 h2
instance {α : Type} [Rp α] : Ty (Tup α) "tuple" := ⟨fun h => by
  obtain ⟨p, vs, rfl, h2, _⟩ := h
  exact .base (.tup h2)⟩
instance {α : Type} [Rp α] : Ty (TupW α) "tuple" := ⟨fun h => by
  obtain ⟨p, vs, rfl, h2, _⟩ := h
  exact ty_tup h2⟩
instance {α : Type} [Rp α] : Ty (List α) "list" := ⟨fun h => by
  obtain ⟨p, vs, rfl, h2, _⟩ := h
  exact ty_list h2⟩
end
end Pv
namespace Pv
open Rp (rp)
open Ow (ow)
open PySem L2
variable {X : Cx} {c : CL} {Γ : List Sl}

/-! ### slots set and forgotten -/
theorem set_get {α : Type _} {l : List α} {i j : Nat} {x y : α} (h : (l.set i x)[j]? = some y) : (j = i ∧ y = x) ∨ (j ≠ i ∧ l[j]? = some y) := by
  by_cases e : j = i
  · subst e
    by_cases q : j < l.length
    · rw [List.getElem?_set_self q] at h; exact .inl ⟨rfl, (Option.some.inj h).symm⟩
    · rw [List.getElem?_eq_none (by rw [List.length_set]; omega)] at h; cases h
  · rw [List.getElem?_set_ne (Ne.symm e)] at h; exact .inr ⟨e, h⟩
section
variable {K : PySem.W.Frag} {H0f H0 Hf H H' : Hp} {σ : L2.St}
theorem EnvOk.setAny (g : EnvOk K c H0f H0 Hf H σ Γ) (i : Nat) (o : Option V) (s : Sl) (hs : ∀ R, R = [] → SlOk K c Hf H o R s) : EnvOk K c H0f H0 Hf H (σ.set i o) (Γ.set i s) := by
  obtain ⟨h1, h2, R, h3, h4, h5⟩ := g
  refine ⟨h1, by rw [List.length_set, List.length_set, h2], fun j => if j = i then [] else R j, fun j o' s' a b => ?_, fun j k hjk a ha hb => ?_, fun j a ha => ?_⟩
  · rcases set_get a with ⟨e1, e2⟩ | ⟨e1, e2⟩
    · rcases set_get b with ⟨f1, f2⟩ | ⟨f1, f2⟩
      · subst e2 f2
        exact hs _ (if_pos e1)
      · exact absurd e1 f1
    · rcases set_get b with ⟨f1, f2⟩ | ⟨f1, f2⟩
      · exact absurd f1 e1
      · have := h3 j o' s' e2 f2
        simp only [if_neg e1]
        exact this
  · by_cases e1 : j = i
    · simp only [if_pos e1] at ha; cases ha
    · by_cases e2 : k = i
      · simp only [if_pos e2] at hb; cases hb
      · simp only [if_neg e1, if_neg e2] at ha hb
        exact h4 j k hjk a ha hb
  · by_cases e1 : j = i
    · simp only [if_pos e1] at ha; cases ha
    · simp only [if_neg e1] at ha
      exact h5 j a ha
theorem EnvOk.set (g : EnvOk K c H0f H0 Hf H σ Γ) (i : Nat) {α : Type} [Rp α] {v : V} {a : α} (r : rp K c Hf v a) : EnvOk K c H0f H0 Hf H (σ.set i (some v)) (Γ.set i (d a)) :=
  g.setAny i _ _ fun _ _ => ⟨v, rfl, r⟩
/-- a slot forgotten -/
theorem EnvOk.forget (g : EnvOk K c H0f H0 Hf H σ Γ) (i : Nat) : EnvOk K c H0f H0 Hf H σ (Γ.set i .any) := by
  have h := g
  obtain ⟨h1, h2, R, h3, h4, h5⟩ := h
  by_cases hi : i < σ.length
  · have q := g.setAny i σ[i] .any fun _ _ => trivial
    rwa [List.set_getElem_self] at q
  · rw [List.set_eq_of_length_le (by omega)]; exact g
/-- Γ' is Γ with some slots forgotten -/
inductive Le : List Sl → List Sl → Prop
  | nil : Le [] []
  | same {s : Sl} {Γ Γ' : List Sl} (h : Le Γ Γ') : Le (s :: Γ) (s :: Γ')
  | any {s : Sl} {Γ Γ' : List Sl} (h : Le Γ Γ') : Le (s :: Γ) (.any :: Γ')
theorem Le.refl : ∀ Γ : List Sl, Le Γ Γ
  | [] => .nil
  | _ :: Γ => .same (Le.refl Γ)
theorem Le.len {Γ Γ' : List Sl} (h : Le Γ Γ') : Γ.length = Γ'.length := by
  induction h with
  | nil => rfl
  | same h ih => rw [List.length_cons, List.length_cons, ih]
  | any h ih => rw [List.length_cons, List.length_cons, ih]
theorem Le.get {Γ Γ' : List Sl} (h : Le Γ Γ') : ∀ {i : Nat} {s : Sl}, Γ'[i]? = some s → s = .any ∨ Γ[i]? = some s := by
  induction h with
  | nil => intro i s e; simp at e
  | same h ih =>
    intro i s e
    cases i with
    | zero => exact .inr e
    | succ i => exact ih (by simpa using e)
  | any h ih =>
    intro i s e
    cases i with
    | zero => simp at e; exact .inl e.symm
    | succ i => exact ih (by simpa using e)
theorem EnvOk.le {Γ' : List Sl} (g : EnvOk K c H0f H0 Hf H σ Γ) (l : Le Γ Γ') : EnvOk K c H0f H0 Hf H σ Γ' := by
  obtain ⟨h1, h2, R, h3, h4, h5⟩ := g
  refine ⟨h1, by rw [h2, l.len], R, fun i o s a b => ?_, h4, h5⟩
  rcases l.get b with rfl | q
  · trivial
  · exact h3 i o s a q
/-- what is owned in slot i, and how it may change -/
theorem EnvOk.own (g : EnvOk K c H0f H0 Hf H σ Γ) {i : Nat} {β : Type 1} [Ow β] {b : β} (hi : Γ[i]? = some (.own b)) :
    ∃ (R : List Addr) (v : V), σ[i]? = some (some v) ∧ ow K c Hf H R v b ∧ (∀ a ∈ R, H0 a = none ∧ Hf a = none) ∧
      ∀ (β' : Type 1) (_ : Ow β') (b' : β') (R' : List Addr) (H' : Hp), (∀ a o, H a = some o → a ∉ R → H' a = some o) → (∀ a ∈ R', a ∈ R ∨ H a = none) → ow K c Hf H' R' v b' → EnvOk K c H0f H0 Hf H' σ (Γ.set i (.own b')) := by
  have g' := g
  obtain ⟨h1, h2, R, h3, h4, h5⟩ := g'
  have hlt : i < Γ.length := (List.getElem?_eq_some_iff.mp hi).1
  have hs : σ[i]? = some σ[i] := List.getElem?_eq_getElem (by omega)
  obtain ⟨v, e1, e2⟩ := h3 i _ _ hs hi
  refine ⟨R i, v, by rw [hs, e1], e2, fun a ha => ⟨(h5 i a ha).1, (h5 i a ha).2.1⟩, fun β' _ b' R' H' k1 k2 k3 => ?_⟩
  have hz : ∀ a ∈ R', H0 a = none ∧ Hf a = none := fun a ha => by
    rcases k2 a ha with q | q
    · exact ⟨(h5 i a q).1, (h5 i a q).2.1⟩
    · exact ⟨h1.h.free q, h1.s.free q⟩
  have k0 : ∀ a o, Hf a = some o → H' a = some o := fun a o e => k1 a o (h1.s a o e) fun q => by
    have := (h5 i a q).2.1
    rw [e] at this; cases this
  refine ⟨⟨h1.f, fun a o e => k1 a o (h1.h a o e) fun q => absurd ((h5 i a q).1.symm.trans e) (fun z => nomatch z), k0, h1.d⟩, by rw [List.length_set, h2], fun j => if j = i then R' else R j, fun j o s a b => ?_, fun j k hjk a ha hb => ?_, fun j a ha => ?_⟩
  · rcases set_get b with ⟨f1, f2⟩ | ⟨f1, f2⟩
    · subst f1 f2
      simp only [if_pos]
      rw [hs] at a
      obtain rfl := Option.some.inj a
      exact ⟨v, e1, k3⟩
    · simp only [if_neg f1]
      have q := h3 j o s a f2
      cases s with
      | any => trivial
      | dat p => exact q
      | @own _ io b =>
        obtain ⟨u, u1, u2⟩ := q
        refine ⟨u, u1, io.stay (Same.refl _) (fun a ha => ?_) u2⟩
        obtain ⟨_, _, o', g3, _⟩ := h5 j a ha
        rw [g3, k1 a o' g3 fun z => h4 j i f1 a ha z]
  · by_cases q1 : j = i
    · by_cases q2 : k = i
      · exact hjk (q1.trans q2.symm)
      · simp only [if_pos q1, if_neg q2] at ha hb
        obtain ⟨_, _, o', g3, _⟩ := h5 k a hb
        rcases k2 a ha with z | z
        · exact h4 i k (fun w => q2 w.symm) a z hb
        · rw [g3] at z; cases z
    · by_cases q2 : k = i
      · simp only [if_neg q1, if_pos q2] at ha hb
        obtain ⟨_, _, o', g3, _⟩ := h5 j a ha
        rcases k2 a hb with z | z
        · exact h4 j i q1 a ha z
        · rw [g3] at z; cases z
      · simp only [if_neg q1, if_neg q2] at ha hb
        exact h4 j k hjk a ha hb
  · by_cases q1 : j = i
    · simp only [if_pos q1] at ha
      exact ⟨(hz a ha).1, (hz a ha).2, Ow.here k3 a ha⟩
    · simp only [if_neg q1] at ha
      obtain ⟨g1, g2, o', g3, g4⟩ := h5 j a ha
      exact ⟨g1, g2, o', k1 a o' g3 fun z => h4 j i q1 a ha z, g4⟩
end

/-! ### targets -/
/-- alike but for the slots ts -/
def But (ts : List Nat) (σ σ' : L2.St) : Prop := σ'.length = σ.length ∧ ∀ j, j ∉ ts → σ'[j]? = σ[j]?
theorem But.trans {t1 t2 : List Nat} {a b c' : L2.St} (x : But t1 a b) (y : But t2 b c') : But (t1 ++ t2) a c' :=
  ⟨y.1.trans x.1, fun j hj => (y.2 j fun z => hj (List.mem_append_right _ z)).trans (x.2 j fun z => hj (List.mem_append_left _ z))⟩
def wG (X : Cx) (tg : Expr) : TG := fun v σ H Q => ∃ t, PG X tg t ∧ t v σ H Q
theorem pg_w {tg : Expr} : PG X tg (wG X tg) := ⟨fun pins s σ H v u Q I r ⟨t, h, q⟩ => h.run pins s σ H v u Q I r q⟩
def G (X : Cx) (c : CL) (tg : Expr) {α : Type} [Rp α] (a : α) (ts : List Nat) (f : List Sl → List Sl) : Prop :=
  ∀ (Γ : List Sl) (H0f H0 : Hp) (σ : L2.St) (Hf H : Hp), EnvOk X.K c H0f H0 Hf H σ Γ → ∀ v, rp X.K c Hf v a → ∀ Q : L2.St → Hp → Prop, (∀ σ', (∀ H0f H0 H, EnvOk X.K c H0f H0 Hf H σ Γ → EnvOk X.K c H0f H0 Hf H σ' (f Γ)) → But ts σ σ' → Q σ' H) → wG X tg v σ H Q
theorem g_name (i : Nat) {α : Type} [Rp α] {a : α} {x : Str} {pos : Pos} (hN : X.N.Nodup) (hi : X.N[i]? = some x := by rfl) (hx : Loc X.env.scope x := by first | exact .inl rfl | exact .inr rfl) (hf : X.fn x = true ∨ X.env.scope.names.lookup x = some .local := by first | exact .inl rfl | exact .inr rfl) :
    G X c (.Name x pos) a [i] (fun Γ => Γ.set i (d a)) := fun Γ H0f H0 σ Hf H g v r Q k => ⟨_, pg_name hN hi hx hf, k _ (fun _ _ _ g' => g'.set i r) ⟨List.length_set, fun j hj => List.getElem?_set_ne fun e => hj (by rw [e]; exact List.mem_cons_self)⟩⟩
theorem g_tup2 {α : Type} [Rp α] {a b : α} {t1 t2 : Expr} {k : Nat} {pos : Pos} {ts1 ts2 : List Nat} {f1 f2 : List Sl → List Sl} (hc : X.calm = true) (h1 : G X c t1 a ts1 f1) (h2 : G X c t2 b ts2 f2)
    (hn : (assignEach [t1, t2] X.env).length = 2 := by rfl) (hst : (assignEach [t1, t2] X.env).findIdx? (·.1) = none := by rfl)
    (e1 : (assignEach [t1, t2] X.env).map (·.2) = assign t1 X.env :: (assignEach [t2] X.env).map (·.2) := by rfl) (e2 : (assignEach [t2] X.env).map (·.2) = assign t2 X.env :: (assignEach [] X.env).map (·.2) := by rfl) :
    G X c (.Tuple [t1, t2] k pos) (⟨[a, b]⟩ : Tup α) (ts1 ++ ts2) (fun Γ => f2 (f1 Γ)) := fun Γ H0f H0 σ Hf H g v r Q q => by
  refine ⟨_, pg_tup hc (pgs_cons pg_w (pgs_cons pg_w pgs_nil e2) e1) hn hst, ?_⟩
  obtain ⟨p, vs, rfl, s1, s2⟩ := r
  cases s2 with
  | cons ra t =>
    cases t with
    | cons rb t =>
      cases t
      exact ⟨p, _, rfl, sqT_of (g.same _ _ s1), rfl, _, _, rfl, h1 Γ _ _ σ Hf H g _ ra _ fun σ1 g1 w1 => ⟨_, _, rfl, h2 _ _ _ σ1 Hf H (g1 _ _ _ g) _ rb _ fun σ2 g2 w2 => ⟨rfl, q σ2 (fun _ _ _ z => g2 _ _ _ (g1 _ _ _ z)) (w1.trans w2)⟩⟩⟩
theorem g_tup3 {α : Type} [Rp α] {a b e : α} {t1 t2 t3 : Expr} {k : Nat} {pos : Pos} {ts1 ts2 ts3 : List Nat} {f1 f2 f3 : List Sl → List Sl} (hc : X.calm = true) (h1 : G X c t1 a ts1 f1) (h2 : G X c t2 b ts2 f2) (h3 : G X c t3 e ts3 f3)
    (hn : (assignEach [t1, t2, t3] X.env).length = 3 := by rfl) (hst : (assignEach [t1, t2, t3] X.env).findIdx? (·.1) = none := by rfl)
    (e1 : (assignEach [t1, t2, t3] X.env).map (·.2) = assign t1 X.env :: (assignEach [t2, t3] X.env).map (·.2) := by rfl) (e2 : (assignEach [t2, t3] X.env).map (·.2) = assign t2 X.env :: (assignEach [t3] X.env).map (·.2) := by rfl) (e3 : (assignEach [t3] X.env).map (·.2) = assign t3 X.env :: (assignEach [] X.env).map (·.2) := by rfl) :
    G X c (.Tuple [t1, t2, t3] k pos) (⟨[a, b, e]⟩ : Tup α) (ts1 ++ (ts2 ++ ts3)) (fun Γ => f3 (f2 (f1 Γ))) := fun Γ H0f H0 σ Hf H g v r Q q => by
  refine ⟨_, pg_tup hc (pgs_cons pg_w (pgs_cons pg_w (pgs_cons pg_w pgs_nil e3) e2) e1) hn hst, ?_⟩
  obtain ⟨p, vs, rfl, s1, s2⟩ := r
  cases s2 with
  | cons ra t =>
    cases t with
    | cons rb t =>
      cases t with
      | cons re t =>
        cases t
        exact ⟨p, _, rfl, sqT_of (g.same _ _ s1), rfl, _, _, rfl, h1 Γ _ _ σ Hf H g _ ra _ fun σ1 g1 w1 => ⟨_, _, rfl, h2 _ _ _ σ1 Hf H (g1 _ _ _ g) _ rb _ fun σ2 g2 w2 => ⟨_, _, rfl, h3 _ _ _ σ2 Hf H (g2 _ _ _ (g1 _ _ _ g)) _ re _ fun σ3 g3 w3 => ⟨rfl, q σ3 (fun _ _ _ z => g3 _ _ _ (g2 _ _ _ (g1 _ _ _ z))) (w1.trans (w2.trans w3))⟩⟩⟩⟩

/-! ### what is walked -/
structure Wk {α : Type} [Rp α] (K : PySem.W.Frag) (c : CL) (Hw : Hp) (J : It) (xs : List α) : Prop where
  stop : ∀ H, Same Hw H → J.stop xs.length H
  go : ∀ i H, i < xs.length → Same Hw H → J.go i H
  yld : ∀ i Hf H x H', Same Hw Hf → Same Hf H → i < xs.length → J.yld i H x H' → ∃ Hf', Stp Hf H Hf' H' ∧ ∃ a, xs[i]? = some a ∧ rp K c Hf' x a
def wI (X : Cx) (tg iter : Expr) : TI := fun σ H R => ∃ t, PI X tg iter t ∧ t σ H R
theorem pi_w {tg iter : Expr} : PI X tg iter (wI X tg iter) := ⟨fun pins s σ H R I ⟨t, h, q⟩ => h.run pins s σ H R I q⟩
def I (X : Cx) (c : CL) (Γ : List Sl) (tg iter : Expr) {α : Type} [Rp α] (xs : List α) : Prop :=
  ∀ (H0f H0 : Hp) (σ : L2.St) (Hf H : Hp), EnvOk X.K c H0f H0 Hf H σ Γ → ∀ R : It → Hp → Prop, (∀ J Hf' H', Stp Hf H Hf' H' → Wk X.K c Hf' J xs → R J H') → wI X tg iter σ H R
section
variable {tg iter : Expr} {α : Type} [Rp α] {xs : List α} {K : PySem.W.Frag}
theorem wk_list {Hw : Hp} {p : Addr} {vs : List V} (h : SqL K Hw p vs) (r : RpL K c Hw vs xs) : Wk K c Hw (Itl K p) xs where
  stop := fun H s => ⟨vs, s.seq h, by rw [r.len]; exact Nat.le_refl _⟩
  go := fun i H hi s => ⟨vs, vs[i]'(by rw [r.len]; exact hi), s.seq h, List.getElem?_eq_getElem (by rw [r.len]; exact hi)⟩
  yld := fun i Hf H x H' s1 s2 hi ⟨e, y⟩ => by
    subst e
    refine ⟨Hf, Stp.refl s2, ?_⟩
    obtain ⟨a, h1, h2⟩ := paired_get r (y vs ((s1.trans s2).seq h))
    exact ⟨a, h1, Rp.mono s1 h2⟩
theorem wk_tup {Hw : Hp} {p : Addr} {vs : List V} (h : SqT K Hw p vs) (r : RpL K c Hw vs xs) : Wk K c Hw (Itt K p) xs where
  stop := fun H s => ⟨vs, sqT_same s h, by rw [r.len]; exact Nat.le_refl _⟩
  go := fun i H hi s => ⟨vs, vs[i]'(by rw [r.len]; exact hi), sqT_same s h, List.getElem?_eq_getElem (by rw [r.len]; exact hi)⟩
  yld := fun i Hf H x H' s1 s2 hi ⟨e, y⟩ => by
    subst e
    refine ⟨Hf, Stp.refl s2, ?_⟩
    obtain ⟨a, h1, h2⟩ := paired_get r (y vs (sqT_same (s1.trans s2) h))
    exact ⟨a, h1, Rp.mono s1 h2⟩
/-- lo, lo + 1, .. below hi -/
def rng (lo hi : Int) : List Int := (List.range (hi - lo).toNat).map fun (k : Nat) => lo + (k : Int)
theorem rng_len {lo hi : Int} : (rng lo hi).length = (hi - lo).toNat := by unfold rng; rw [List.length_map, List.length_range]
theorem rng_get {lo hi : Int} {i : Nat} (h : i < (hi - lo).toNat) : (rng lo hi)[i]? = some (lo + (i : Int)) := by
  unfold rng; rw [List.getElem?_map, List.getElem?_range h]; rfl
theorem wk_rng {Hw : Hp} {lo hi : Int} : Wk K c Hw (Itr lo (hi - lo).toNat) (rng lo hi) where
  stop := fun H s => by show _ ≤ _; rw [rng_len]; exact Nat.le_refl _
  go := fun i H hi s => by show _ < _; rw [rng_len] at hi; exact hi
  yld := fun i Hf H x H' s1 s2 hi ⟨e, y⟩ => by
    subst e
    rw [rng_len] at hi
    exact ⟨Hf, Stp.refl s2, _, rng_get hi, y⟩
theorem i_list (h : E X c Γ iter xs) : I X c Γ tg iter xs := fun _ _ σ Hf H g R k =>
  ⟨_, pi_list pe_w, h _ _ σ Hf H g _ fun v Hf1 H1 s1 r1 => by
    obtain ⟨p, vs, rfl, h2, h3⟩ := r1
    exact ⟨p, rfl, ⟨vs, s1.s.seq h2⟩, k _ Hf1 H1 s1 (wk_list h2 h3)⟩⟩
theorem i_tup {t : Tup α} (h : E X c Γ iter t) : I X c Γ tg iter t.l := fun _ _ σ Hf H g R k =>
  ⟨_, pi_tup pe_w, h _ _ σ Hf H g _ fun v Hf1 H1 s1 r1 => by
    obtain ⟨p, vs, rfl, h2, h3⟩ := r1
    exact ⟨p, rfl, ⟨vs, sqT_of (s1.s _ _ h2)⟩, k _ Hf1 H1 s1 (wk_tup (sqT_of h2) h3)⟩⟩
theorem i_tupW {t : TupW α} (h : E X c Γ iter t) : I X c Γ tg iter t.l := fun _ _ σ Hf H g R k =>
  ⟨_, pi_tup pe_w, h _ _ σ Hf H g _ fun v Hf1 H1 s1 r1 => by
    obtain ⟨p, vs, rfl, h2, h3⟩ := r1
    exact ⟨p, rfl, ⟨vs, sqT_same s1.s h2⟩, k _ Hf1 H1 s1 (wk_tup h2 h3)⟩⟩
theorem i_rng1 {n : Expr} {m : Int} {p pos : Pos} (h : E X c Γ n m) (hb : -4611686018427387904 ≤ m ∧ m < 4611686018427387904) (hm : X.mg "range" = none) (hg : Gl X "range" := by rfl) (hs : starEach [n] X.env = [(false, eval n X.env)] := by rfl) : I X c Γ tg (.Call (.Name "range" p) [n] [] pos) (rng 0 m) := fun _ _ σ Hf H g R k =>
  ⟨_, pi_range1 hg hm (pa_cons pe_w pa_nil (by rw [hs]; rfl)) hs, h _ _ σ Hf H g _ fun v Hf1 H1 s1 r1 => ⟨m, by rw [show v = V.int m from r1], by omega, by omega, k _ Hf1 H1 s1 (by have := wk_rng (K := X.K) (c := c) (Hw := Hf1) (lo := 0) (hi := m); rwa [Int.sub_zero] at this)⟩⟩
theorem i_rng2 {n n2 : Expr} {lo hi : Int} {p pos : Pos} (h : E X c Γ n lo) (h' : E X c Γ n2 hi) (hb : -4611686018427387904 ≤ lo ∧ lo < 4611686018427387904) (hb' : -4611686018427387904 ≤ hi ∧ hi < 4611686018427387904) (hm : X.mg "range" = none) (hg : Gl X "range" := by rfl)
    (hs : starEach [n, n2] X.env = [(false, eval n X.env), (false, eval n2 X.env)] := by rfl) (hs2 : starEach [n2] X.env = [(false, eval n2 X.env)] := by rfl) : I X c Γ tg (.Call (.Name "range" p) [n, n2] [] pos) (rng lo hi) := fun _ _ σ Hf H g R k =>
  ⟨_, pi_range2 hg hm (pa_cons pe_w (pa_cons pe_w pa_nil (by rw [hs2]; rfl)) (by rw [hs, hs2])) hs hs2, h _ _ σ Hf H g _ fun v Hf1 H1 s1 r1 => h' _ _ σ Hf1 H1 (g.step s1) _ fun v2 Hf2 H2 s2 r2 =>
    ⟨lo, hi, by rw [show v = V.int lo from r1, show v2 = V.int hi from r2], ⟨by omega, by omega, by omega, by omega⟩, k _ Hf2 H2 (s1.trans s2) wk_rng⟩⟩
end
end Pv
namespace Pv
open Rp (rp)
open Ow (ow)
open PySem L2
variable {X : Cx} {c : CL} {Γ : List Sl}
/-! ### comprehensions -/
def wTs (X : Cx) (ifs : List Expr) : TT := fun σ H Q => ∃ t, PTs X ifs t ∧ t σ H Q
theorem pts_w {ifs : List Expr} : PTs X ifs (wTs X ifs) := ⟨fun pins s σ H Q I ⟨t, h, q⟩ => h.run pins s σ H Q I q⟩
def Ts (X : Cx) (c : CL) (Γ : List Sl) (ifs : List Expr) (b : Bool) : Prop :=
  ∀ (H0f H0 : Hp) (σ : L2.St) (Hf H : Hp), EnvOk X.K c H0f H0 Hf H σ Γ → ∀ Q : Bool → Hp → Prop, (∀ Hf' H', Stp Hf H Hf' H' → Q b H') → wTs X ifs σ H Q
theorem ts_nil : Ts X c Γ [] true := fun _ _ σ Hf H g Q k => ⟨_, pts_nil, k _ _ (Stp.refl g.same)⟩
theorem ts_one {e : Expr} {b : Bool} (h : T X c Γ e b) : Ts X c Γ [e] b := fun _ _ σ Hf H g Q k => ⟨_, pts_one pt_w, h _ _ σ Hf H g Q k⟩

/-- every context that a comprehension's block may run in -/
abbrev Blk (X : Cx) (scope : Scope) (P : Cx → Prop) : Prop := ∀ (s : Shared) (H : Hp) (C : Addr) (cl : List (Str × Addr)) (fp : List Addr), P (X.blk s H scope (compEnvC scope cl C X.env) fp)
def bE (X : Cx) (scope : Scope) (e : Expr) : TE := fun σ H Q => Blk X scope fun Y => wE Y e σ H Q
def bG (X : Cx) (scope : Scope) (tg : Expr) : TG := fun v σ H Q => Blk X scope fun Y => wG Y tg v σ H Q
def bTs (X : Cx) (scope : Scope) (ifs : List Expr) : TT := fun σ H Q => Blk X scope fun Y => wTs Y ifs σ H Q
def bI (X : Cx) (scope : Scope) (tg iter : Expr) : TI := fun σ H R => Blk X scope fun Y => wI Y tg iter σ H R
theorem pe_b {scope : Scope} {e : Expr} (s : Shared) (H : Hp) (C : Addr) (cl : List (Str × Addr)) (fp : List Addr) : PE (X.blk s H scope (compEnvC scope cl C X.env) fp) e (bE X scope e) :=
  ⟨fun pins st σ H' Q I q => pe_w.run pins st σ H' Q I (q s H C cl fp)⟩
theorem pg_b {scope : Scope} {e : Expr} (s : Shared) (H : Hp) (C : Addr) (cl : List (Str × Addr)) (fp : List Addr) : PG (X.blk s H scope (compEnvC scope cl C X.env) fp) e (bG X scope e) :=
  ⟨fun pins st σ H' v u Q I r q => pg_w.run pins st σ H' v u Q I r (q s H C cl fp)⟩
theorem pts_b {scope : Scope} {e : List Expr} (s : Shared) (H : Hp) (C : Addr) (cl : List (Str × Addr)) (fp : List Addr) : PTs (X.blk s H scope (compEnvC scope cl C X.env) fp) e (bTs X scope e) :=
  ⟨fun pins st σ H' Q I q => pts_w.run pins st σ H' Q I (q s H C cl fp)⟩
theorem pi_b {scope : Scope} {tg e : Expr} (s : Shared) (H : Hp) (C : Addr) (cl : List (Str × Addr)) (fp : List Addr) : PI (X.blk s H scope (compEnvC scope cl C X.env) fp) tg e (bI X scope tg e) :=
  ⟨fun pins st σ H' Q I q => pi_w.run pins st σ H' Q I (q s H C cl fp)⟩
/-- .. slots forgotten -/
def wipeG (Γ : List Sl) : List Nat → List Sl
  | [] => Γ
  | v :: vs => (wipeG Γ vs).set v .any
theorem wipe_in {j : Nat} : ∀ {ws : List Nat} {τ : L2.St}, j ∈ ws → (wipe τ ws)[j]? = if j < τ.length then some none else none
  | [], _, h => by cases h
  | w :: ws, τ, h => by
    unfold wipe
    by_cases e : w = j
    · subst e
      by_cases q : w < τ.length
      · rw [List.getElem?_set_self (by rw [wipe_length]; exact q), if_pos q]
      · rw [if_neg q, List.getElem?_eq_none (by rw [List.length_set, wipe_length]; omega)]
    · rw [List.getElem?_set_ne e]
      exact wipe_in ((List.mem_cons.mp h).resolve_left fun z => e z.symm)
theorem wipe_ext {σ σ' : L2.St} {vs ts : List Nat} (hts : ∀ j ∈ ts, j ∈ vs) (h : But ts σ σ') : wipe σ' vs = wipe σ vs := by
  apply List.ext_getElem?
  intro j
  by_cases hj : j ∈ vs
  · rw [wipe_in hj, wipe_in hj, h.1]
  · rw [wipe_out hj, wipe_out hj, h.2 j fun z => hj (hts j z)]
theorem wipe_wipe {σ : L2.St} {vs : List Nat} : wipe (wipe σ vs) vs = wipe σ vs := by
  apply List.ext_getElem?
  intro j
  by_cases hj : j ∈ vs
  · rw [wipe_in hj, wipe_in hj, wipe_length]
  · rw [wipe_out hj, wipe_out hj]
theorem EnvOk.wipe {K : PySem.W.Frag} {H0f H0 Hf H : Hp} {σ : L2.St} (g : EnvOk K c H0f H0 Hf H σ Γ) : ∀ vs : List Nat, EnvOk K c H0f H0 Hf H (L2.wipe σ vs) (wipeG Γ vs)
  | [] => g
  | v :: vs => (EnvOk.wipe g vs).setAny v none .any fun _ _ => trivial
theorem take_succ' {α : Type} {xs : List α} {i : Nat} {a : α} (h : xs[i]? = some a) : xs.take (i + 1) = xs.take i ++ [a] := by
  rw [List.take_add_one, h]; rfl
section
variable {α β : Type} [Rp α] [Rp β] {xs : List α} {tg iter elt : Expr} {ifs : List Expr} {scope : Scope} {vs ts : List Nat} {p : α → Bool} {f : α → β} {gf : α → List Sl → List Sl}
theorem tLc_ok (hi : I X c Γ tg iter xs) (hts : ∀ j ∈ ts, j ∈ vs) (hl : xs.length < 1000000) (hg : ∀ x, x ∈ xs → Blk X scope fun Y => G Y c tg x ts (gf x))
    (ht : ∀ x, x ∈ xs → Blk X scope fun Y => Ts Y c (gf x (wipeG Γ vs)) ifs (p x)) (he : ∀ x, x ∈ xs → p x = true → Blk X scope fun Y => E Y c (gf x (wipeG Γ vs)) elt (f x))
    {H0f H0 : Hp} {σ : L2.St} {Hf H : Hp} (g : EnvOk X.K c H0f H0 Hf H σ Γ) {Q : VK} (k : ∀ v Hf' H', Stp Hf H Hf' H' → rp X.K c Hf' v ((xs.filter p).map f) → Q v H') :
    tLc (wI X tg iter) (bG X scope tg) (bTs X scope ifs) (bE X scope elt) vs σ H Q := by
  refine hi _ _ σ Hf H g _ fun J Hf1 H1 s1 wk => fun D hD => ?_
  have hD1 : Hf1 D = none := s1.s.free hD
  refine ⟨fun i m H2 => m = xs.length - i ∧ i ≤ xs.length ∧ ∃ Hf2 us, Stp Hf1 H1 Hf2 H2 ∧ Hf2 D = none ∧ H2 D = some (.lst us) ∧ RpL X.K c Hf2 us (((xs.take i).filter p).map f),
    ⟨xs.length, rfl, Nat.zero_le _, Hf1, [], ⟨Same.refl _, same_new hD, s1.s.trans (same_new hD), fun _ _ z _ _ => z⟩, hD1, upd_same, .nil⟩, ?_⟩
  rintro i m H2 ⟨rfl, hil, Hf2, us, s2, hD2, hu, ru⟩
  by_cases hlt : i < xs.length
  · refine .inr ⟨wk.go i H2 hlt (s2.f.trans s2.s), fun H3 => (i + 1) ≤ xs.length ∧ ∃ Hf3 us, Stp Hf1 H1 Hf3 H3 ∧ Hf3 D = none ∧ H3 D = some (.lst us) ∧ RpL X.K c Hf3 us (((xs.take (i + 1)).filter p).map f), fun H3 h3 => ⟨xs.length - (i + 1), by omega, rfl, h3⟩, fun x H3 y => ?_⟩
    obtain ⟨Hf3, s3, a, ha, ra⟩ := wk.yld i Hf2 H2 x H3 s2.f s2.s hlt y
    have hm : a ∈ xs := List.mem_of_getElem? ha
    have g1 := (g.step s1).step (s2.trans s3)
    intro bs bH bC bcl bfp
    refine hg a hm bs bH bC bcl bfp _ _ _ _ Hf3 H3 (g1.wipe vs) x ra _ fun σ2 g2' w2 => ?_
    have g2 := g2' _ _ _ (g1.wipe vs)
    refine ⟨(wipe_ext hts w2).trans wipe_wipe, fun cs cH cC ccl cfp => ht a hm cs cH cC ccl cfp _ _ σ2 Hf3 H3 g2 _ fun Hf4 H4 s4 => ?_⟩
    have s24 := s2.trans (s3.trans s4)
    have e1 : xs.take (i + 1) = xs.take i ++ [a] := take_succ' ha
    cases hp : p a with
    | false =>
      rw [if_neg Bool.false_ne_true]
      refine ⟨hlt, Hf4, us, s24, s4.d _ _ (s3.d _ _ hD2 hu trivial) (s3.h _ _ hu) trivial, s4.h _ _ (s3.h _ _ hu), ?_⟩
      rw [e1, List.filter_append, List.filter_cons_of_neg (by rw [hp]; exact Bool.false_ne_true), List.filter_nil, List.append_nil]
      exact ru.mono (s3.f.trans s4.f)
    | true =>
      rw [if_pos rfl]
      refine fun es eH eC ecl efp => he a hm hp es eH eC ecl efp _ _ σ2 Hf4 H4 (g2.step s4) _ fun w Hf5 H5 s5 r5 => ?_
      have hD4 : H4 D = some (.lst us) := s4.h _ _ (s3.h _ _ hu)
      have hDf4 : Hf4 D = none := s4.d _ _ (s3.d _ _ hD2 hu trivial) (s3.h _ _ hu) trivial
      have hDf5 : Hf5 D = none := s5.d _ _ hDf4 hD4 trivial
      have s25 := s24.trans s5
      have hus : us.length ≤ i := by
        rw [ru.len, List.length_map]
        exact Nat.le_trans (List.length_filter_le _ _) (by rw [List.length_take]; exact Nat.min_le_left _ _)
      refine ⟨us, s5.h _ _ hD4, Nat.lt_of_le_of_lt hus (Nat.lt_of_lt_of_le (Nat.lt_trans hlt hl) (by decide)), hlt, Hf5, us ++ [w], ⟨s25.f, fun b o e => ?_, fun b o e => ?_, s25.d⟩, hDf5, upd_same, ?_⟩
      · rw [upd_ne (ne_of_none e hD)]; exact s25.h b o e
      · rw [upd_ne (ne_of_none e hDf5)]; exact s25.s b o e
      · rw [e1, List.filter_append, List.filter_cons_of_pos hp, List.filter_nil, List.map_append]
        exact paired_append (ru.mono ((s3.f.trans s4.f).trans s5.f)) (.cons r5 .nil)
  · have e : i = xs.length := by omega
    subst e
    refine .inl ⟨wk.stop H2 (s2.f.trans s2.s), ?_⟩
    rw [List.take_length] at ru
    have s02 := s1.trans s2
    refine k _ (upd Hf2 D (.lst us)) H2 ⟨fun b o z => ?_, s02.h, fun b o z => ?_, fun b o z z' n => ?_⟩ ⟨D, us, rfl, .inl (.inl upd_same), rpl_upd hD2 ru⟩
    · rw [upd_ne (ne_of_none (s02.f b o z) hD2)]; exact s02.f b o z
    · by_cases q : b = D
      · subst q; rw [upd_same] at z; rw [hu]; exact z
      · rw [upd_ne q] at z; exact s02.s b o z
    · rw [upd_ne (ne_of_none (s1.h _ _ z') hD)]; exact s02.d b o z z' n
theorem e_lc {own : List (Str × Nat)} {pos : Pos} (hc : X.calm = true) (hN : X.N.Nodup) (ok : blkC X.N X.env.scope scope own = true) (hv : vs = own.map (·.2)) (hi : I X c Γ tg iter xs) (hts : ∀ j ∈ ts, j ∈ vs) (hl : xs.length < 1000000) (hg : ∀ x, x ∈ xs → Blk X scope fun Y => G Y c tg x ts (gf x))
    (ht : ∀ x, x ∈ xs → Blk X scope fun Y => Ts Y c (gf x (wipeG Γ vs)) ifs (p x)) (he : ∀ x, x ∈ xs → p x = true → Blk X scope fun Y => E Y c (gf x (wipeG Γ vs)) elt (f x)) (hs : ∀ x, foldedSetIterable iter X.env x = pure x := by intro _; rfl) :
    E X c Γ (.ListComp elt [⟨tg, iter, ifs, 0⟩] scope pos) ((xs.filter p).map f) := fun _ _ σ Hf H g Q k => by
  subst hv
  exact ⟨_, pe_lc hc hN pi_w (blkOk_by ok) pg_b pts_b pe_b hs, tLc_ok hi hts hl hg ht he g k⟩
end
end Pv
namespace Pv
open Rp (rp)
open Ow (ow)
open PySem L2
variable {X : Cx} {c : CL} {Γ : List Sl}
/-! ### two clauses -/
def del (H : Hp) (D : Addr) : Hp := fun a => if a = D then none else H a
theorem del_ne {H : Hp} {D a : Addr} (h : a ≠ D) : del H D a = H a := if_neg h
theorem del_at {H : Hp} {D : Addr} : del H D D = none := if_pos rfl
theorem of_del {H : Hp} {D a : Addr} {o : HO} (h : del H D a = some o) : a ≠ D ∧ H a = some o := by
  by_cases e : a = D
  · subst e; rw [del_at] at h; cases h
  · rw [del_ne e] at h; exact ⟨e, h⟩
theorem del_same {H : Hp} {D : Addr} : Same (del H D) H := fun a o h => (of_del h).2
theorem del_upd {H : Hp} {D : Addr} {o : HO} : del (upd H D o) D = del H D := by
  funext a
  by_cases e : a = D
  · subst e; rw [del_at, del_at]
  · rw [del_ne e, del_ne e, upd_ne e]
theorem Stp.del {Hf H Hf' H' : Hp} {D : Addr} (s : Stp Hf H Hf' H') (h : Hf' D = none) : Stp Hf (Pv.del H D) Hf' (Pv.del H' D) :=
  ⟨s.f, fun a o e => by rw [del_ne (of_del e).1]; exact s.h a o (of_del e).2, fun a o e => by rw [del_ne (ne_of_none e h)]; exact s.s a o e, fun p o a b n => s.d p o a (of_del b).2 n⟩
theorem EnvOk.up {K : PySem.W.Frag} {H0f H0 Hf H H' : Hp} {σ : L2.St} (g : EnvOk K c H0f H0 Hf H σ Γ) (s : Same H H') : EnvOk K c H0f H0 Hf H' σ Γ := by
  obtain ⟨h1, h2, R, h3, h4, h5⟩ := g
  refine ⟨⟨h1.f, h1.h.trans s, h1.s.trans s, h1.d⟩, h2, R, fun i o sl a b => ?_, h4, fun i a ha => ?_⟩
  · have q := h3 i o sl a b
    cases sl with
    | any => trivial
    | dat p => exact q
    | @own _ io b =>
      obtain ⟨v, e1, e2⟩ := q
      refine ⟨v, e1, io.stay (Same.refl _) (fun a ha => ?_) e2⟩
      obtain ⟨_, _, o, g, _⟩ := h5 i a ha
      rw [g, s _ _ g]
  · obtain ⟨g1, g2, o, g3, g4⟩ := h5 i a ha
    exact ⟨g1, g2, o, s _ _ g3, g4⟩
section
variable {α β γ : Type} [Rp α] [Rp β] [Rp γ] {xs : List α} {tg iter elt tg1 iter1 : Expr} {ifs ifs1 : List Expr} {scope : Scope} {vs vs1 ts ts1 : List Nat} {p : α → Bool} {gf : α → List Sl → List Sl}
  {ys : α → List β} {p1 : α → β → Bool} {f : α → β → γ} {gf1 : α → β → List Sl → List Sl}
theorem tLc2_ok (hi : I X c Γ tg iter xs) (hts : ∀ j ∈ ts, j ∈ vs) (hts1 : ∀ j ∈ ts1, j ∈ vs1) (hg : ∀ x, x ∈ xs → Blk X scope fun Y => G Y c tg x ts (gf x))
    (ht : ∀ x, x ∈ xs → Blk X scope fun Y => Ts Y c (gf x (wipeG Γ vs)) ifs (p x)) (hi1 : ∀ x, x ∈ xs → p x = true → Blk X scope fun Y => I Y c (gf x (wipeG Γ vs)) tg1 iter1 (ys x))
    (hg1 : ∀ x, x ∈ xs → ∀ y, y ∈ ys x → Blk X scope fun Y => G Y c tg1 y ts1 (gf1 x y))
    (ht1 : ∀ x, x ∈ xs → ∀ y, y ∈ ys x → Blk X scope fun Y => Ts Y c (gf1 x y (wipeG (gf x (wipeG Γ vs)) vs1)) ifs1 (p1 x y))
    (he : ∀ x, x ∈ xs → ∀ y, y ∈ ys x → p1 x y = true → Blk X scope fun Y => E Y c (gf1 x y (wipeG (gf x (wipeG Γ vs)) vs1)) elt (f x y))
    (hl : ((xs.filter p).flatMap fun x => ((ys x).filter (p1 x)).map (f x)).length < 1000000)
    {H0f H0 : Hp} {σ : L2.St} {Hf H : Hp} (g : EnvOk X.K c H0f H0 Hf H σ Γ) {Q : VK} (k : ∀ v Hf' H', Stp Hf H Hf' H' → rp X.K c Hf' v ((xs.filter p).flatMap fun x => ((ys x).filter (p1 x)).map (f x)) → Q v H') :
    tLc2 (wI X tg iter) (bG X scope tg) (bTs X scope ifs) (bI X scope tg1 iter1) (bG X scope tg1) (bTs X scope ifs1) (bE X scope elt) vs vs1 σ H Q := by
  refine hi _ _ σ Hf H g _ fun J Hf1 H1 s1 wk => fun D hD => ?_
  have hD1 : Hf1 D = none := s1.s.free hD
  refine ⟨fun i m H2 => m = xs.length - i ∧ i ≤ xs.length ∧ ∃ Hf2 us, Stp Hf1 H1 Hf2 H2 ∧ Hf2 D = none ∧ H2 D = some (.lst us) ∧ RpL X.K c Hf2 us (((xs.take i).filter p).flatMap fun x => ((ys x).filter (p1 x)).map (f x)),
    ⟨xs.length, rfl, Nat.zero_le _, Hf1, [], ⟨Same.refl _, same_new hD, s1.s.trans (same_new hD), fun _ _ z _ _ => z⟩, hD1, upd_same, .nil⟩, ?_⟩
  rintro i m H2 ⟨rfl, hil, Hf2, us, s2, hD2, hu, ru⟩
  by_cases hlt : i < xs.length
  · refine .inr ⟨wk.go i H2 hlt (s2.f.trans s2.s), fun H3 => (i + 1) ≤ xs.length ∧ ∃ Hf3 us, Stp Hf1 H1 Hf3 H3 ∧ Hf3 D = none ∧ H3 D = some (.lst us) ∧ RpL X.K c Hf3 us (((xs.take (i + 1)).filter p).flatMap fun x => ((ys x).filter (p1 x)).map (f x)), fun H3 h3 => ⟨xs.length - (i + 1), by omega, rfl, h3⟩, fun x H3 y => ?_⟩
    obtain ⟨Hf3, s3, a, ha, ra⟩ := wk.yld i Hf2 H2 x H3 s2.f s2.s hlt y
    have hm : a ∈ xs := List.mem_of_getElem? ha
    have hD3 : H3 D = some (.lst us) := s3.h _ _ hu
    have hDf3 : Hf3 D = none := s3.d _ _ hD2 hu trivial
    -- the slots, as if D were not there
    have g0 : EnvOk X.K c H0f H0 Hf3 (Pv.del H3 D) σ Γ := by
      have z := (g.step s1).step (s2.trans s3)
      have z2 : Stp Hf1 H1 Hf3 (Pv.del H3 D) := ⟨(s2.trans s3).f, fun b o e => by rw [del_ne (ne_of_none e hD)]; exact (s2.trans s3).h b o e, fun b o e => by rw [del_ne (ne_of_none e hDf3)]; exact s3.s b o e, (s2.trans s3).d⟩
      exact (g.step s1).step z2
    intro bs bH bC bcl bfp
    refine hg a hm bs bH bC bcl bfp _ _ _ _ Hf3 H3 ((g0.wipe vs).up del_same) x ra _ fun σ2 g2' w2 => ?_
    have g2 : EnvOk X.K c H0f H0 Hf3 (Pv.del H3 D) σ2 (gf a (wipeG Γ vs)) := g2' _ _ _ (g0.wipe vs)
    refine ⟨(wipe_ext hts w2).trans wipe_wipe, fun cs cH cC ccl cfp => ht a hm cs cH cC ccl cfp _ _ σ2 Hf3 H3 (g2.up del_same) _ fun Hf4 H4 s4 => ?_⟩
    have e1 : xs.take (i + 1) = xs.take i ++ [a] := take_succ' ha
    have hD4 : H4 D = some (.lst us) := s4.h _ _ hD3
    have hDf4 : Hf4 D = none := s4.d _ _ hDf3 hD3 trivial
    have s24 := s2.trans (s3.trans s4)
    cases hp : p a with
    | false =>
      rw [if_neg Bool.false_ne_true]
      refine ⟨hlt, Hf4, us, s24, hDf4, hD4, ?_⟩
      rw [e1, List.filter_append, List.filter_cons_of_neg (by rw [hp]; exact Bool.false_ne_true), List.filter_nil, List.append_nil]
      exact ru.mono (s3.f.trans s4.f)
    | true =>
      rw [if_pos rfl]
      have e2 : (((xs.take (i + 1)).filter p).flatMap fun x => ((ys x).filter (p1 x)).map (f x)) = (((xs.take i).filter p).flatMap fun x => ((ys x).filter (p1 x)).map (f x)) ++ ((ys a).filter (p1 a)).map (f a) := by
        rw [e1, List.filter_append, List.filter_cons_of_pos hp, List.filter_nil, List.flatMap_append, List.flatMap_cons, List.flatMap_nil, List.append_nil]
      generalize hL : (((xs.take i).filter p).flatMap fun x => ((ys x).filter (p1 x)).map (f x)) = L at e2 ru
      have hlen : L.length + (((ys a).filter (p1 a)).map (f a)).length < 1000000 := by
        refine Nat.lt_of_le_of_lt ?_ hl
        have z : ((xs.filter p).flatMap fun x => ((ys x).filter (p1 x)).map (f x)) = (((xs.take (i + 1)).filter p).flatMap fun x => ((ys x).filter (p1 x)).map (f x)) ++ (((xs.drop (i + 1)).filter p).flatMap fun x => ((ys x).filter (p1 x)).map (f x)) := by
          rw [← List.flatMap_append, ← List.filter_append, List.take_append_drop]
        rw [z, e2, List.length_append, List.length_append]
        omega
      refine fun ds dH dC dcl dfp => hi1 a hm hp ds dH dC dcl dfp _ _ σ2 Hf4 H4 ((g2.up del_same).step s4) _ fun J1 Hf5 H5 s5 wk1 => ?_
      have hD5 : H5 D = some (.lst us) := s5.h _ _ hD4
      have hDf5 : Hf5 D = none := s5.d _ _ hDf4 hD4 trivial
      have s25 := s24.trans s5
      refine ⟨fun j m H6 => m = (ys a).length - j ∧ j ≤ (ys a).length ∧ ∃ Hf6 ws, Same Hf5 Hf6 ∧ EnvOk X.K c H0f H0 Hf6 (Pv.del H6 D) σ2 (gf a (wipeG Γ vs)) ∧ Stp Hf1 H1 Hf6 H6 ∧ Hf6 D = none ∧ H6 D = some (.lst ws) ∧ RpL X.K c Hf6 ws (L ++ (((ys a).take j).filter (p1 a)).map (f a)),
        ⟨(ys a).length, rfl, Nat.zero_le _, Hf5, us, Same.refl _, (g2.step (s4.del hDf4)).step (s5.del hDf5), s25, hDf5, hD5, ?_⟩, ?_⟩
      · rw [List.take_zero, List.filter_nil, List.map_nil, List.append_nil]
        exact ru.mono ((s3.f.trans s4.f).trans s5.f)
      rintro j m H6 ⟨rfl, hjl, Hf6, ws, s56, g6, s26, hDf6, hD6, rw6⟩
      by_cases hjt : j < (ys a).length
      · refine .inr ⟨wk1.go j H6 hjt (s56.trans s26.s), fun H7 => (j + 1) ≤ (ys a).length ∧ ∃ Hf7 ws, Same Hf5 Hf7 ∧ EnvOk X.K c H0f H0 Hf7 (Pv.del H7 D) σ2 (gf a (wipeG Γ vs)) ∧ Stp Hf1 H1 Hf7 H7 ∧ Hf7 D = none ∧ H7 D = some (.lst ws) ∧ RpL X.K c Hf7 ws (L ++ (((ys a).take (j + 1)).filter (p1 a)).map (f a)), fun H7 h7 => ⟨(ys a).length - (j + 1), by omega, rfl, h7⟩, fun x2 H7 y2 => ?_⟩
        obtain ⟨Hf7, s7, b, hb, rb⟩ := wk1.yld j Hf6 H6 x2 H7 s56 s26.s hjt y2
        have hmb : b ∈ ys a := List.mem_of_getElem? hb
        have hDf7 : Hf7 D = none := s7.d _ _ hDf6 hD6 trivial
        have hD7 : H7 D = some (.lst ws) := s7.h _ _ hD6
        have g7 := g6.step (s7.del hDf7)
        intro fs fH fC fcl ffp
        refine hg1 a hm b hmb fs fH fC fcl ffp _ _ _ _ Hf7 H7 ((g7.wipe vs1).up del_same) x2 rb _ fun σ3 g3' w3 => ?_
        have g8 := g3' _ _ _ (g7.wipe vs1)
        refine ⟨(wipe_ext hts1 w3).trans wipe_wipe, fun cs cH cC ccl cfp => ht1 a hm b hmb cs cH cC ccl cfp _ _ σ3 Hf7 H7 (g8.up del_same) _ fun Hf8 H8 s8 => ?_⟩
        have e3 : (ys a).take (j + 1) = (ys a).take j ++ [b] := take_succ' hb
        have hDf8 : Hf8 D = none := s8.d _ _ hDf7 hD7 trivial
        have hD8 : H8 D = some (.lst ws) := s8.h _ _ hD7
        cases hq : p1 a b with
        | false =>
          rw [if_neg Bool.false_ne_true]
          refine ⟨hjt, Hf8, ws, s56.trans (s7.f.trans s8.f), g7.step (s8.del hDf8), s26.trans (s7.trans s8), hDf8, hD8, ?_⟩
          rw [e3, List.filter_append, List.filter_cons_of_neg (by rw [hq]; exact Bool.false_ne_true), List.filter_nil, List.append_nil]
          exact rw6.mono (s7.f.trans s8.f)
        | true =>
          rw [if_pos rfl]
          refine fun es eH eC ecl efp => he a hm b hmb hq es eH eC ecl efp _ _ σ3 Hf8 H8 ((g8.up del_same).step s8) _ fun w Hf9 H9 s9 r9 => ?_
          have hDf9 : Hf9 D = none := s9.d _ _ hDf8 hD8 trivial
          have hD9 : H9 D = some (.lst ws) := s9.h _ _ hD8
          have s29 := s26.trans (s7.trans (s8.trans s9))
          have hws : ws.length < 1000000 := by
            rw [rw6.len, List.length_append]
            refine Nat.lt_of_le_of_lt (Nat.add_le_add_left ?_ _) hlen
            rw [List.length_map, List.length_map]
            exact (List.Sublist.filter _ (List.take_sublist _ _)).length_le
          refine ⟨ws, hD9, Nat.lt_of_lt_of_le hws (by decide), hjt, Hf9, ws ++ [w], s56.trans (s7.f.trans (s8.f.trans s9.f)), ?_, ⟨s29.f, fun b o e => ?_, fun b o e => ?_, s29.d⟩, hDf9, upd_same, ?_⟩
          · rw [del_upd]
            exact (g7.step (s8.del hDf8)).step (s9.del hDf9)
          · rw [upd_ne (ne_of_none e hD)]; exact s29.h b o e
          · rw [upd_ne (ne_of_none e hDf9)]; exact s29.s b o e
          · rw [e3, List.filter_append, List.filter_cons_of_pos hq, List.filter_nil, List.map_append, ← List.append_assoc]
            exact paired_append (rw6.mono (s7.f.trans (s8.f.trans s9.f))) (.cons r9 .nil)
      · have e : j = (ys a).length := by omega
        subst e
        refine .inl ⟨wk1.stop H6 (s56.trans s26.s), hlt, Hf6, ws, s26, hDf6, hD6, ?_⟩
        rw [e2]
        rw [List.take_length] at rw6
        exact rw6
  · have e : i = xs.length := by omega
    subst e
    refine .inl ⟨wk.stop H2 (s2.f.trans s2.s), ?_⟩
    rw [List.take_length] at ru
    have s02 := s1.trans s2
    refine k _ (upd Hf2 D (.lst us)) H2 ⟨fun b o z => ?_, s02.h, fun b o z => ?_, fun b o z z' n => ?_⟩ ⟨D, us, rfl, .inl (.inl upd_same), rpl_upd hD2 ru⟩
    · rw [upd_ne (ne_of_none (s02.f b o z) hD2)]; exact s02.f b o z
    · by_cases q : b = D
      · subst q; rw [upd_same] at z; rw [hu]; exact z
      · rw [upd_ne q] at z; exact s02.s b o z
    · rw [upd_ne (ne_of_none (s1.h _ _ z') hD)]; exact s02.d b o z z' n
theorem e_lc2 {own : List (Str × Nat)} {pos : Pos} (hc : X.calm = true) (hN : X.N.Nodup) (ok : blkC X.N X.env.scope scope own = true) (hv : vs = own.map (·.2)) (hv1 : ∀ i ∈ vs1, i ∈ own.map (·.2)) (hi : I X c Γ tg iter xs) (hts : ∀ j ∈ ts, j ∈ vs) (hts1 : ∀ j ∈ ts1, j ∈ vs1)
    (hg : ∀ x, x ∈ xs → Blk X scope fun Y => G Y c tg x ts (gf x))
    (ht : ∀ x, x ∈ xs → Blk X scope fun Y => Ts Y c (gf x (wipeG Γ vs)) ifs (p x)) (hi1 : ∀ x, x ∈ xs → p x = true → Blk X scope fun Y => I Y c (gf x (wipeG Γ vs)) tg1 iter1 (ys x))
    (hg1 : ∀ x, x ∈ xs → ∀ y, y ∈ ys x → Blk X scope fun Y => G Y c tg1 y ts1 (gf1 x y))
    (ht1 : ∀ x, x ∈ xs → ∀ y, y ∈ ys x → Blk X scope fun Y => Ts Y c (gf1 x y (wipeG (gf x (wipeG Γ vs)) vs1)) ifs1 (p1 x y))
    (he : ∀ x, x ∈ xs → ∀ y, y ∈ ys x → p1 x y = true → Blk X scope fun Y => E Y c (gf1 x y (wipeG (gf x (wipeG Γ vs)) vs1)) elt (f x y))
    (hl : ((xs.filter p).flatMap fun x => ((ys x).filter (p1 x)).map (f x)).length < 1000000) (hs : ∀ x, foldedSetIterable iter X.env x = pure x := by intro _; rfl) (hs1 : ∀ env x, foldedSetIterable iter1 env x = pure x := by intro _ _; rfl) :
    E X c Γ (.ListComp elt [⟨tg, iter, ifs, 0⟩, ⟨tg1, iter1, ifs1, 0⟩] scope pos) ((xs.filter p).flatMap fun x => ((ys x).filter (p1 x)).map (f x)) := fun _ _ σ Hf H g Q k => by
  subst hv
  exact ⟨_, pe_lc2 hc hN pi_w (blkOk_by ok) hv1 pg_b pts_b pi_b pg_b pts_b pe_b hs hs1, tLc2_ok hi hts hts1 hg ht hi1 hg1 ht1 he hl g k⟩
end
end Pv
namespace Pv
open Rp (rp)
open Ow (ow)
open PySem L2
/-! ### statements -/
/-- fields by name -/
inductive FR (K : PySem.W.Frag) (c : CL) (H : Hp) : List (Str × V) → List (Str × Pk) → Prop
  | nil : FR K c H [] []
  | cons {n : Str} {v : V} {p : Pk} {vs : List (Str × V)} {ps : List (Str × Pk)} (h : p.i.rp K c H v p.a) (t : FR K c H vs ps) : FR K c H ((n, v) :: vs) ((n, p) :: ps)
section
variable {K : PySem.W.Frag} {c : CL} {H H' : Hp} {vs : List (Str × V)} {ps : List (Str × Pk)}
theorem FR.mono (e : Same H H') (r : FR K c H vs ps) : FR K c H' vs ps := by
  induction r with
  | nil => exact .nil
  | @cons n v p vs ps h t ih => exact .cons (p.i.mono e h) ih
theorem FR.len (r : FR K c H vs ps) : vs.length = ps.length := by
  induction r with
  | nil => rfl
  | cons h t ih => rw [List.length_cons, List.length_cons, ih]
theorem FR.get (r : FR K c H vs ps) {f : Str} {p : Pk} (h : ps.lookup f = some p) : ∃ v, vs.lookup f = some v ∧ p.i.rp K c H v p.a := by
  induction r with
  | nil => cases h
  | @cons n v q vs ps hq t ih =>
    rw [List.lookup_cons] at h ⊢
    cases e : (f == n) with
    | true => rw [e] at h; cases h; exact ⟨v, rfl, hq⟩
    | false => rw [e] at h; obtain ⟨w, h1, h2⟩ := ih h; exact ⟨w, h1, h2⟩
theorem FR.no (r : FR K c H vs ps) {f : Str} (h : ps.lookup f = none) : vs.lookup f = none := by
  induction r with
  | nil => rfl
  | @cons n v q vs ps hq t ih =>
    rw [List.lookup_cons] at h ⊢
    cases e : (f == n) with
    | true => rw [e] at h; cases h
    | false => rw [e] at h; exact ih h
def setF (f : Str) (p : Pk) : List (Str × Pk) → List (Str × Pk)
  | [] => [(f, p)]
  | (g, q) :: r => if g = f then (g, p) :: r else (g, q) :: setF f p r
theorem FR.set (r : FR K c H vs ps) (f : Str) {v : V} {p : Pk} (h : p.i.rp K c H v p.a) : FR K c H (putF f v vs) (setF f p ps) := by
  induction r with
  | nil => exact .cons h .nil
  | @cons n w q vs ps hq t ih =>
    unfold putF setF
    by_cases e : n = f
    · rw [if_pos e, if_pos e]; exact .cons h t
    · rw [if_neg e, if_neg e]; exact .cons hq ih
end
/-- a new object by its fields -/
structure NewO : Type 1 where
  cls : String
  fs : List (Str × Pk)
def NewAt (K : PySem.W.Frag) (c : CL) (Hf H : Hp) (p : Addr) (n : NewO) : Prop := Hf p = none ∧ ∃ dx fvs, H p = some (.ins (c n.cls) dx fvs) ∧ FR K c Hf fvs n.fs
/-- an exception of the program's own -/
structure Xn where
  cls : String
  fs : Option (List (Str × Pk)) := none
def XnOk (K : PySem.W.Frag) (c : CL) (Hf : Hp) (x : Xn) (cls : Value) (dd : Option Addr) : Prop :=
  cls = .ref (c x.cls) ∧ match x.fs with
    | none => dd = none
    | some fs => ∃ a fvs, dd = some a ∧ Hf a = some (.xd fvs) ∧ FR K c Hf fvs fs
theorem XnOk.mono {K : PySem.W.Frag} {c : CL} {Hf Hf' : Hp} {x : Xn} {cls : Value} {dd : Option Addr} (s : Same Hf Hf') (h : XnOk K c Hf x cls dd) : XnOk K c Hf' x cls dd := by
  obtain ⟨h1, h2⟩ := h
  refine ⟨h1, ?_⟩
  cases e : x.fs with
  | none => rw [e] at h2; exact h2
  | some fs =>
    rw [e] at h2
    obtain ⟨a, fvs, q1, q2, q3⟩ := h2
    exact ⟨a, fvs, q1, s _ _ q2, q3.mono s⟩
/-- something owned -/
structure OwP : Type 2 where
  {β : Type 1}
  [i : Ow β]
  b : β
structure En where
  nx : List Sl → Prop
  rt : Pk → List Sl → Prop
  bk : List Sl → Prop := fun _ => False
  ct : List Sl → Prop := fun _ => False
  ex : Xn → List Sl → Prop := fun _ _ => False
  rn : Addr → NewO → List Sl → Prop := fun _ _ _ => False
  ro : OwP → List Sl → Prop := fun _ _ => False
/-- nothing is raised -/
abbrev E1 : WX := fun _ _ _ _ => False
structure Lk (K : PySem.W.Frag) (c : CL) (H0f H0 : Hp) (W : WX) (Hf : Hp) (D : En) (DD : Ends) : Prop where
  nx : ∀ Γ' σ' Hf' H', D.nx Γ' → Same Hf Hf' → EnvOk K c H0f H0 Hf' H' σ' Γ' → DD.nx σ' H'
  bk : ∀ Γ' σ' Hf' H', D.bk Γ' → Same Hf Hf' → EnvOk K c H0f H0 Hf' H' σ' Γ' → DD.bk σ' H'
  ct : ∀ Γ' σ' Hf' H', D.ct Γ' → Same Hf Hf' → EnvOk K c H0f H0 Hf' H' σ' Γ' → DD.ct σ' H'
  rt : ∀ (p : Pk) Γ' v σ' Hf' H', D.rt p Γ' → Same Hf Hf' → EnvOk K c H0f H0 Hf' H' σ' Γ' → p.i.rp K c Hf' v p.a → DD.rt v H'
  ex : ∀ x cls dd σ' Γ' Hf' H', D.ex x Γ' → Same Hf Hf' → EnvOk K c H0f H0 Hf' H' σ' Γ' → XnOk K c Hf' x cls dd → W cls dd σ' H'
  rn : ∀ p n Γ' σ' Hf' H', D.rn p n Γ' → Same Hf Hf' → EnvOk K c H0f H0 Hf' H' σ' Γ' → H0 p = none → NewAt K c Hf' H' p n → DD.rt (.ref p) H'
  ro : ∀ (b : OwP) Γ' v R σ' Hf' H', D.ro b Γ' → Same Hf Hf' → EnvOk K c H0f H0 Hf' H' σ' Γ' → (∀ a ∈ R, H0 a = none ∧ Hf' a = none) → b.i.ow K c Hf' H' R v b.b → DD.rt v H'
section
variable {K : PySem.W.Frag} {c : CL} {H0f H0 Hf Hf' : Hp} {W : WX} {D : En} {DD : Ends}
theorem Lk.mono (k : Lk K c H0f H0 W Hf D DD) (s : Same Hf Hf') : Lk K c H0f H0 W Hf' D DD :=
  ⟨fun a b d e f g h => k.nx a b d e f (s.trans g) h, fun a b d e f g h => k.bk a b d e f (s.trans g) h, fun a b d e f g h => k.ct a b d e f (s.trans g) h, fun a b d e f g h i j => k.rt a b d e f g h (s.trans i) j, fun a b d e f g h i j => k.ex a b d e f g h i (s.trans j), fun p n a b d e f g => k.rn p n a b d e f (s.trans g), fun p a b d e f g h i => k.ro p a b d e f g h (s.trans i)⟩
end
def Ss (X : Cx) (c : CL) (W : WX) (Γ : List Sl) (sts : List Stmt) (D : En) : Prop :=
  ∀ (H0f H0 : Hp) (σ : L2.St) (Hf H : Hp), EnvOk X.K c H0f H0 Hf H σ Γ → ∀ DD : Ends, Lk X.K c H0f H0 W Hf D DD → wSs X sts DD σ H
section
variable {X : Cx} {c : CL} {Γ : List Sl} {W : WX} {D : En} {rest : List Stmt} {pos : Pos}
/-- what follows a statement -/
abbrev En.thn (D : En) (X : Cx) (c : CL) (W : WX) (rest : List Stmt) : En := { D with nx := fun Γ' => Ss X c W Γ' rest D }
theorem Lk.thn {H0f H0 Hf : Hp} {DD : Ends} (k : Lk X.K c H0f H0 W Hf D DD) : Lk X.K c H0f H0 W Hf (D.thn X c W rest) { DD with nx := wSs X rest DD } :=
  ⟨fun Γ' σ' Hf' H' h s g => h _ _ σ' Hf' H' g DD (k.mono s), k.bk, k.ct, k.rt, k.ex, k.rn, k.ro⟩
theorem ss_nil (h : D.nx Γ) : Ss X c W Γ [] D := fun _ _ σ Hf H g DD k => ⟨_, pss_nil, k.nx Γ σ Hf H h (Same.refl _) g⟩
theorem ss_ret {e : Expr} {α : Type} [Rp α] {v : α} (h : E X c Γ e v) (hr : D.rt ⟨v⟩ Γ) : Ss X c W Γ (.Return (some e) pos :: rest) D := fun _ _ σ Hf H g DD k =>
  ⟨_, pss_cons (ps_ret pe_w) pss_never, h _ _ σ Hf H g _ fun v Hf1 H1 s1 r1 => k.rt _ Γ v σ Hf1 H1 hr s1.f (g.step s1) r1⟩
theorem ss_retN (hr : D.rt ⟨()⟩ Γ) : Ss X c W Γ (.Return none pos :: rest) D := fun _ _ σ Hf H g DD k =>
  ⟨_, pss_cons ps_retN pss_never, k.rt _ Γ _ σ Hf H hr (Same.refl _) g rfl⟩
theorem ss_pass (h : Ss X c W Γ rest D) : Ss X c W Γ (.Pass pos :: rest) D := fun _ _ σ Hf H g DD k => ⟨_, pss_cons ps_pass pss_w, h _ _ σ Hf H g DD k⟩
theorem ss_brk (h : D.bk Γ) : Ss X c W Γ (.Break pos :: rest) D := fun _ _ σ Hf H g DD k => ⟨_, pss_cons ps_break pss_never, k.bk Γ σ Hf H h (Same.refl _) g⟩
theorem ss_cont (h : D.ct Γ) : Ss X c W Γ (.Continue pos :: rest) D := fun _ _ σ Hf H g DD k => ⟨_, pss_cons ps_continue pss_never, k.ct Γ σ Hf H h (Same.refl _) g⟩
theorem ss_expr {e : Expr} {α : Type} [Rp α] {v : α} (h : E X c Γ e v) (hr : Ss X c W Γ rest D) (hs : swapsWith e none pos.line X.env = pure false := by rfl) : Ss X c W Γ (.Expr e pos :: rest) D := fun _ _ σ Hf H g DD k =>
  ⟨_, pss_cons (ps_expr pe_w hs) pss_w, h _ _ σ Hf H g _ fun v Hf1 H1 s1 r1 => hr _ _ σ Hf1 H1 (g.step s1) DD (k.mono s1.f)⟩
theorem ss_set (i : Nat) {x : Str} {e : Expr} {pos' : Pos} {α : Type} [Rp α] {v : α} (hN : X.N.Nodup) (h : E X c Γ e v) (hr : Ss X c W (Γ.set i (d v)) rest D) (hi : X.N[i]? = some x := by rfl) (hx : Loc X.env.scope x := by first | exact .inl rfl | exact .inr rfl)
    (hs : swapsWith e (some (.Name x pos')) pos.line X.env = pure false := by rfl) (hf : X.fn x = true ∨ X.env.scope.names.lookup x = some .local := by first | exact .inl rfl | exact .inr rfl) : Ss X c W Γ (.Assign [.Name x pos'] e pos :: rest) D := fun _ _ σ Hf H g DD k =>
  ⟨_, pss_cons (ps_set hN hi hx pe_w hs hf) pss_w, h _ _ σ Hf H g _ fun v Hf1 H1 s1 r1 => hr _ _ _ Hf1 H1 ((g.step s1).set i r1) DD (k.mono s1.f)⟩
/-- target = e for a target of any form -/
theorem ss_asg {tg e : Expr} {α : Type} [Rp α] {v : α} {ts : List Nat} {f : List Sl → List Sl} (h : E X c Γ e v) (hg : G X c tg v ts f) (hr : Ss X c W (f Γ) rest D) (hs : swapsWithSole [tg] e pos.line X.env = pure false := by rfl) (hw : swappedStores [tg] e X.env = pure none := by rfl)
    (h1 : (assignEach [tg] X.env).map (·.2) = [assign tg X.env] := by rfl) : Ss X c W Γ (.Assign [tg] e pos :: rest) D := fun _ _ σ Hf H g DD k =>
  ⟨_, pss_cons (ps_asg pe_w pg_w hs hw h1) pss_w, h _ _ σ Hf H g _ fun v Hf1 H1 s1 r1 => hg Γ _ _ σ Hf1 H1 (g.step s1) v r1 _ fun σ' g' w' => hr _ _ _ Hf1 H1 (g' _ _ _ (g.step s1)) DD (k.mono s1.f)⟩
/-- x = [.. for ..] on one line -/
theorem ss_setLc (i : Nat) {y : Str} {py : Pos} {elt tg iter : Expr} {ifs : List Expr} {scope : Scope} {own : List (Str × Nat)} {cpos : Pos} {α β : Type} [Rp α] [Rp β] {xs : List α} {vs ts : List Nat} {p : α → Bool} {f : α → β} {gf : α → List Sl → List Sl}
    (hc : X.calm = true) (hN : X.N.Nodup) (ok : blkC X.N X.env.scope scope own = true) (hv : vs = own.map (·.2)) (hi : I X c Γ tg iter xs) (hts : ∀ j ∈ ts, j ∈ vs) (hl : xs.length < 1000000) (hg : ∀ x, x ∈ xs → Blk X scope fun Y => G Y c tg x ts (gf x))
    (ht : ∀ x, x ∈ xs → Blk X scope fun Y => Ts Y c (gf x (wipeG Γ vs)) ifs (p x)) (he : ∀ x, x ∈ xs → p x = true → Blk X scope fun Y => E Y c (gf x (wipeG Γ vs)) elt (f x))
    (hr : Ss X c W (Γ.set i (d ((xs.filter p).map f))) rest D) (hs : ∀ x, foldedSetIterable iter X.env x = pure x := by intro _; rfl) (hy : X.N[i]? = some y := by rfl) (hyl : X.env.scope.names.lookup y = some .local := by rfl)
    (hsw : swapsWith (.ListComp elt [⟨tg, iter, ifs, 0⟩] scope cpos) (some (.Name y py)) pos.line X.env = pure true := by exact sw_true rfl rfl rfl (by decide +kernel)) :
    Ss X c W Γ (.Assign [.Name y py] (.ListComp elt [⟨tg, iter, ifs, 0⟩] scope cpos) pos :: rest) D := fun _ _ σ Hf H g DD k => by
  subst hv
  exact ⟨_, pss_cons (ps_setLc hc hN hy hyl hsw pi_w (blkOk_by ok) pg_b pts_b pe_b hs) pss_w, tLc_ok hi hts hl hg ht he g fun v Hf1 H1 s1 r1 => hr _ _ _ Hf1 H1 ((g.step s1).set i r1) DD (k.mono s1.f)⟩
theorem ss_setLc2 (i : Nat) {y : Str} {py : Pos} {elt tg iter tg1 iter1 : Expr} {ifs ifs1 : List Expr} {scope : Scope} {own : List (Str × Nat)} {cpos : Pos} {α β γ : Type} [Rp α] [Rp β] [Rp γ] {xs : List α} {vs vs1 ts ts1 : List Nat} {p : α → Bool} {gf : α → List Sl → List Sl}
    {ys : α → List β} {p1 : α → β → Bool} {f : α → β → γ} {gf1 : α → β → List Sl → List Sl}
    (hc : X.calm = true) (hN : X.N.Nodup) (ok : blkC X.N X.env.scope scope own = true) (hv : vs = own.map (·.2)) (hv1 : ∀ i ∈ vs1, i ∈ own.map (·.2)) (hi : I X c Γ tg iter xs) (hts : ∀ j ∈ ts, j ∈ vs) (hts1 : ∀ j ∈ ts1, j ∈ vs1)
    (hg : ∀ x, x ∈ xs → Blk X scope fun Y => G Y c tg x ts (gf x))
    (ht : ∀ x, x ∈ xs → Blk X scope fun Y => Ts Y c (gf x (wipeG Γ vs)) ifs (p x)) (hi1 : ∀ x, x ∈ xs → p x = true → Blk X scope fun Y => I Y c (gf x (wipeG Γ vs)) tg1 iter1 (ys x))
    (hg1 : ∀ x, x ∈ xs → ∀ y, y ∈ ys x → Blk X scope fun Y => G Y c tg1 y ts1 (gf1 x y))
    (ht1 : ∀ x, x ∈ xs → ∀ y, y ∈ ys x → Blk X scope fun Y => Ts Y c (gf1 x y (wipeG (gf x (wipeG Γ vs)) vs1)) ifs1 (p1 x y))
    (he : ∀ x, x ∈ xs → ∀ y, y ∈ ys x → p1 x y = true → Blk X scope fun Y => E Y c (gf1 x y (wipeG (gf x (wipeG Γ vs)) vs1)) elt (f x y))
    (hl : ((xs.filter p).flatMap fun x => ((ys x).filter (p1 x)).map (f x)).length < 1000000)
    (hr : Ss X c W (Γ.set i (d ((xs.filter p).flatMap fun x => ((ys x).filter (p1 x)).map (f x)))) rest D) (hs : ∀ x, foldedSetIterable iter X.env x = pure x := by intro _; rfl) (hs1 : ∀ env x, foldedSetIterable iter1 env x = pure x := by intro _ _; rfl) (hy : X.N[i]? = some y := by rfl) (hyl : X.env.scope.names.lookup y = some .local := by rfl)
    (hsw : swapsWith (.ListComp elt [⟨tg, iter, ifs, 0⟩, ⟨tg1, iter1, ifs1, 0⟩] scope cpos) (some (.Name y py)) pos.line X.env = pure true := by exact sw_true rfl rfl rfl (by decide +kernel)) :
    Ss X c W Γ (.Assign [.Name y py] (.ListComp elt [⟨tg, iter, ifs, 0⟩, ⟨tg1, iter1, ifs1, 0⟩] scope cpos) pos :: rest) D := fun _ _ σ Hf H g DD k => by
  subst hv
  exact ⟨_, pss_cons (ps_setLc2 hc hN hy hyl hsw pi_w (blkOk_by ok) hv1 pg_b pts_b pi_b pg_b pts_b pe_b hs hs1) pss_w, tLc2_ok hi hts hts1 hg ht hi1 hg1 ht1 he hl g fun v Hf1 H1 s1 r1 => hr _ _ _ Hf1 H1 ((g.step s1).set i r1) DD (k.mono s1.f)⟩
theorem ss_if {cnd : Expr} {a b : List Stmt} {z : Bool} (ht : T X c Γ cnd z) (h1 : z = true → Ss X c W Γ a (D.thn X c W rest)) (h2 : z = false → Ss X c W Γ b (D.thn X c W rest)) : Ss X c W Γ (.If cnd a b pos :: rest) D := fun _ _ σ Hf H g DD k =>
  ⟨_, pss_cons (ps_if pt_w pss_w pss_w) pss_w, ht _ _ σ Hf H g _ fun Hf1 H1 s1 => by
    cases z with
    | true => exact (h1 rfl) _ _ σ Hf1 H1 (g.step s1) _ (k.mono s1.f).thn
    | false => exact (h2 rfl) _ _ σ Hf1 H1 (g.step s1) _ (k.mono s1.f).thn⟩
/-- if without else -/
theorem ss_when {cnd : Expr} {a : List Stmt} {z : Bool} (ht : T X c Γ cnd z) (h1 : z = true → Ss X c W Γ a (D.thn X c W rest)) (h2 : z = false → Ss X c W Γ rest D) : Ss X c W Γ (.If cnd a [] pos :: rest) D :=
  ss_if ht h1 fun h => ss_nil (h2 h)
/-- the slots' description weakened -/
theorem ss_le {Γ' : List Sl} {sts : List Stmt} (l : Le Γ Γ') (h : Ss X c W Γ' sts D) : Ss X c W Γ sts D := fun _ _ σ Hf H g DD k => h _ _ σ Hf H (g.le l) DD k
theorem ss_mono {sts : List Stmt} {D' : En} (h : Ss X c W Γ sts D') (h1 : ∀ Γ', D'.nx Γ' → D.nx Γ') (h2 : ∀ Γ', D'.bk Γ' → D.bk Γ') (h3 : ∀ Γ', D'.ct Γ' → D.ct Γ') (h4 : ∀ p Γ', D'.rt p Γ' → D.rt p Γ') (h5 : ∀ x Γ', D'.ex x Γ' → D.ex x Γ') (h6 : ∀ p n Γ', D'.rn p n Γ' → D.rn p n Γ' := by exact fun _ _ _ q => q) (h7 : ∀ b Γ', D'.ro b Γ' → D.ro b Γ' := by exact fun _ _ q => q) : Ss X c W Γ sts D := fun _ _ σ Hf H g DD k =>
  h _ _ σ Hf H g DD ⟨fun a b e f q => k.nx a b e f (h1 _ q), fun a b e f q => k.bk a b e f (h2 _ q), fun a b e f q => k.ct a b e f (h3 _ q), fun a b e f g' i q => k.rt a b e f g' i (h4 _ _ q), fun a b e f g' i j q => k.ex a b e f g' i j (h5 _ _ q), fun p n a b e f q => k.rn p n a b e f (h6 _ _ _ q), fun p a b e f g' i q => k.ro p a b e f g' i (h7 _ _ q)⟩
/-- for, with what holds between two turns -/
theorem ss_for {tg iter : Expr} {body : List Stmt} {α : Type} [Rp α] {xs : List α} {ts : List Nat} (gf : α → List Sl → List Sl) (P : Nat → List Sl → Prop) (M : List Sl → Prop) (hp : PassesOwn (model X.prog X.w) X.A X.env X.xe) (hc : X.calm = true) (hi : I X c Γ tg iter xs) (h0 : P 0 Γ)
    (hs : ∀ i x Γ', xs[i]? = some x → P i Γ' → G X c tg x ts (gf x) ∧ Ss X c W (gf x Γ') body { nx := P (i + 1), rt := D.rt, bk := M, ct := P (i + 1), ex := D.ex, rn := D.rn, ro := D.ro })
    (hd : ∀ Γ', P xs.length Γ' → Ss X c W Γ' rest D) (hb : ∀ Γ', M Γ' → Ss X c W Γ' rest D) (hf : ∀ x, foldedSetIterable iter X.env x = pure x := by intro _; rfl) : Ss X c W Γ (.For tg iter body [] pos :: rest) D := fun H0f H0 σ Hf H g DD k => by
  refine ⟨_, pss_cons (ps_for hp hc pi_w pg_w pss_w hf) pss_w, hi _ _ σ Hf H g _ fun J Hf1 H1 s1 wk => ?_⟩
  refine ⟨fun i m σ2 H2 => m = xs.length - i ∧ i ≤ xs.length ∧ ∃ Γ2 Hf2, P i Γ2 ∧ Same Hf1 Hf2 ∧ EnvOk X.K c H0f H0 Hf2 H2 σ2 Γ2, ⟨xs.length, rfl, Nat.zero_le _, Γ, Hf1, h0, Same.refl _, g.step s1⟩, ?_⟩
  rintro i m σ2 H2 ⟨rfl, hil, Γ2, Hf2, p2, s2, g2⟩
  by_cases hlt : i < xs.length
  · refine .inr ⟨wk.go i H2 hlt (s2.trans g2.same), fun σ3 H3 => (i + 1) ≤ xs.length ∧ ∃ Γ3 Hf3, P (i + 1) Γ3 ∧ Same Hf1 Hf3 ∧ EnvOk X.K c H0f H0 Hf3 H3 σ3 Γ3, fun σ3 H3 h3 => ⟨xs.length - (i + 1), by omega, rfl, h3⟩, fun x H3 y => ?_⟩
    obtain ⟨Hf3, s3, a, ha, ra⟩ := wk.yld i Hf2 H2 x H3 s2 g2.same hlt y
    obtain ⟨hg, hb'⟩ := hs i a Γ2 ha p2
    have g3 := g2.step s3
    refine hg Γ2 _ _ σ2 Hf3 H3 g3 x ra _ fun σ4 g4 _ => hb' _ _ σ4 Hf3 H3 (g4 _ _ _ g3) _ ⟨fun Γ' σ' Hf' H' q s g' => ?_, fun Γ' σ' Hf' H' q s g' => ?_, fun Γ' σ' Hf' H' q s g' => ?_, fun p Γ' v σ' Hf' H' q s g' r => ?_, fun x cls dd σ' Γ' Hf' H' q s g' r => ?_, fun p n Γ' σ' Hf' H' q s g' => ?_, fun b Γ' v R σ' Hf' H' q s g' => ?_⟩
    · exact ⟨hlt, Γ', Hf', q, (s2.trans s3.f).trans s, g'⟩
    · exact hb Γ' q _ _ σ' Hf' H' g' DD (k.mono (((s1.f.trans s2).trans s3.f).trans s))
    · exact ⟨hlt, Γ', Hf', q, (s2.trans s3.f).trans s, g'⟩
    · exact k.rt p Γ' v σ' Hf' H' q (((s1.f.trans s2).trans s3.f).trans s) g' r
    · exact k.ex x cls dd σ' Γ' Hf' H' q (((s1.f.trans s2).trans s3.f).trans s) g' r
    · exact k.rn p n Γ' σ' Hf' H' q (((s1.f.trans s2).trans s3.f).trans s) g'
    · exact k.ro b Γ' v R σ' Hf' H' q (((s1.f.trans s2).trans s3.f).trans s) g'
  · have e : i = xs.length := by omega
    subst e
    exact .inl ⟨wk.stop H2 (s2.trans g2.same), hd Γ2 p2 _ _ σ2 Hf2 H2 g2 DD (k.mono (s1.f.trans s2))⟩
end
/-! ### lists that a def makes and changes -/
structure OwL (α : Type) : Type 1 where
  l : List α
instance {α : Type} [Rp α] : Ow (OwL α) where
  ow := fun K c Hf H R v b => ∃ p vs, v = .ref p ∧ R = [p] ∧ H p = some (.lst vs) ∧ RpL K c Hf vs b.l
  stay := fun s h ⟨p, vs, h1, h2, h3, h4⟩ => ⟨p, vs, h1, h2, by rw [h p (by rw [h2]; exact List.mem_cons_self)]; exact h3, h4.mono s⟩
  here := fun ⟨p, vs, h1, h2, h3, h4⟩ a ha => by rw [h2] at ha; rw [List.mem_singleton.mp ha]; exact ⟨_, h3, trivial⟩
abbrev o {α : Type} [Rp α] (xs : List α) : Sl := .own (OwL.mk xs)
section
variable {X : Cx} {c : CL} {Γ : List Sl} {W : WX} {D : En} {rest : List Stmt} {pos : Pos} {K : PySem.W.Frag} {H0f H0 Hf H : Hp} {σ : L2.St}
/-- new objects are owned in slot i -/
theorem EnvOk.adopt (g : EnvOk K c H0f H0 Hf H σ Γ) (i : Nat) {β : Type 1} [Ow β] {b : β} {v : V} {R' : List Addr} {H' : Hp} (s : Same H H') (hR : ∀ a ∈ R', H a = none) (h : ow K c Hf H' R' v b) : EnvOk K c H0f H0 Hf H' (σ.set i (some v)) (Γ.set i (.own b)) := by
  obtain ⟨h1, h2, R, h3, h4, h5⟩ := g
  have hn : ∀ j, ∀ a ∈ R j, a ∉ R' := fun j a ha z => by
    obtain ⟨_, _, o, e, _⟩ := h5 j a ha
    rw [hR a z] at e; cases e
  refine ⟨⟨h1.f, h1.h.trans s, h1.s.trans s, h1.d⟩, by rw [List.length_set, List.length_set, h2], fun j => if j = i then R' else R j, fun j o' s' a b' => ?_, fun j k hjk a ha hb => ?_, fun j a ha => ?_⟩
  · rcases set_get a with ⟨e1, e2⟩ | ⟨e1, e2⟩
    · rcases set_get b' with ⟨f1, f2⟩ | ⟨f1, f2⟩
      · subst e2 f2
        simp only [if_pos e1]
        exact ⟨v, rfl, h⟩
      · exact absurd e1 f1
    · rcases set_get b' with ⟨f1, f2⟩ | ⟨f1, f2⟩
      · exact absurd f1 e1
      · simp only [if_neg e1]
        have q := h3 j o' s' e2 f2
        cases s' with
        | any => trivial
        | dat p => exact q
        | @own _ io b =>
          obtain ⟨w, e1, e2⟩ := q
          refine ⟨w, e1, io.stay (Same.refl _) (fun a ha => ?_) e2⟩
          obtain ⟨_, _, o, g, _⟩ := h5 j a ha
          rw [g, s _ _ g]
  · by_cases q1 : j = i
    · by_cases q2 : k = i
      · exact hjk (q1.trans q2.symm)
      · simp only [if_pos q1, if_neg q2] at ha hb
        exact hn k a hb ha
    · by_cases q2 : k = i
      · simp only [if_neg q1, if_pos q2] at ha hb
        exact hn j a ha hb
      · simp only [if_neg q1, if_neg q2] at ha hb
        exact h4 j k hjk a ha hb
  · by_cases q1 : j = i
    · simp only [if_pos q1] at ha
      exact ⟨h1.h.free (hR a ha), h1.s.free (hR a ha), Ow.here h a ha⟩
    · simp only [if_neg q1] at ha
      obtain ⟨g1, g2, o', g3, g4⟩ := h5 j a ha
      exact ⟨g1, g2, o', s a o' g3, g4⟩
/-- an owned object is frozen -/
theorem EnvOk.freeze (g : EnvOk K c H0f H0 Hf H σ Γ) {i : Nat} {β : Type 1} [Ow β] {b : β} (hi : Γ[i]? = some (.own b)) {α : Type} [Rp α] {x : α} (fz : ∀ R v, ow K c Hf H R v b → Same Hf (fun a => if a ∈ R then H a else Hf a) → rp K c (fun a => if a ∈ R then H a else Hf a) v x) :
    ∃ Hf', Same Hf Hf' ∧ EnvOk K c H0f H0 Hf' H σ (Γ.set i (d x)) := by
  obtain ⟨h1, h2, R, h3, h4, h5⟩ := g
  have hlt : i < Γ.length := (List.getElem?_eq_some_iff.mp hi).1
  have hs : σ[i]? = some σ[i] := List.getElem?_eq_getElem (by omega)
  obtain ⟨v, e1, e2⟩ := h3 i _ _ hs hi
  have sf : Same Hf (fun a => if a ∈ R i then H a else Hf a) := fun a o e => by
    have z : a ∉ R i := fun z => by rw [(h5 i a z).2.1] at e; cases e
    simp only [if_neg z]; exact e
  refine ⟨_, sf, ⟨⟨h1.f.trans sf, h1.h, fun a o e => ?_, fun a o e1 e2 n => ?_⟩, by rw [List.length_set, h2], fun j => if j = i then [] else R j, fun j o s a b' => ?_, fun j k hjk a ha hb => ?_, fun j a ha => ?_⟩⟩
  · by_cases z : a ∈ R i
    · simp only [if_pos z] at e; exact e
    · simp only [if_neg z] at e; exact h1.s a o e
  · have z : a ∉ R i := fun z => by rw [(h5 i a z).1] at e2; cases e2
    simp only [if_neg z]; exact h1.d a o e1 e2 n
  · rcases set_get b' with ⟨f1, f2⟩ | ⟨f1, f2⟩
    · subst f1 f2
      simp only [if_pos]
      rw [hs] at a
      obtain rfl := Option.some.inj a
      exact ⟨v, e1, fz _ _ e2 sf⟩
    · simp only [if_neg f1]
      have q := h3 j o s a f2
      cases s with
      | any => trivial
      | dat p =>
        obtain ⟨u, u1, u2⟩ := q
        exact ⟨u, u1, p.i.mono sf u2⟩
      | @own _ io b =>
        obtain ⟨u, u1, u2⟩ := q
        exact ⟨u, u1, io.stay sf (fun _ _ => rfl) u2⟩
  · by_cases q1 : j = i
    · simp only [if_pos q1] at ha; cases ha
    · by_cases q2 : k = i
      · simp only [if_pos q2] at hb; cases hb
      · simp only [if_neg q1, if_neg q2] at ha hb
        exact h4 j k hjk a ha hb
  · by_cases q1 : j = i
    · simp only [if_pos q1] at ha; cases ha
    · simp only [if_neg q1] at ha
      obtain ⟨g1, g2, g3⟩ := h5 j a ha
      refine ⟨g1, ?_, g3⟩
      simp only [if_neg (fun z => h4 j i q1 a ha z : a ∉ R i)]
      exact g2
theorem ss_newL (i : Nat) (α : Type) [Rp α] {x : Str} {pos' p2 : Pos} (hN : X.N.Nodup) (hr : Ss X c W (Γ.set i (o ([] : List α))) rest D) (hi : X.N[i]? = some x := by rfl) (hx : Loc X.env.scope x := by first | exact .inl rfl | exact .inr rfl)
    (hs : swapsWith (.List [] p2) (some (.Name x pos')) pos.line X.env = pure false := by rfl) (hf : X.fn x = true ∨ X.env.scope.names.lookup x = some .local := by first | exact .inl rfl | exact .inr rfl) : Ss X c W Γ (.Assign [.Name x pos'] (.List [] p2) pos :: rest) D := fun _ _ σ Hf H g DD k =>
  ⟨_, pss_cons (ps_set hN hi hx (pe_lst pa_nil) hs hf) pss_w, Nat.zero_le _, fun p hp => hr _ _ _ Hf _ (g.adopt (R' := [p]) i (same_new hp) (fun a ha => by rw [List.mem_singleton.mp ha]; exact hp) ⟨p, [], rfl, rfl, upd_same, .nil⟩) DD k⟩
/-- x.append(e) of an owned list -/
theorem ss_app (i : Nat) {x : Str} {e : Expr} {p1 p2 p3 : Pos} {α : Type} [Rp α] {xs : List α} {v : α} (hΓ : Γ[i]? = some (o xs)) (h : E X c Γ e v) (hl : xs.length < 1000000) (hr : Ss X c W (Γ.set i (o (xs ++ [v]))) rest D) (hN : X.N[i]? = some x := by rfl)
    (hv : Vis X.env.scope x := by first | exact Or.inl rfl | exact Or.inr (Or.inl rfl) | exact Or.inr (Or.inr rfl)) (hd : (x == ("__debug__" : Str)) = false := by decide) (hcd : (x == ("__classdict__" : Str)) = false := by decide)
    (hst : starEach [e] X.env = (false, eval e X.env) :: starEach [] X.env := by rfl) (hpe : PE X (.Call (.Attribute (.Name x p1) "append" p2) [e] [] p3) (tBM X.K "list" rAppend (tVar i) (tCons (wE X e) tNil)) := by exact pe_bm PySem.F.plainAttrs_list PySem.F.slot_list_append PySem.F.type_list_append mt_append (pv _) (pa_cons pe_w pa_nil))
    (hs : swapsWith (.Call (.Attribute (.Name x p1) "append" p2) [e] [] p3) none pos.line X.env = pure false := by rfl) : Ss X c W Γ (.Expr (.Call (.Attribute (.Name x p1) "append" p2) [e] [] p3) pos :: rest) D := fun _ _ σ Hf H g DD k => by
  refine ⟨_, pss_cons (ps_expr hpe hs) pss_w, ?_⟩
  obtain ⟨_, _, e1, ⟨p, vs, rfl, _, e3, _⟩, _⟩ := g.own hΓ
  refine ⟨.ref p, e1, .inl ⟨rfl, _, SqL.of e3⟩, h _ _ σ Hf H g _ fun w Hf1 H1 s1 r1 => ?_⟩
  obtain ⟨R, v2, e1', ⟨p', vs', rfl, rfl, e3', e4'⟩, hR, up⟩ := (g.step s1).own hΓ
  rw [e1] at e1'
  cases e1'
  refine ⟨p, vs', w, rfl, rfl, e3', by rw [e4'.len]; exact Nat.lt_of_lt_of_le hl (by decide), ?_⟩
  refine hr _ _ σ Hf1 _ (up (OwL α) _ ⟨xs ++ [v]⟩ [p] _ (fun a o' ha hn => ?_) (fun a ha => .inl ha) ⟨p, vs' ++ [w], rfl, rfl, upd_same, ?_⟩) DD (k.mono s1.f)
  · rw [upd_ne fun z => hn (by rw [z]; exact List.mem_cons_self)]; exact ha
  · exact paired_append e4' (.cons r1 .nil)
theorem ss_freezeL (i : Nat) {sts : List Stmt} {α : Type} [Rp α] {xs : List α} (hΓ : Γ[i]? = some (o xs)) (h : Ss X c W (Γ.set i (d xs)) sts D) : Ss X c W Γ sts D := fun _ _ σ Hf H g DD k => by
  obtain ⟨Hf', s, g'⟩ := g.freeze hΓ (α := List α) (x := xs) (by
    rintro R v ⟨p, vs, h1, h2, h3, h4⟩ sf
    exact ⟨p, vs, h1, .inl (.inl (by simp only [h2, List.mem_singleton, if_pos]; exact h3)), h4.mono sf⟩)
  exact h _ _ σ Hf' H g' DD (k.mono s)
end
end Pv
namespace Pv
open Rp (rp)
open Ow (ow)
open PySem L2
/-! ### defs -/
/-- what a def promises that raises nothing: with arguments ps it gives r, and only makes objects -/
def fsp (K : PySem.W.Frag) (c : CL) (R : List Pk → Pk → Prop) : Sp := fun vs H Q _ => ∃ (Hf : Hp) (ps : List Pk) (r : Pk), Same Hf H ∧ PkL K c Hf vs ps ∧ R ps r ∧ ∀ v Hf' H', Stp Hf H Hf' H' → r.i.rp K c Hf' v r.a → Q v H'
/-- a def of the module as its callers see it -/
structure Df (P : Program) (w : World) (K : PySem.W.Frag) (mg : Str → Option Value) (base : Heap) (c : CL) (x : Str) (k : Nat) (R : List Pk → Pk → Prop) : Prop where
  ex : ∃ (f : Addr) (fd : FuncData) (ps : List Str), FnOk P w K mg base CX0 k f fd ps (fsp K c R) ∧ mg x = some (.ref f) ∧ PySem.W.keepIn K (.ref f) = true ∧ Binds K fd ps []
section
variable {P : Program} {w : World} {K : PySem.W.Frag} {mg : Str → Option Value} {base : Heap} {c : CL}
/-- the slots at a def's start -/
def slots : List Pk → Nat → List Sl
  | [], n => List.replicate n .any
  | p :: ps, n => .dat p :: slots ps (n - 1)
theorem slots_len : ∀ {ps : List Pk} {n : Nat}, ps.length ≤ n → (slots ps n).length = n
  | [], n, _ => List.length_replicate
  | p :: ps, 0, h => by simp at h
  | p :: ps, n + 1, h => by
    show (slots ps n).length + 1 = n + 1
    rw [slots_len (by simpa using h)]
theorem slots_get : ∀ {ps : List Pk} {n i : Nat} {s : Sl}, (slots ps n)[i]? = some s → s = .any ∨ ∃ p, ps[i]? = some p ∧ s = .dat p
  | [], n, i, s, h => by
    unfold slots at h
    rw [List.getElem?_replicate] at h
    split at h
    · exact .inl (Option.some.inj h).symm
    · cases h
  | p :: ps, n, 0, s, h => .inr ⟨p, rfl, (Option.some.inj h).symm⟩
  | p :: ps, n, i + 1, s, h => by
    rcases slots_get (ps := ps) (n := n - 1) (i := i) h with q | ⟨p', q1, q2⟩
    · exact .inl q
    · exact .inr ⟨p', q1, q2⟩
theorem pkl_get {H : Hp} {vs : List V} {ps : List Pk} (r : PkL K c H vs ps) : ∀ {i : Nat} {p : Pk}, ps[i]? = some p → ∃ v, vs[i]? = some v ∧ p.i.rp K c H v p.a := by
  induction r with
  | nil => intro i p h; simp at h
  | cons h t ih =>
    intro i p e
    cases i with
    | zero => obtain rfl := Option.some.inj e; exact ⟨_, rfl, h⟩
    | succ i => exact ih (by simpa using e)
theorem env_start {Hf H : Hp} {N : List Str} {vs : List V} {ps : List Pk} (s : Same Hf H) (r : PkL K c Hf vs ps) (hl : ps.length ≤ N.length) : EnvOk K c Hf H Hf H (L2.start N vs) (slots ps N.length) := by
  refine ⟨Stp.refl s, ?_, fun _ => [], fun i o sl a b => ?_, fun i j _ a ha => absurd ha (by simp), fun i a ha => absurd ha (by simp)⟩
  · rw [slots_len hl]; unfold L2.start; rw [List.length_append, List.length_map, List.length_replicate, r.len]; omega
  · rcases slots_get b with rfl | ⟨p, q1, rfl⟩
    · trivial
    · obtain ⟨v, h1, h2⟩ := pkl_get r q1
      have hi : i < (vs.map some).length := by rw [List.length_map]; exact (List.getElem?_eq_some_iff.mp h1).1
      unfold L2.start at a
      rw [List.getElem?_append_left hi, List.getElem?_map, h1] at a
      exact ⟨v, (Option.some.inj a).symm, h2⟩
/-- THE RULE for a def that raises nothing -/
theorem def_ok {x qual : Str} {st : Stmt} {f : Addr} {fd : FuncData} {N ps : List Str} {k : Nat} {R : List Pk → Pk → Prop} (F : Fun K x qual st f fd) (S : FnScope N ps (defScope st)) (hl : ∀ as r, R as r → as.length = ps.length) (hN : ps.length ≤ N.length)
    (hb : ∀ (cdv : Value) (A : Around) (outer : List Env) (s : Shared) (H : Hp) (E : XK) (as : List Pk) (r : Pk), Room k (A.deeper (PyProof.Rows.envOfC qual (defScope st) s.heap.objs.size f cdv)) → R as r →
      Ss (cxOf CX0 P w K mg base N qual (defScope st) f cdv A outer s H E).nox c E1 (slots as N.length) (defBody st) { nx := fun _ => r = ⟨()⟩, rt := fun p _ => p = r }) : FnOk P w K mg base CX0 (k + 1) f fd ps (fsp K c R) := by
  refine F.ok S (fun vs H Q E ⟨Hf, as, r, h1, h2, h3, h4⟩ => by rw [h2.len, hl _ _ h3]) fun cdv A outer s H vs Q E hr ⟨Hf, as, r, h1, h2, h3, h4⟩ => ?_
  refine hb cdv A outer s H E as r hr h3 Hf H (L2.start N vs) Hf H (env_start h1 h2 (by rw [hl _ _ h3]; exact hN)) _ ⟨fun Γ' σ' Hf' H' q s g => ?_, fun _ _ _ _ q => q.elim, fun _ _ _ _ q => q.elim, fun p Γ' v σ' Hf' H' q s g z => ?_, fun _ _ _ _ _ _ _ q => q.elim, fun _ _ _ _ _ _ q => q.elim, fun _ _ _ _ _ _ _ q => q.elim⟩
  · have q : r = ⟨()⟩ := q
    subst q
    exact h4 _ _ _ g.stp rfl
  · have q : p = r := q
    subst q
    exact h4 _ _ _ g.stp z
theorem Df.mk' {x y qual : Str} {st : Stmt} {f : Addr} {fd : FuncData} {ps : List Str} {k : Nat} {R : List Pk → Pk → Prop} (F : Fun K x qual st f fd) (h : FnOk P w K mg base CX0 k f fd ps (fsp K c R)) (hm : mg y = some (.ref f)) (hb : Binds K fd ps []) : Df P w K mg base c y k R := ⟨f, fd, ps, h, hm, F.kp, hb⟩
end
section
variable {X : Cx} {c : CL} {Γ : List Sl} {e : Expr} {es : List Expr} {pos p0 : Pos}
theorem e_call {x : Str} {k : Nat} {R : List Pk → Pk → Prop} {as : List Pk} {α : Type} [Rp α] {z : α} (h : Df X.prog X.w X.K X.mg X.base c x k R) (hr : Room k X.A) (ha : As X c Γ (e :: es) as) (hR : R as ⟨z⟩) (hg : Gl X x := by rfl) (hdb : (x == ("__debug__" : Str)) = false := by decide)
    (he : starEach (e :: es) X.env = (false, eval e X.env) :: starEach es X.env := by rfl) (hpl : (backTo pos (starEach es X.env)).any (·.1) = false := by rfl) : E X c Γ (.Call (.Name x p0) (e :: es) [] pos) z := fun _ _ σ Hf H g Q q => by
  obtain ⟨f, fd, ps, hF, hm, hk, hb⟩ := h
  refine ⟨_, pe_call hF hr hg hm hk hb .nil pass0 pa_w hdb he hpl, ha _ _ σ Hf H g _ fun vs Hf1 H1 s1 r1 => ?_⟩
  rw [List.append_nil]
  exact ⟨Hf1, as, ⟨z⟩, s1.s, r1, hR, fun v Hf2 H2 s2 r2 => q v Hf2 H2 (s1.trans s2) r2⟩
theorem e_call0 {x : Str} {k : Nat} {R : List Pk → Pk → Prop} {α : Type} [Rp α] {z : α} (h : Df X.prog X.w X.K X.mg X.base c x k R) (hr : Room k X.A) (hR : R [] ⟨z⟩) (hg : Gl X x := by rfl) (hdb : (x == ("__debug__" : Str)) = false := by decide) : E X c Γ (.Call (.Name x p0) [] [] pos) z := fun _ _ σ Hf H g Q q => by
  obtain ⟨f, fd, ps, hF, hm, hk, hb⟩ := h
  exact ⟨_, pe_call0 hF hr hg hm hk hb .nil pass0 hdb, Hf, [], ⟨z⟩, g.same, .nil, hR, fun v Hf2 H2 s2 r2 => q v Hf2 H2 s2 r2⟩
end
end Pv
namespace Pv
open Rp (rp)
open Ow (ow)
open PySem L2
theorem Le.d {α : Type} [Rp α] {a b : α} {Γ Γ' : List Sl} (e : a = b) (h : Le Γ Γ') : Le (Pv.d a :: Γ) (Pv.d b :: Γ') := e ▸ .same h
theorem Le.o {α : Type} [Rp α] {a b : List α} {Γ Γ' : List Sl} (e : a = b) (h : Le Γ Γ') : Le (Pv.o a :: Γ) (Pv.o b :: Γ') := e ▸ .same h
theorem Le.set {Γ Γ' : List Sl} (h : Le Γ Γ') : ∀ (i : Nat) (s : Sl), Le (Γ.set i s) (Γ'.set i s) := by
  induction h with
  | nil => intro i s; exact .nil
  | @same s0 _ _ h ih =>
    intro i s
    cases i with
    | zero => exact .same h
    | succ i => exact .same (ih i s)
  | @any s0 _ _ h ih =>
    intro i s
    cases i with
    | zero => exact .same h
    | succ i => exact .any (ih i s)
theorem Le.trans {A B C : List Sl} (h : Le A B) (h' : Le B C) : Le A C := by
  induction h generalizing C with
  | nil => exact h'
  | same h ih =>
    cases h' with
    | same h' => exact .same (ih h')
    | any h' => exact .any (ih h')
  | any h ih =>
    cases h' with
    | same h' => exact .any (ih h')
    | any h' => exact .any (ih h')
section
variable {X : Cx} {c : CL} {Γ : List Sl} {W : WX} {D : En} {rest : List Stmt} {pos : Pos}
/-- for, the slots between two turns given by F -/
theorem ss_forF {tg iter : Expr} {body : List Stmt} {α : Type} [Rp α] {xs : List α} {ts : List Nat} {gf : α → List Sl → List Sl} (F : Nat → List Sl) (hp : PassesOwn (model X.prog X.w) X.A X.env X.xe) (hc : X.calm = true) (hi : I X c Γ tg iter xs) (hg : ∀ x, G X c tg x ts (gf x)) (h0 : Le Γ (F 0))
    (hs : ∀ i x, xs[i]? = some x → Ss X c W (gf x (F i)) body { nx := fun Γ' => Le Γ' (F (i + 1)), rt := D.rt, ct := fun Γ' => Le Γ' (F (i + 1)), ex := D.ex, rn := D.rn, ro := D.ro })
    (hd : Ss X c W (F xs.length) rest D) (hm : ∀ x A B, Le A B → Le (gf x A) (gf x B) := by intro x A B h; first | exact h.set _ _ | exact (h.set _ _).set _ _ | exact ((h.set _ _).set _ _).set _ _) (hf : ∀ x, foldedSetIterable iter X.env x = pure x := by intro _; rfl) : Ss X c W Γ (.For tg iter body [] pos :: rest) D :=
  ss_for gf (fun i Γ' => Le Γ' (F i)) (fun _ => False) hp hc hi h0 (fun i x Γ' hx hl => ⟨hg x, ss_le (hm x _ _ hl) (hs i x hx)⟩) (fun Γ' hl => ss_le hl hd) (fun _ h => h.elim) hf
end
end Pv
/-! Operators, len, in, [] of the program's own classes -/
namespace Pv
open Rp (rp)
open Ow (ow)
open PySem L2
section
variable {X : Cx} {pins : List (Addr × Obj)} {σ : L2.St} {H : Hp} {s : Shared} {CI : CXT} {C f : Addr} {fd : FuncData} {ps : List Str} {sp : Sp} {EE : XK} {n : Nat}
theorem own_run {A : Around} {us : List Value} {vs : List V} {Q : VK} (sb : Sub X n A) (F : FnOk X.prog X.w X.K X.mg X.base CI n f fd ps sp) (hb : Binds X.K fd ps []) (hx : Passes CI X EE) (I : L2.Inv X pins σ H s) (r : Vals vs us) (h : sp vs H Q EE) :
    wpAny (model X.prog X.w) A (call (.ref f) us) (EP X pins σ Q) X.xe s := by
  have e0 : Env0 X.prog X.w X.K X.mg X.base A X.stack s H := by
    have e := I.env0
    exact { e with frames := by rw [sb.fr]; exact e.frames }
  have hl : us.length = ps.length := by rw [← r.length]; exact F.len _ _ _ _ h
  have hb' := hb s us I.kIn (by simpa using hl)
  rw [List.append_nil] at hb'
  refine wpAny_call (codeAny_mono (F.run A X.stack s H ⟨us, []⟩ us vs Q EE sb.room e0 hb' r h) fun r s' hq => ?_)
  cases r with
  | error e => exact hx pins σ H s e s' I hq
  | ok fl =>
    cases fl with
    | ret w => exact I.after hq
    | next => exact False.elim hq
    | brk => exact False.elim hq
    | cont => exact False.elim hq
theorem relv_ni {v : V} {u : Value} (r : RelV v u) : u ≠ .notImplemented := by
  cases v <;> first | (obtain ⟨t, rfl⟩ := r; exact fun z => nomatch z) | (cases r; exact fun z => nomatch z)
/-- o op y, both of the class at C, by its own method -/
def rOwn2 (C : Addr) (sp : Sp) (EE : XK) : R2 := fun x y H Q => ∃ p q dx fs dy gs, x = .ref p ∧ y = .ref q ∧ H p = some (.ins C dx fs) ∧ H q = some (.ins C dy gs) ∧ sp [x, y] H Q EE
theorem op_own {op : Operator} (F : FnOk X.prog X.w X.K X.mg X.base CI n f fd ps sp) (hb : Binds X.K fd ps []) (hx : Passes CI X EE) (hr : Room n X.A) (hc : PySem.W.selfFirst X.K C = true)
    (hs : PySem.W.findIn X.K (.ref C) (PySem.dunder op.info.2) = some (some (.ref f))) (hf : PySem.W.isFn X.K (.ref f) = true) : OpR X (binaryOp op) (rOwn2 C sp EE) := by
  intro pins s σ H x y v u Q I rx ry h
  obtain ⟨p, q, dx, fs, dy, gs, rfl, rfl, hp, hq, h⟩ := h
  cases rx
  cases ry
  obtain ⟨mA, J, _⟩ := ins_get I.hok hp
  obtain ⟨mB, J', _⟩ := ins_get I.hok hq
  obtain ⟨od, J, _⟩ := J.look
  obtain ⟨od', J', _⟩ := J'.look
  obtain ⟨m, hF⟩ := I.fr
  refine PySem.W.binop_K hF I.ok.mod.kin J J'.type hc hs hf (thn (run_fn (us := [.ref p, .ref q]) (vs := [.ref p, .ref q]) F hr hb .nil hx I (.cons rfl (.cons rfl .nil)) h) fun w s' hw => ?_)
  obtain ⟨v, H', I', rv, q'⟩ := hw
  have hni := relv_ni rv
  cases w <;> first | exact absurd rfl hni | exact ⟨v, H', I', rv, q'⟩
/-- o op= y by the class's own in-place method -/
def rOwnI (C : Addr) (sp : Sp) (EE : XK) : R2 := fun x y H Q => ∃ p dx fs, x = .ref p ∧ H p = some (.ins C dx fs) ∧ sp [x, y] H Q EE
theorem iop_own {op : Operator} (F : FnOk X.prog X.w X.K X.mg X.base CI n f fd ps sp) (hb : Binds X.K fd ps []) (hx : Passes CI X EE) (hr : Room n X.A) (hc : PySem.W.selfFirst X.K C = true)
    (hs : PySem.W.findIn X.K (.ref C) (PySem.dunderI op.info.2) = some (some (.ref f))) (hf : PySem.W.isFn X.K (.ref f) = true) : OpR X (inplaceOp op) (rOwnI C sp EE) := by
  intro pins s σ H x y v u Q I rx ry h
  obtain ⟨p, dx, fs, rfl, hp, h⟩ := h
  cases rx
  obtain ⟨mA, J, _⟩ := ins_get I.hok hp
  obtain ⟨od, J, _⟩ := J.look
  obtain ⟨m, hF⟩ := I.fr
  refine PySem.W.ksp_inplace hF I.ok.mod.kin J hc hs hf (thn (run_fn (us := [.ref p, u]) (vs := [.ref p, y]) F hr hb .nil hx I (.cons rfl (.cons ry .nil)) h) fun w s' hw => ?_)
  obtain ⟨v, H', I', rv, q'⟩ := hw
  have hni := relv_ni rv
  cases w <;> first | exact absurd rfl hni | exact ⟨v, H', I', rv, q'⟩
/-- o < y, o <= y, o == y by the class's own method; y of a type that can't come first -/
def rOwnC (K : PySem.W.Frag) (C : Addr) (sp : Sp) (EE : XK) : R2 := fun x y H Q => ∃ p dx fs t, x = .ref p ∧ H p = some (.ins C dx fs) ∧ TyX K H y t ∧ PySem.W.notFirst K C t = true ∧ sp [x, y] H Q EE
theorem cop_own {op : CmpOp} (F : FnOk X.prog X.w X.K X.mg X.base CI n f fd ps sp) (hb : Binds X.K fd ps []) (hx : Passes CI X EE) (hr : Room n X.A) (hco : ∀ a b, compareOp op a b = richCompare op a b)
    (hty : ∀ (y : V) (t u : Value) (H : Hp) (s : Shared) (pins : List (Addr × Obj)) (σ : L2.St), L2.Inv X pins σ H s → RelV y u → TyX X.K H y t → PySem.W.Looks (model X.prog X.w) s.heap (typeOf u) t)
    (hs : PySem.W.findIn X.K (.ref C) (cmpInfo op).2.1 = some (some (.ref f))) (hf : PySem.W.isFn X.K (.ref f) = true) : OpR X (compareOp op) (rOwnC X.K C sp EE) := by
  intro pins s σ H x y v u Q I rx ry h
  obtain ⟨p, dx, fs, t, rfl, hp, ht, hn, h⟩ := h
  cases rx
  obtain ⟨mA, J, _⟩ := ins_get I.hok hp
  obtain ⟨od, J, _⟩ := J.look
  obtain ⟨m, hF⟩ := I.fr
  rw [hco]
  refine PySem.W.cmp_K hr.units0 hF I.ok.mod.kin J (hty y t u H s pins σ I ry ht) hn hs hf (thn (run_fn (us := [.ref p, u]) (vs := [.ref p, y]) F hr hb .nil hx I (.cons rfl (.cons ry .nil)) h) fun w s' hw => ?_)
  obtain ⟨v, H', I', rv, q'⟩ := hw
  have hni := relv_ni rv
  cases w <;> first | exact absurd rfl hni | exact ⟨v, H', I', rv, q'⟩
/-- y in o, y not in o -/
def rOwnIn (C : Addr) (sp : Sp) (EE : XK) (neg : Bool) : R2 := fun x y H Q => ∃ p dx fs, y = .ref p ∧ H p = some (.ins C dx fs) ∧ sp [y, x] H (fun v H' => ∃ b, v = .bl b ∧ Q (.bl (if neg then !b else b)) H') EE
theorem op_ownIn (F : FnOk X.prog X.w X.K X.mg X.base CI n f fd ps sp) (hb : Binds X.K fd ps []) (hx : Passes CI X EE) (hr : Room n X.A)
    (hs : PySem.W.findIn X.K (.ref C) "__contains__" = some (some (.ref f))) (hf : PySem.W.isFn X.K (.ref f) = true) : OpR X (compareOp .In) (rOwnIn C sp EE false) := by
  intro pins s σ H x y v u Q I rx ry h
  obtain ⟨p, dx, fs, rfl, hp, h⟩ := h
  cases ry
  obtain ⟨mA, J, _⟩ := ins_get I.hok hp
  obtain ⟨od, J, _⟩ := J.look
  obtain ⟨m, hF⟩ := I.fr
  refine PySem.W.in_K hF I.ok.mod.kin J hs hf (thn (run_fn (us := [.ref p, v]) (vs := [.ref p, x]) F hr hb .nil hx I (.cons rfl (.cons rx .nil)) h) fun w s' hw => ?_)
  obtain ⟨v, H', I', rv, b, rfl, q'⟩ := hw
  cases rv
  exact wpAny_truthy_bool ⟨.bl b, H', I', rfl, q'⟩
theorem op_ownNotIn (F : FnOk X.prog X.w X.K X.mg X.base CI n f fd ps sp) (hb : Binds X.K fd ps []) (hx : Passes CI X EE) (hr : Room n X.A)
    (hs : PySem.W.findIn X.K (.ref C) "__contains__" = some (some (.ref f))) (hf : PySem.W.isFn X.K (.ref f) = true) : OpR X (compareOp .NotIn) (rOwnIn C sp EE true) := by
  intro pins s σ H x y v u Q I rx ry h
  obtain ⟨p, dx, fs, rfl, hp, h⟩ := h
  cases ry
  obtain ⟨mA, J, _⟩ := ins_get I.hok hp
  obtain ⟨od, J, _⟩ := J.look
  obtain ⟨m, hF⟩ := I.fr
  refine PySem.W.notIn_K hF I.ok.mod.kin J hs hf (thn (run_fn (us := [.ref p, v]) (vs := [.ref p, x]) F hr hb .nil hx I (.cons rfl (.cons rx .nil)) h) fun w s' hw => ?_)
  obtain ⟨v, H', I', rv, b, rfl, q'⟩ := hw
  cases rv
  exact wpAny_truthy_bool ⟨.bl (!b), H', I', rfl, q'⟩
/-- len(o) -/
def rOwnLen (C : Addr) (sp : Sp) (EE : XK) : List V → Hp → VK → Prop := fun xs H Q => ∃ p dx fs, xs = [.ref p] ∧ H p = some (.ins C dx fs) ∧ sp [.ref p] H (fun v H' => ∃ i, v = .int i ∧ 0 ≤ i ∧ i < 9223372036854775808 ∧ Q (.int i) H') EE
theorem call_ownLen (F : FnOk X.prog X.w X.K X.mg X.base CI n f fd ps sp) (hb : Binds X.K fd ps []) (hx : Passes CI X EE) (hr : Room (n + 1) X.A)
    (hs : PySem.W.findIn X.K (.ref C) "__len__" = some (some (.ref f))) (hf : PySem.W.isFn X.K (.ref f) = true) : CallR X (.builtin "len") (rOwnLen C sp EE) := by
  intro pins s σ H xs us Q I r h
  obtain ⟨p, dx, fs, rfl, hp, h⟩ := h
  obtain ⟨u, rfl, ru⟩ := vals1 r
  cases ru
  obtain ⟨mA, J, _⟩ := ins_get I.hok hp
  obtain ⟨od, J, _⟩ := J.look
  obtain ⟨m, hF⟩ := I.fr
  refine PySem.W.len_K hF I.ok.mod.kin J hs hf (thn (own_run (n := n) (us := [.ref p]) (vs := [.ref p]) (Sub.in1 ⟨hr, rfl⟩) F hb hx I (.cons rfl .nil) h) fun w s' hw => ?_)
  obtain ⟨v, H', I', rv, i, rfl, h1, h2, q'⟩ := hw
  obtain ⟨t, rfl⟩ := rv
  exact ⟨⟨h1, h2⟩, .int i, H', I'.tok _, ⟨_, rfl⟩, q'⟩
/-- o[i] -/
theorem ix_own {a b : Expr} {ta tb : TE} {pos : Pos} (F : FnOk X.prog X.w X.K X.mg X.base CI n f fd ps sp) (hb : Binds X.K fd ps []) (hx : Passes CI X EE) (hr : Room (n + 1) X.A)
    (hs : PySem.W.findIn X.K (.ref C) "__getitem__" = some (some (.ref f))) (hfn : PySem.W.fnIn X.K f = true) (hf : PySem.W.isFn X.K (.ref f) = true) (ha : PE X a ta) (hb' : PE X b tb)
    (hsl : ∀ o i, subscripted b true o i = runValue (.builtin "lifetime.subscript" ⟨[o, i], []⟩)) : PE X (.Subscript a b pos) (tOp (rOwnI C sp EE) ta tb) := by
  refine ⟨fun pins s σ H Q I h => ?_⟩
  refine PyProof.Rows.Subscript_ (binT ha hb' I h fun v u s2 x y H2 I2 rx ry q => ?_)
  obtain ⟨p, dx, fs, rfl, hp, h⟩ := q
  cases rx
  obtain ⟨mA, J, _⟩ := ins_get I2.hok hp
  obtain ⟨od, J, _⟩ := J.look
  obtain ⟨m, hF⟩ := I2.fr
  exact PySem.W.sub_K hF I2.ok.mod.kin J hs hfn hf (own_run (n := n) (us := [.ref p, u]) (vs := [.ref p, y]) (Sub.in1 ⟨hr, rfl⟩) F hb hx I2 (.cons rfl (.cons ry .nil)) h) (hsl _ _)
/-- o[i] = v -/
def rOwnSet (C : Addr) (sp : Sp) (EE : XK) : TSet := fun o i v H Q => ∃ p dx fs, o = .ref p ∧ H p = some (.ins C dx fs) ∧ sp [o, i, v] H (fun _ H' => Q H') EE
theorem set_own (F : FnOk X.prog X.w X.K X.mg X.base CI n f fd ps sp) (hb : Binds X.K fd ps []) (hx : Passes CI X EE) (hr : Room n X.A) (hq : PySem.W.noSeq X.K C = true)
    (hs : PySem.W.findIn X.K (.ref C) "__setitem__" = some (some (.ref f))) (hf : PySem.W.isFn X.K (.ref f) = true) : PSet X (rOwnSet C sp EE) := by
  intro pins s σ H o i v ov iv u Q I ro ri rv h
  obtain ⟨p, dx, fs, rfl, hp, h⟩ := h
  cases ro
  obtain ⟨mA, J, _⟩ := ins_get I.hok hp
  obtain ⟨od, J, _⟩ := J.look
  obtain ⟨m, hF⟩ := I.fr
  refine PySem.W.ksp_setItem hF I.ok.mod.kin J hq hs hf (thn (run_fn (us := [.ref p, iv, u]) (vs := [.ref p, i, v]) F hr hb .nil hx I (.cons rfl (.cons ri (.cons rv .nil))) h) fun w s' hw => ?_)
  obtain ⟨v, H', I', rv, q'⟩ := hw
  exact ⟨H', I', q'⟩
end
end Pv
/-! Dict comprehensions whose keys are tuples of ints, and such dicts as values -/
namespace Pv
open Rp (rp)
open Ow (ow)
open PySem L2 PySem.Spec PyProof.Rows
/-- what a comprehension's new dict may be told as -/
theorem empty_ok {P : Program} {w : World} {H : Hp} {z : HO} (hz : z = .dK [] ∨ z = .dT []) (h : Heap) (hb : sysModules < h.objs.size) : ObjOk P w H (h.push { cls := .type "dict", data := .dict #[] }) h.objs.size z := by
  rcases hz with rfl | rfl
  · exact dk_empty h hb
  · exact dt_empty h hb
section
variable {X : Cx} {pins : List (Addr × Obj)} {σ : L2.St} {H : Hp} {s : Shared}
theorem dset_t {E : Value → Shared → Prop} {D b : Addr} {kvs : List (List Key × V)} {k : List Key} {v : V} {r : Value} {Q : Unit → Shared → Prop} (hu : X.A.units + 1 < cLine) (I : L2.Inv X pins σ H s) (hD : H D = some (.dT kvs)) (hb : H b = some (.tup (k.map kV)))
    (hz : kvs.length < sizeLine) (rv : RelV v r) (h : ∀ s', L2.Inv X pins σ (upd H D (.dT (putK kvs k v))) s' → Q () s') : wpAny (model X.prog X.w) X.A (dictSet D (.ref b) r) Q E s := by
  obtain ⟨n1, n2, ents, rel, dd⟩ := dt_of I.hok hD
  have m1 : ents.length ≤ sizeLine := by rw [← Paired.length rel]; exact n1
  have m2 : (putK kvs k v).length ≤ sizeLine := Nat.le_trans (length_putK kvs k v) hz
  refine wpAny_dictSet_heap (hsz := m1) (show X.A.units < cLine by omega) (key_of I.hok hb) dd fun hp' dd' same => h _ ?_
  obtain ⟨ob, es, ep, q1, q2, q3, q4, _, q5⟩ := dd'
  refine d_write I (by rw [hD]; trivial) same ⟨ob, q1⟩ ⟨m2, n2, _, (rel.put k hb rv).keeps fun c ys ec => ?_, ob, es, ep, q1, q2, q3, q4, q5⟩
  exact (upd_ne (ne_of ec hD fun z => nomatch z)).trans ec
/-- {k: v for ..}: what is stored is told by DPut; z0 tells the empty dict -/
def tDcT (z0 : HO) (wi : TI) (g : TG) (tt : TT) (tk tv : TE) (vs : List Nat) : TE := fun σ H Q => wi σ H fun J H1 => ∀ D, H1 D = none → ∃ W : Nat → Nat → Hp → Prop, (∃ m, W 0 m (upd H1 D z0)) ∧ ∀ i m H, W i m H →
  (J.stop i H ∧ Q (.ref D) H) ∨ (J.go i H ∧ ∃ Nx : Hp → Prop, (∀ H', Nx H' → ∃ m', m' < m ∧ W (i + 1) m' H') ∧ ∀ x H', J.yld i H x H' → g x (wipe σ vs) H' fun σ2 H2 => wipe σ2 vs = wipe σ vs ∧ tt σ2 H2 fun b H3 =>
    if b = true then tk σ2 H3 fun y H4 => tv σ2 H4 fun z H5 => ∃ kvs k a, y = .ref a ∧ H5 D = some (.dT kvs) ∧ H5 a = some (.tup (k.map kV)) ∧ kvs.length < sizeLine ∧ Nx (upd H5 D (.dT (putK kvs k z))) else Nx H3)
section
variable {kx vx tg iter : Expr} {ifs : List Expr} {scope : Scope} {own : List (Str × Nat)} {pos : Pos} {wi : TI} {g : TG} {tt : TT} {tk tv : TE} {fp : List Addr} {it : Addr} {tn : Nat → Heap → Prop} {J : It} {ce : Env} {s3 : Shared} {H3 : Hp} {D : Addr}
/-- the block's loop, in its own context Y -/
theorem dcT_loop {R : Result → Shared → Prop} {Q : Hp → Prop} {W : Nat → Nat → Hp → Prop} (hu : X.A.units + 1 < cLine) (hc : X.calm = true) (T : Turn X.prog X.w X.K tg J fp it tn)
    (pg : PG (X.blk s3 H3 scope ce fp) tg g) (pt : PTs (X.blk s3 H3 scope ce fp) ifs tt) (pk : PE (X.blk s3 H3 scope ce fp) kx tk) (pe : PE (X.blk s3 H3 scope ce fp) vx tv)
    (turn : ∀ i m H, W i m H → (J.stop i H ∧ Q H) ∨ (J.go i H ∧ ∃ Nx : Hp → Prop, (∀ H', Nx H' → ∃ m', m' < m ∧ W (i + 1) m' H') ∧ ∀ x H', J.yld i H x H' → g x (wipe σ (own.map (·.2))) H' fun σ2 H2 => wipe σ2 (own.map (·.2)) = wipe σ (own.map (·.2)) ∧ tt σ2 H2 fun b H3 =>
      if b = true then tk σ2 H3 fun y H4 => tv σ2 H4 fun z H5 => ∃ kvs k a, y = .ref a ∧ H5 D = some (.dT kvs) ∧ H5 a = some (.tup (k.map kV)) ∧ kvs.length < sizeLine ∧ Nx (upd H5 D (.dT (putK kvs k z))) else Nx H3))
    (hR : ∀ H' s', L2.Inv (X.blk s3 H3 scope ce fp) [] (wipe σ (own.map (·.2))) H' s' → Q H' → R (.ok .next) s')
    (m0 : Nat) (s4 : Shared) (H4 : Hp) (I4 : L2.Inv (X.blk s3 H3 scope ce fp) [] (wipe σ (own.map (·.2))) H4 s4) (st4 : tn 0 s4.heap) (n4 : ∀ b ∈ fp, H4 b = none) (w4 : W 0 m0 H4) :
    codeAny (model X.prog X.w) X.A (.compLoop (.DictComp kx vx [⟨tg, iter, ifs, 0⟩] scope pos) 0 (.ref it) (.ref D) ce) R s4 := by
  have ok : ∀ {σ' : L2.St} {H' : Hp} {s' : Shared}, L2.Inv (X.blk s3 H3 scope ce fp) [] σ' H' s' → (∀ b ∈ fp, H' b = none) → ∀ b ∈ fp, FpOk (X.blk s3 H3 scope ce fp) [] H' b := fun I' hn b hb =>
    ⟨hn b hb, (I'.ok.exf b hb).1, I'.ok.exfs b hb, .inl hb, fun x c e => (I'.ok.exf b hb).2 x c e, fun p hp => by cases hp⟩
  refine compLoop_anyD (fun n s' => ∃ i H', L2.Inv (X.blk s3 H3 scope ce fp) [] (wipe σ (own.map (·.2))) H' s' ∧ tn i s'.heap ∧ (∀ b ∈ fp, H' b = none) ∧ W i n H') (fun n s5 hs5 => ?_) m0 ⟨0, H4, I4, st4, n4, w4⟩
  obtain ⟨i, H5, I5, st5, n5, w5⟩ := hs5
  rcases turn i n H5 w5 with ⟨stop, qq⟩ | ⟨go, Nx, hNx, step⟩
  · refine thnF (T.done (X.blk s3 H3 scope ce fp) rfl rfl rfl hc i [] s5 _ H5 (fun _ _ => False) I5 (ok I5 n5) st5 stop) fun r s6 h6 => ?_
    obtain ⟨rfl, I6⟩ := h6
    exact hR H5 s6 I6 qq
  · refine thnF (T.item (X.blk s3 H3 scope ce fp) rfl rfl rfl hc i [] s5 _ H5 (fun _ _ => False) I5 (ok I5 n5) st5 go) fun r s6 h6 => ?_
    obtain ⟨u, rfl, h6⟩ := h6
    refine thnF h6 fun _ s7 h7 => ?_
    obtain ⟨x, H7, I7, r7, y7, st7, n7⟩ := h7
    have J7 := I7.pinned (ok I7 n7) (T.obj _ _ st7)
    refine thnF (pg.run _ s7 _ H7 x u _ J7 r7 (step x H7 y7)) fun _ s8 h8 => ?_
    obtain ⟨σ8, H8, I8, hw8, q8⟩ := h8
    refine thnF (pt.run _ s8 σ8 H8 _ I8 q8) fun b s9 h9 => ?_
    obtain ⟨H9, I9, q9⟩ := h9
    have fin : ∀ {s' : Shared} {H' : Hp}, L2.Inv (X.blk s3 H3 scope ce fp) ([] ++ pinsAt fp s7.heap) σ8 H' s' → Nx H' → ∃ m, m < n ∧ ∃ i H', L2.Inv (X.blk s3 H3 scope ce fp) [] (wipe σ (own.map (·.2))) H' s' ∧ tn i s'.heap ∧ (∀ b ∈ fp, H' b = none) ∧ W i m H' := by
      intro s' H' I' nx
      obtain ⟨m', hm, w'⟩ := hNx H' nx
      have pin' : ∀ b ∈ fp, ∀ o, s7.heap.get? b = some o → s'.heap.get? b = some o ∧ H' b = none := by
        intro b hb o e
        have z := I'.pin (b, o) (List.mem_append_right _ (List.mem_append_right _ (mem_pinsAt hb e)))
        exact ⟨z.1, z.2.1⟩
      refine ⟨m', hm, i + 1, H', (I'.unpinned (pins := [])).weak (by rw [← hw8, wipe_length]) (fun j v e => (wipe_some (hw8 ▸ e)).1), T.keep _ _ _ st7 fun b hb o e => (pin' b hb o e).1, fun b hb => ?_, w'⟩
      obtain ⟨o, e, _⟩ := T.obj _ _ st7 b hb
      exact (pin' b hb o e).2
    cases b with
    | false =>
      rw [if_neg Bool.false_ne_true] at q9 ⊢
      exact fin I9 q9
    | true =>
      rw [if_pos rfl] at q9 ⊢
      refine thnF (pk.run _ s9 σ8 H9 _ I9 q9) fun z s10 h10 => ?_
      obtain ⟨yk, H10, I10, r10, q10⟩ := h10
      refine thnF (pe.run _ s10 σ8 H10 _ I10 q10) fun z2 s11 h11 => ?_
      obtain ⟨yv, H11, I11, r11, kvs, k, a, rfl, hD11, ha11, hz11, nx⟩ := h11
      cases r10
      exact dset_t (X := X.blk s3 H3 scope ce fp) hu I11 hD11 ha11 hz11 r11 fun s12 I12 => fin I12 nx
theorem pe_dcT {z0 : HO} (hz0 : z0 = .dK [] ∨ z0 = .dT []) (hu : X.A.units + 1 < cLine) (hc : X.calm = true) (hN : X.N.Nodup) (hi : PI X tg iter wi) (ok : BlkOk X.N X.env.scope scope own)
    (hg : Blk X scope fun Y => PG Y tg g) (ht : Blk X scope fun Y => PTs Y ifs tt) (hk : Blk X scope fun Y => PE Y kx tk) (he : Blk X scope fun Y => PE Y vx tv) (hs : ∀ x, foldedSetIterable iter X.env x = pure x) :
    PE X (.DictComp kx vx [⟨tg, iter, ifs, 0⟩] scope pos) (tDcT z0 wi g tt tk tv (own.map (·.2))) := by
  refine ⟨fun pins s σ H Q I h => ?_⟩
  rw [arm_eval_DictComp]
  have hfree : ∀ y ∈ scope.names, y.2 = .free → ∃ c, X.env.cells.lookup y.1 = some c := fun y hy e => (ok.free y hy e).elim (fun k => I.ok.has _ (.inl k)) fun k => I.ok.has _ (.inr k)
  refine wpAny_comprehension_free rfl hs (closure_ok hfree) ok.kind (fun y hy e => (ok.uniq y hy).trans (congrArg some e)) (thn (hi.run pins s σ H _ I h) fun xv s1 hx => thn hx fun itv s2 h2 => ?_)
  obtain ⟨it, fp, tn, J, H2, rfl, I2, T, st2, f2, q⟩ := h2
  refine wpAny_newObj_type (newEnv_comp ?_)
  have hDn : H2 s2.heap.objs.size = none := I2.hok.fresh (Nat.le_refl _)
  obtain ⟨W, ⟨m0, w0⟩, turn⟩ := q _ hDn
  have I3 : L2.Inv X pins σ (upd H2 s2.heap.objs.size z0) { s2 with heap := s2.heap.push { cls := .type "dict", data := .dict #[] } } :=
    I2.laid (t' := s2.toks) (fun b o e => Heap.get?_push_of_some _ e) (Nat.le_refl _) (empty_ok hz0 s2.heap I2.big)
  have f3 : ∀ b ∈ fp, FpOk X pins (upd H2 s2.heap.objs.size z0) b ∧ b < (s2.heap.push { cls := .type "dict", data := .dict #[] }).objs.size := fun b hb => by
    obtain ⟨ob, e, _⟩ := T.obj _ _ st2 b hb
    have hlt := Heap.lt_size e
    exact ⟨⟨(upd_ne (Nat.ne_of_lt hlt)).trans (f2 b hb).1, (f2 b hb).2⟩, by rw [Heap.size_push]; exact Nat.lt_succ_of_lt hlt⟩
  have I4 := block_start I3 ok hN f3
  generalize hce : compEnvC scope (cellsFrom ((s2.heap.push { cls := .type "dict", data := .dict #[] }).objs.size + 1) scope.names (cloFrom X.env.cells scope.names [])) (s2.heap.push { cls := .type "dict", data := .dict #[] }).objs.size X.env = ce at I4
  have st4 : tn 0 (pushCells ((s2.heap.push { cls := .type "dict", data := .dict #[] }).push { cls := .type "dict", data := .dict #[] }) scope.names) :=
    T.keep _ _ _ st2 fun b _ o e => pushCells_keeps _ _ _ _ (Heap.get?_push_of_some _ (Heap.get?_push_of_some _ e))
  have cL : ce.locals = (s2.heap.push { cls := .type "dict", data := .dict #[] }).objs.size := by rw [← hce]; rfl
  have pg := hg { s2 with heap := s2.heap.push { cls := .type "dict", data := .dict #[] } } (upd H2 s2.heap.objs.size z0) (s2.heap.push { cls := .type "dict", data := .dict #[] }).objs.size (cellsFrom ((s2.heap.push { cls := .type "dict", data := .dict #[] }).objs.size + 1) scope.names (cloFrom X.env.cells scope.names [])) fp
  have pt := ht { s2 with heap := s2.heap.push { cls := .type "dict", data := .dict #[] } } (upd H2 s2.heap.objs.size z0) (s2.heap.push { cls := .type "dict", data := .dict #[] }).objs.size (cellsFrom ((s2.heap.push { cls := .type "dict", data := .dict #[] }).objs.size + 1) scope.names (cloFrom X.env.cells scope.names [])) fp
  have pk := hk { s2 with heap := s2.heap.push { cls := .type "dict", data := .dict #[] } } (upd H2 s2.heap.objs.size z0) (s2.heap.push { cls := .type "dict", data := .dict #[] }).objs.size (cellsFrom ((s2.heap.push { cls := .type "dict", data := .dict #[] }).objs.size + 1) scope.names (cloFrom X.env.cells scope.names [])) fp
  have pe := he { s2 with heap := s2.heap.push { cls := .type "dict", data := .dict #[] } } (upd H2 s2.heap.objs.size z0) (s2.heap.push { cls := .type "dict", data := .dict #[] }).objs.size (cellsFrom ((s2.heap.push { cls := .type "dict", data := .dict #[] }).objs.size + 1) scope.names (cloFrom X.env.cells scope.names [])) fp
  rw [hce] at pg pt pk pe
  have loop := dcT_loop (iter := iter) (kx := kx) (vx := vx) (scope := scope) (pos := pos) (Q := Q (.ref s2.heap.objs.size)) (R := compPost (model X.prog X.w) X.A X.xe none (EP X pins σ Q) (.ref s2.heap.objs.size) ce.locals) hu hc T pg pt pk pe turn (fun H' s' I6 qq => ?_) m0 _ _ I4 st4 (fun b hb => (f3 b hb).1.1) w0
  · show codeAny _ _ (.compStart (.DictComp kx vx [⟨tg, iter, ifs, 0⟩] scope pos) 0 (.ref it) (.ref s2.heap.objs.size) (compEnvC scope (cellsFrom ((s2.heap.push { cls := .type "dict", data := .dict #[] }).objs.size + 1) scope.names (cloFrom X.env.cells scope.names [])) (s2.heap.push { cls := .type "dict", data := .dict #[] }).objs.size X.env)) _ _
    rw [hce]
    rw [cL] at loop
    exact codeAny_compStart_dict loop (T.self X.A 0 _ _ _ st4 loop)
  · have I7 : L2.Inv X pins σ H' s' := I3.call' (ch := fp) I6.os I6.base I6.hok I6.bare fun b hb => ⟨(f3 b hb).1.2.2.2.1, (f3 b hb).1.2.1, (f3 b hb).1.2.2.2.2.1, (f3 b hb).1.2.2.2.2.2⟩
    have nC : H' ce.locals = none := I6.free
    obtain ⟨m, hn, _⟩ := I6.loc
    obtain ⟨f0, f1, f2', f3', f4, f5⟩ := I3.fpOk (b := ce.locals) (by rw [cL]; exact Nat.le_refl _) nC
    exact ⟨m, hn, fun h'' sb => ⟨.ref s2.heap.objs.size, H', I7.turned (t' := s'.toks) (fun b o hb e => (sb.2 b hb).trans e) f0 f1 f3' f4 f5, rfl, qq⟩⟩
end
end
end Pv
/-! Dicts whose keys are tuples of ints, as values -/
namespace Pv
open Rp (rp)
open Ow (ow)
open PySem L2
def kT (k : List Int) : List Key := k.map Sum.inl
theorem kT_kV (k : List Int) : (kT k).map kV = k.map V.int := by unfold kT; rw [List.map_map]; rfl
theorem kT_inj : ∀ {a b : List Int}, kT a = kT b → a = b
  | [], [], _ => rfl
  | [], _ :: _, h => by cases h
  | _ :: _, [], h => by cases h
  | x :: a, y :: b, h => by
    have h' : (Sum.inl x : Key) :: kT a = Sum.inl y :: kT b := h
    injection h' with h1 h2
    rw [Sum.inl.inj h1, kT_inj h2]
structure Dt (α : Type) where
  l : List (List Int × α)
def DR {α : Type} [Rp α] (K : PySem.W.Frag) (c : CL) (H : Hp) (kvs : List (List Key × V)) (l : List (List Int × α)) : Prop := Paired (fun (p : List Key × V) (q : List Int × α) => p.1 = kT q.1 ∧ rp K c H p.2 q.2) kvs l
theorem DR.mono {α : Type} [Rp α] {K : PySem.W.Frag} {c : CL} {H H' : Hp} {kvs : List (List Key × V)} {l : List (List Int × α)} (e : Same H H') (r : DR K c H kvs l) : DR K c H' kvs l := paired_imp (fun _ _ h => ⟨h.1, Rp.mono e h.2⟩) r
theorem DR.len {α : Type} [Rp α] {K : PySem.W.Frag} {c : CL} {H : Hp} {kvs : List (List Key × V)} {l : List (List Int × α)} (r : DR K c H kvs l) : kvs.length = l.length := Paired.length r
instance {α : Type} [Rp α] : Rp (Dt α) := ⟨fun K c H v b => ∃ p od kvs, v = .ref p ∧ H p = some (.frz od (.dT kvs)) ∧ DR K c H kvs b.l, fun e ⟨p, od, kvs, h1, h2, h3⟩ => ⟨p, od, kvs, h1, e _ _ h2, h3.mono e⟩⟩
def dtGet {α : Type} (l : List (List Int × α)) (k : List Int) : Option α := (l.find? fun kv => decide (kv.1 = k)).map (·.2)
def dtPut {α : Type} (l : List (List Int × α)) (k : List Int) (v : α) : List (List Int × α) :=
  if (l.any fun kv => decide (kv.1 = k)) = true then l.map (fun kv => if kv.1 = k then (kv.1, v) else kv) else l ++ [(k, v)]
def dtOf {α : Type} (l : List (List Int × α)) : List (List Int × α) := l.foldl (fun acc kv => dtPut acc kv.1 kv.2) []
section
variable {α : Type} [Rp α] {K : PySem.W.Frag} {c : CL} {H : Hp}
theorem kT_dec (a b : List Int) : decide (kT a = kT b) = decide (a = b) := by
  by_cases h : a = b
  · subst h; simp
  · rw [decide_eq_false h, decide_eq_false fun z => h (kT_inj z)]
theorem DR.get {kvs : List (List Key × V)} {l : List (List Int × α)} (r : DR K c H kvs l) (k : List Int) : (valV kvs (kT k) = none ∧ dtGet l k = none) ∨ ∃ v a, valV kvs (kT k) = some v ∧ dtGet l k = some a ∧ rp K c H v a := by
  induction r with
  | nil => exact .inl ⟨rfl, rfl⟩
  | @cons p q ps qs h t ih =>
    by_cases e : q.1 = k
    · refine .inr ⟨p.2, q.2, ?_, ?_, h.2⟩
      · exact valV_pos (h.1.trans (congrArg kT e))
      · simp [dtGet, List.find?_cons, e]
    · rw [valV_neg (fun z => e (kT_inj (h.1.symm.trans z)))]
      have e2 : dtGet (q :: qs) k = dtGet qs k := by simp [dtGet, List.find?_cons, e]
      rw [e2]
      exact ih
theorem DR.any {kvs : List (List Key × V)} {l : List (List Int × α)} (r : DR K c H kvs l) (k : List Int) : (kvs.any fun kv => decide (kv.1 = kT k)) = l.any fun kv => decide (kv.1 = k) := by
  induction r with
  | nil => rfl
  | @cons p q ps qs h t ih => rw [List.any_cons, List.any_cons, ih, h.1, kT_dec]
theorem DR.put {kvs : List (List Key × V)} {l : List (List Int × α)} (r : DR K c H kvs l) (k : List Int) {v : V} {a : α} (h : rp K c H v a) : DR K c H (putK kvs (kT k) v) (dtPut l k a) := by
  unfold putK dtPut
  rw [r.any k]
  split
  · have key : ∀ {kvs : List (List Key × V)} {l : List (List Int × α)}, DR K c H kvs l → DR K c H (kvs.map fun kv => if kv.1 = kT k then (kv.1, v) else kv) (l.map fun kv => if kv.1 = k then (kv.1, a) else kv) := by
      intro kvs l r
      induction r with
      | nil => exact .nil
      | @cons p q ps qs h1 t ih =>
        refine .cons ?_ ih
        by_cases e : q.1 = k
        · have e' : p.1 = kT k := h1.1.trans (congrArg kT e)
          simp only [if_pos e, if_pos e']
          exact ⟨h1.1, h⟩
        · have e' : ¬ p.1 = kT k := fun z => e (kT_inj (h1.1.symm.trans z))
          simp only [if_neg e, if_neg e']
          exact h1
    exact key r
  · exact paired_append r (.cons ⟨rfl, h⟩ .nil)
theorem dtPut_len (l : List (List Int × α)) (k : List Int) (v : α) : (dtPut l k v).length ≤ l.length + 1 := by
  unfold dtPut
  split
  · rw [List.length_map]; exact Nat.le_succ _
  · rw [List.length_append]; exact Nat.le_refl _
end
/-- what an expression gives is locked for good -/
def tFz (t : TE) : TE := fun σ H Q => t σ H fun v H' => ∃ a u, v = .ref a ∧ H' a = some u ∧ Mut (some u) ∧ ∀ od, Q v (upd H' a (.frz od u))
theorem pe_fz {X : Cx} {e : Expr} {t : TE} (h : PE X e t) : PE X e (tFz t) := ⟨fun pins s σ H Q I q => thn (h.run pins s σ H _ I q) fun w s' z => by
  obtain ⟨v, H', I', rv, a, u, rfl, hu, mu, k⟩ := z
  obtain ⟨od, J⟩ := I'.lock hu mu
  exact ⟨.ref a, _, J, rv, k od⟩⟩
section
variable {X : Cx} {c : CL} {Γ : List Sl} {α β : Type} [Rp α] [Rp β] {xs : List α} {tg iter kx vx : Expr} {ifs : List Expr} {scope : Scope} {vs ts : List Nat} {p : α → Bool} {kf : α → List Int} {f : α → β} {gf : α → List Sl → List Sl}
theorem tDcT_ok (hi : I X c Γ tg iter xs) (hts : ∀ j ∈ ts, j ∈ vs) (hl : xs.length < 1000000) (hg : ∀ x, x ∈ xs → Blk X scope fun Y => G Y c tg x ts (gf x))
    (ht : ∀ x, x ∈ xs → Blk X scope fun Y => Ts Y c (gf x (wipeG Γ vs)) ifs (p x)) (hk : ∀ x, x ∈ xs → p x = true → Blk X scope fun Y => E Y c (gf x (wipeG Γ vs)) kx (⟨kf x⟩ : Tup Int)) (he : ∀ x, x ∈ xs → p x = true → Blk X scope fun Y => E Y c (gf x (wipeG Γ vs)) vx (f x))
    {H0f H0 : Hp} {σ : L2.St} {Hf H : Hp} (g : EnvOk X.K c H0f H0 Hf H σ Γ) {Q : VK} (k : ∀ v Hf' H', Stp Hf H Hf' H' → rp X.K c Hf' v (⟨dtOf ((xs.filter p).map fun x => (kf x, f x))⟩ : Dt β) → Q v H') :
    tFz (tDcT (.dT []) (wI X tg iter) (bG X scope tg) (bTs X scope ifs) (bE X scope kx) (bE X scope vx) vs) σ H Q := by
  refine hi _ _ σ Hf H g _ fun J Hf1 H1 s1 wk => fun D hD => ?_
  have hD1 : Hf1 D = none := s1.s.free hD
  refine ⟨fun i m H2 => m = xs.length - i ∧ i ≤ xs.length ∧ ∃ Hf2 us, Stp Hf1 H1 Hf2 H2 ∧ Hf2 D = none ∧ H2 D = some (.dT us) ∧ us.length ≤ i ∧ DR X.K c Hf2 us (dtOf (((xs.take i).filter p).map fun x => (kf x, f x))),
    ⟨xs.length, rfl, Nat.zero_le _, Hf1, [], ⟨Same.refl _, same_new hD, s1.s.trans (same_new hD), fun _ _ z _ _ => z⟩, hD1, upd_same, Nat.zero_le _, .nil⟩, ?_⟩
  rintro i m H2 ⟨rfl, hil, Hf2, us, s2, hD2, hu, hus, ru⟩
  by_cases hlt : i < xs.length
  · refine .inr ⟨wk.go i H2 hlt (s2.f.trans s2.s), fun H3 => (i + 1) ≤ xs.length ∧ ∃ Hf3 us, Stp Hf1 H1 Hf3 H3 ∧ Hf3 D = none ∧ H3 D = some (.dT us) ∧ us.length ≤ i + 1 ∧ DR X.K c Hf3 us (dtOf (((xs.take (i + 1)).filter p).map fun x => (kf x, f x))), fun H3 h3 => ⟨xs.length - (i + 1), by omega, rfl, h3⟩, fun x H3 y => ?_⟩
    obtain ⟨Hf3, s3, a, ha, ra⟩ := wk.yld i Hf2 H2 x H3 s2.f s2.s hlt y
    have hm : a ∈ xs := List.mem_of_getElem? ha
    have g1 := (g.step s1).step (s2.trans s3)
    intro bs bH bC bcl bfp
    refine hg a hm bs bH bC bcl bfp _ _ _ _ Hf3 H3 (g1.wipe vs) x ra _ fun σ2 g2' w2 => ?_
    have g2 := g2' _ _ _ (g1.wipe vs)
    refine ⟨(wipe_ext hts w2).trans wipe_wipe, fun cs cH cC ccl cfp => ht a hm cs cH cC ccl cfp _ _ σ2 Hf3 H3 g2 _ fun Hf4 H4 s4 => ?_⟩
    have s24 := s2.trans (s3.trans s4)
    have e1 : xs.take (i + 1) = xs.take i ++ [a] := take_succ' ha
    have hD4 : H4 D = some (.dT us) := s4.h _ _ (s3.h _ _ hu)
    have hDf4 : Hf4 D = none := s4.d _ _ (s3.d _ _ hD2 hu trivial) (s3.h _ _ hu) trivial
    cases hp : p a with
    | false =>
      rw [if_neg Bool.false_ne_true]
      refine ⟨hlt, Hf4, us, s24, hDf4, hD4, by omega, ?_⟩
      rw [e1, List.filter_append, List.filter_cons_of_neg (by rw [hp]; exact Bool.false_ne_true), List.filter_nil, List.append_nil]
      exact ru.mono (s3.f.trans s4.f)
    | true =>
      rw [if_pos rfl]
      refine fun ks kH kC kcl kfp => hk a hm hp ks kH kC kcl kfp _ _ σ2 Hf4 H4 (g2.step s4) _ fun w Hf5 H5 s5 r5 => ?_
      refine fun es eH eC ecl efp => he a hm hp es eH eC ecl efp _ _ σ2 Hf5 H5 ((g2.step s4).step s5) _ fun w2 Hf6 H6 s6 r6 => ?_
      have hD5 : H5 D = some (.dT us) := s5.h _ _ hD4
      have hDf5 : Hf5 D = none := s5.d _ _ hDf4 hD4 trivial
      have hDf6 : Hf6 D = none := s6.d _ _ hDf5 hD5 trivial
      have hD6 := s6.h _ _ hD5
      have s26 := s24.trans (s5.trans s6)
      obtain ⟨q, ws, rfl, h2, h3⟩ := r5
      have hw : ws = (kT (kf a)).map kV := by rw [kT_kV]; exact rpl_ints h3
      refine ⟨us, kT (kf a), q, rfl, hD6, by rw [← hw]; exact s6.h _ _ (s5.s _ _ h2), Nat.lt_of_le_of_lt hus (Nat.lt_of_lt_of_le (Nat.lt_trans hlt hl) (by decide)), hlt, Hf6, _, ⟨s26.f, fun b o e => ?_, fun b o e => ?_, s26.d⟩, hDf6, upd_same, ?_, ?_⟩
      · rw [upd_ne (ne_of_none e hD)]; exact s26.h b o e
      · rw [upd_ne (ne_of_none e hDf6)]; exact s26.s b o e
      · have := length_putK us (kT (kf a)) w2; omega
      · rw [e1, List.filter_append, List.filter_cons_of_pos hp, List.filter_nil, List.map_append]
        unfold dtOf at ru ⊢
        rw [List.foldl_append]
        exact DR.put (ru.mono ((s3.f.trans s4.f).trans (s5.f.trans s6.f))) _ r6
  · have e : i = xs.length := by omega
    subst e
    refine .inl ⟨wk.stop H2 (s2.f.trans s2.s), D, _, rfl, hu, trivial, fun od => ?_⟩
    rw [List.take_length] at ru
    have s02 := s1.trans s2
    refine k _ (upd Hf2 D (.frz od (.dT us))) _ ⟨fun b o z => ?_, fun b o z => ?_, fun b o z => ?_, fun b o z z' n => ?_⟩ ⟨D, od, us, rfl, upd_same, ru.mono (same_new hD2)⟩
    · rw [upd_ne (ne_of_none (s02.f b o z) hD2)]; exact s02.f b o z
    · rw [upd_ne (ne_of_none (s1.h b o z) hD)]; exact s02.h b o z
    · by_cases q : b = D
      · subst q; rw [upd_same] at z ⊢; exact z
      · rw [upd_ne q] at z ⊢; exact s02.s b o z
    · rw [upd_ne (ne_of_none (s1.h _ _ z') hD)]; exact s02.d b o z z' n
theorem e_dcT {own : List (Str × Nat)} {pos : Pos} (hu : X.A.units + 1 < cLine) (hc : X.calm = true) (hN : X.N.Nodup) (ok : blkC X.N X.env.scope scope own = true) (hv : vs = own.map (·.2)) (hi : I X c Γ tg iter xs) (hts : ∀ j ∈ ts, j ∈ vs) (hl : xs.length < 1000000) (hg : ∀ x, x ∈ xs → Blk X scope fun Y => G Y c tg x ts (gf x))
    (ht : ∀ x, x ∈ xs → Blk X scope fun Y => Ts Y c (gf x (wipeG Γ vs)) ifs (p x)) (hk : ∀ x, x ∈ xs → p x = true → Blk X scope fun Y => E Y c (gf x (wipeG Γ vs)) kx (⟨kf x⟩ : Tup Int)) (he : ∀ x, x ∈ xs → p x = true → Blk X scope fun Y => E Y c (gf x (wipeG Γ vs)) vx (f x)) (hs : ∀ x, foldedSetIterable iter X.env x = pure x := by intro _; rfl) :
    E X c Γ (.DictComp kx vx [⟨tg, iter, ifs, 0⟩] scope pos) (⟨dtOf ((xs.filter p).map fun x => (kf x, f x))⟩ : Dt β) := fun _ _ σ Hf H g Q k => by
  subst hv
  exact ⟨_, pe_fz (pe_dcT (.inr rfl) hu hc hN pi_w (blkOk_by ok) pg_b pts_b pe_b pe_b hs), tDcT_ok hi hts hl hg ht hk he g k⟩
end
/-! ### in, [], len -/
section
variable {X : Cx} {c : CL} {Γ : List Sl} {α : Type} [Rp α] {a b : Expr} {pos : Pos}
theorem dget_fz {K : PySem.W.Frag} {H : Hp} {p q : Addr} {od : Obj} {kvs : List (List Key × V)} {k : List Int} (h : H p = some (.frz od (.dT kvs))) (h2 : H q = some (.tup (k.map V.int))) : DGet H p (.ref q) (valV kvs (kT k)) :=
  .inr ⟨kvs, kT k, q, .inr ⟨od, h⟩, rfl, by rw [kT_kV]; exact h2, rfl⟩
theorem e_dIn {x : Tup Int} {y : Dt α} (hu : X.A.units + 1 < cLine) (ha : E X c Γ a x) (hb : E X c Γ b y) (hm : behindInMarks .In b = false := by rfl) : E X c Γ (.Compare a [.In] [b] pos) (dtGet y.l x.l).isSome := fun _ _ σ Hf H g Q k =>
  ⟨_, pe_cmp (pc_din hu pe_w pe_w) hm, ha _ _ σ Hf H g _ fun u Hf1 H1 s1 r1 => hb _ _ σ Hf1 H1 (g.step s1) _ fun v Hf2 H2 s2 r2 => by
    obtain ⟨q, us, rfl, h1, h2⟩ := r1
    obtain ⟨p, od, kvs, rfl, h3, h4⟩ := r2
    rw [rpl_ints h2] at h1
    refine ⟨p, _, rfl, dget_fz (K := X.K) (s2.s _ _ h3) (s2.h _ _ (s1.s _ _ h1)), ?_⟩
    rcases h4.get x.l with ⟨e1, e2⟩ | ⟨v, w, e1, e2, _⟩
    · rw [e1]; exact k _ Hf2 H2 (s1.trans s2) (by rw [e2]; rfl)
    · rw [e1]; exact k _ Hf2 H2 (s1.trans s2) (by rw [e2]; rfl)⟩
theorem e_dNotIn {x : Tup Int} {y : Dt α} (hu : X.A.units + 1 < cLine) (ha : E X c Γ a x) (hb : E X c Γ b y) (hm : behindInMarks .NotIn b = false := by rfl) : E X c Γ (.Compare a [.NotIn] [b] pos) (!(dtGet y.l x.l).isSome) := fun _ _ σ Hf H g Q k =>
  ⟨_, pe_cmp (pc_dnotin hu pe_w pe_w) hm, ha _ _ σ Hf H g _ fun u Hf1 H1 s1 r1 => hb _ _ σ Hf1 H1 (g.step s1) _ fun v Hf2 H2 s2 r2 => by
    obtain ⟨q, us, rfl, h1, h2⟩ := r1
    obtain ⟨p, od, kvs, rfl, h3, h4⟩ := r2
    rw [rpl_ints h2] at h1
    refine ⟨p, _, rfl, dget_fz (K := X.K) (s2.s _ _ h3) (s2.h _ _ (s1.s _ _ h1)), ?_⟩
    rcases h4.get x.l with ⟨e1, e2⟩ | ⟨v, w, e1, e2, _⟩
    · rw [e1]; exact k _ Hf2 H2 (s1.trans s2) (by rw [e2]; rfl)
    · rw [e1]; exact k _ Hf2 H2 (s1.trans s2) (by rw [e2]; rfl)⟩
theorem e_dGet {x : Tup Int} {y : Dt α} {z : α} (hu : X.A.units + 1 < cLine) (ha : E X c Γ a y) (hb : E X c Γ b x) (hz : dtGet y.l x.l = some z) (hm : NoSl b := by exact fun _ _ => rfl) : E X c Γ (.Subscript a b pos) z := fun _ _ σ Hf H g Q k =>
  ⟨_, pe_dget hu pe_w pe_w hm, ha _ _ σ Hf H g _ fun u Hf1 H1 s1 r1 => hb _ _ σ Hf1 H1 (g.step s1) _ fun v Hf2 H2 s2 r2 => by
    obtain ⟨q, us, rfl, h1, h2⟩ := r2
    obtain ⟨p, od, kvs, rfl, h3, h4⟩ := r1
    rw [rpl_ints h2] at h1
    rcases h4.get x.l with ⟨e1, e2⟩ | ⟨v, w, e1, e2, e3⟩
    · rw [hz] at e2; cases e2
    · rw [hz] at e2
      obtain rfl := Option.some.inj e2
      exact ⟨p, v, rfl, e1 ▸ dget_fz (K := X.K) (s2.h _ _ (s1.s _ _ h3)) (s2.s _ _ h1), k _ Hf2 H2 (s1.trans s2) (Rp.mono s2.f e3)⟩⟩
/-- the keys in their order -/
theorem i_dt {tg : Expr} {y : Dt α} (h : E X c Γ a y) : I X c Γ tg a (y.l.map fun kv => (⟨kv.1⟩ : Tup Int)) := fun _ _ σ Hf H g R k =>
  ⟨_, pi_keys pe_w, h _ _ σ Hf H g _ fun v Hf1 H1 s1 r1 => by
    obtain ⟨p, od, kvs, rfl, h3, h4⟩ := r1
    refine ⟨p, od, rfl, .inr ⟨kvs, s1.s _ _ h3, k _ Hf1 H1 s1 ⟨fun H2 s => ⟨s _ _ h3, by rw [List.length_map, h4.len]; exact Nat.le_refl _⟩, fun i H2 hi s => ⟨s _ _ h3, by rw [List.length_map, ← h4.len] at hi; exact hi⟩, fun i Hf2 H2 x H3 t1 t2 hi yy => ?_⟩⟩⟩
    obtain ⟨rfl, kk, vv, q, e1, rfl, e2⟩ := yy
    obtain ⟨w, e3, e4, _⟩ := paired_get h4 e1
    have e5 : kk = kT w.1 := e4
    rw [e5, kT_kV] at e2
    refine ⟨upd Hf2 q (.tup (w.1.map V.int)), ⟨fun b o z => ?_, Same.refl _, fun b o z => ?_, fun b o z z' n => ?_⟩, ⟨w.1⟩, by rw [List.getElem?_map, e3]; rfl, q, _, rfl, upd_same, ?_⟩
    · by_cases e : b = q
      · subst e; rw [upd_same, ← e2, t2 b o z]
      · rw [upd_ne e]; exact z
    · by_cases e : b = q
      · subst e; rw [upd_same] at z; rw [e2]; exact z
      · rw [upd_ne e] at z; exact t2 b o z
    · by_cases e : b = q
      · subst e; rw [e2] at z'; obtain rfl := Option.some.inj z'; exact n.elim
      · rw [upd_ne e]; exact z
    · have key : ∀ l : List Int, RpL X.K c (upd Hf2 q (.tup (w.1.map V.int))) (l.map V.int) l := by
        intro l
        induction l with
        | nil => exact .nil
        | cons i r ih => exact .cons rfl ih
      exact key w.1⟩
end
end Pv
/-! Data of any depth compared; dicts of truth values compared -/
namespace Pv
open Rp (rp)
open Ow (ow)
open PySem L2
/-- values that are data -/
class Da (α : Type) extends Rp α where
  toD : α → PyData
  dp : ∀ {K c H v a}, rp K c H v a → Dp K H v (toD a)
  lay : ∀ a, (toD a).canLay0 = true
  deep : Nat
  dep : ∀ a, (toD a).depth ≤ deep
  eqv : ∀ a b, PyData.eqv (toD a) (toD b) = true ↔ a = b
open Da (toD)
instance : Da Int where
  toD i := .int i
  dp h := by rw [show _ = _ from h]; exact .int _
  lay _ := by simp [PyData.canLay0]
  deep := 0
  dep _ := by simp [PyData.depth]
  eqv a b := by simp [PyData.eqv]
instance : Da Bool where
  toD i := .bool i
  dp h := by rw [show _ = _ from h]; exact .bl _
  lay _ := by simp [PyData.canLay0]
  deep := 0
  dep _ := by simp [PyData.depth]
  eqv a b := by simp [PyData.eqv]
section
variable {α : Type} [Da α]
theorem dpAll {K : PySem.W.Frag} {c : CL} {H : Hp} {vs : List V} {as : List α} (r : RpL K c H vs as) : DpAll K H vs (as.map toD) := by
  induction r with
  | nil => exact .nil
  | cons h t ih => exact .cons (Da.dp h) ih
theorem layAll : ∀ as : List α, PyData.canLayAll0 (as.map toD) = true
  | [] => rfl
  | a :: r => by rw [List.map_cons]; simp only [PyData.canLayAll0, Da.lay a, layAll r, Bool.and_self]
theorem depAll : ∀ as : List α, PyData.depthAll (as.map toD) ≤ Da.deep α
  | [] => by simp [PyData.depthAll]
  | a :: r => by
    rw [List.map_cons]; simp only [PyData.depthAll]
    exact Nat.max_le.mpr ⟨Da.dep a, depAll r⟩
theorem eqvAll : ∀ as bs : List α, PyData.eqvAll (as.map toD) (bs.map toD) = true ↔ as = bs
  | [], [] => by simp [PyData.eqvAll]
  | [], _ :: _ => by simp [PyData.eqvAll]
  | _ :: _, [] => by simp [PyData.eqvAll]
  | a :: r, b :: s => by
    rw [List.map_cons, List.map_cons]; simp only [PyData.eqvAll, Bool.and_eq_true]
    rw [Da.eqv a b, eqvAll r s, List.cons.injEq]
end
instance {α : Type} [Da α] : Da (List α) where
  toD as := .list (as.map toD)
  dp := fun ⟨p, vs, h1, h2, h3⟩ => by rw [h1]; exact .lst h2 (dpAll h3)
  lay as := by simp only [PyData.canLay0]; exact layAll as
  deep := Da.deep α + 1
  dep as := by simp only [PyData.depth]; have := depAll as; omega
  eqv as bs := by simp only [PyData.eqv]; exact eqvAll as bs
instance {α : Type} [Da α] : Da (Tup α) where
  toD as := .tuple (as.l.map toD)
  dp := fun ⟨p, vs, h1, h2, h3⟩ => by rw [h1]; exact .tup (sqT_of h2) (dpAll h3)
  lay as := by simp only [PyData.canLay0]; exact layAll as.l
  deep := Da.deep α + 1
  dep as := by simp only [PyData.depth]; have := depAll as.l; omega
  eqv as bs := by
    obtain ⟨as⟩ := as
    obtain ⟨bs⟩ := bs
    simp only [PyData.eqv, Tup.mk.injEq]; exact eqvAll as bs
theorem shaped_of {α : Type} [Da α] (a : α) (h : Da.deep α ≤ 64) : SeqAt.shaped (toD a) = true := by
  unfold SeqAt.shaped
  rw [Da.lay a, Bool.true_and, decide_eq_true (Nat.le_trans (Da.dep a) h)]
theorem eqv_dec {α : Type} [Da α] [DecidableEq α] (a b : α) : PyData.eqv (toD a) (toD b) = decide (a = b) := by
  by_cases h : a = b
  · rw [decide_eq_true h]; exact (Da.eqv a b).mpr h
  · rw [decide_eq_false h]; exact Bool.eq_false_iff.mpr fun z => h ((Da.eqv a b).mp z)
section
variable {X : Cx} {c : CL} {Γ : List Sl} {a b : Expr} {pos : Pos} {α : Type} [Da α] [DecidableEq α] {x y : α}
theorem rv_eqD (h : Da.deep α ≤ 64) : RV2 X c (rEqD X.K) x y (decide (x = y)) := fun Hf H u v s hu hv Q k =>
  ⟨_, _, Da.dp (Rp.mono s hu), Da.dp (Rp.mono s hv), shaped_of x h, shaped_of y h, by rw [eqv_dec]; exact k _ _ _ (Stp.refl s) rfl⟩
theorem rv_neD (h : Da.deep α ≤ 64) : RV2 X c (rNeD X.K) x y (!decide (x = y)) := fun Hf H u v s hu hv Q k =>
  ⟨_, _, Da.dp (Rp.mono s hu), Da.dp (Rp.mono s hv), shaped_of x h, shaped_of y h, by rw [eqv_dec]; exact k _ _ _ (Stp.refl s) rfl⟩
theorem e_eqD (hu : X.A.units + 64 < cLine) (ha : E X c Γ a x) (hb : E X c Γ b y) (h : Da.deep α ≤ 64 := by decide) : E X c Γ (.Compare a [.Eq] [b] pos) (decide (x = y)) := e_cmp (op_eqD hu) ha hb (rv_eqD h)
theorem t_eqD (hu : X.A.units + 64 < cLine) (ha : E X c Γ a x) (hb : E X c Γ b y) (h : Da.deep α ≤ 64 := by decide) : T X c Γ (.Compare a [.Eq] [b] pos) (decide (x = y)) := t_cmp (op_eqD hu) ha hb (rv_eqD h)
theorem e_neD (hu : X.A.units + 64 < cLine) (ha : E X c Γ a x) (hb : E X c Γ b y) (h : Da.deep α ≤ 64 := by decide) : E X c Γ (.Compare a [.NotEq] [b] pos) (!decide (x = y)) := e_cmp (op_neD hu) ha hb (rv_neD h)
theorem t_neD (hu : X.A.units + 64 < cLine) (ha : E X c Γ a x) (hb : E X c Γ b y) (h : Da.deep α ≤ 64 := by decide) : T X c Γ (.Compare a [.NotEq] [b] pos) (!decide (x = y)) := t_cmp (op_neD hu) ha hb (rv_neD h)
theorem any_eqv (x : α) : ∀ ys : List α, ((ys.map toD).any fun z => PyData.eqv z (toD x)) = decide (x ∈ ys)
  | [] => rfl
  | y :: r => by
    rw [List.map_cons, List.any_cons, any_eqv x r, eqv_dec]
    by_cases h : y = x
    · subst h; simp
    · have h' : ¬ x = y := fun z => h z.symm
      simp [h, h']
theorem rv_inD {ys : List α} (h : Da.deep α ≤ 63) : RV2 X c (rInD X.K) x ys (decide (x ∈ ys)) := fun Hf H u v s hu hv Q k =>
  ⟨toD x, ys.map toD, Da.dp (Rp.mono s hu), Da.dp (α := List α) (Rp.mono s hv), shaped_of x (by omega), shaped_of ys (by show Da.deep α + 1 ≤ 64; omega), by rw [any_eqv]; exact k _ _ _ (Stp.refl s) rfl⟩
theorem rv_notInD {ys : List α} (h : Da.deep α ≤ 63) : RV2 X c (rNotInD X.K) x ys (!decide (x ∈ ys)) := fun Hf H u v s hu hv Q k =>
  ⟨toD x, ys.map toD, Da.dp (Rp.mono s hu), Da.dp (α := List α) (Rp.mono s hv), shaped_of x (by omega), shaped_of ys (by show Da.deep α + 1 ≤ 64; omega), by rw [any_eqv]; exact k _ _ _ (Stp.refl s) rfl⟩
theorem e_inD {ys : List α} (hu : X.A.units + 65 < cLine) (ha : E X c Γ a x) (hb : E X c Γ b ys) (h : Da.deep α ≤ 63 := by decide) (hm : behindInMarks .In b = false := by rfl) : E X c Γ (.Compare a [.In] [b] pos) (decide (x ∈ ys)) := e_cmp (op_inD hu) ha hb (rv_inD h) hm
theorem e_notInD {ys : List α} (hu : X.A.units + 65 < cLine) (ha : E X c Γ a x) (hb : E X c Γ b ys) (h : Da.deep α ≤ 63 := by decide) (hm : behindInMarks .NotIn b = false := by rfl) : E X c Γ (.Compare a [.NotIn] [b] pos) (!decide (x ∈ ys)) := e_cmp (op_notInD hu) ha hb (rv_notInD h) hm
end
/-! x in a list or tuple of ints -/
section
variable {X : Cx} {c : CL} {Γ : List Sl} {a b : Expr} {pos : Pos} {x : Int}
theorem inV_int (x : Int) : ∀ ys : List Int, inV (.int x) (ys.map V.int) = decide (x ∈ ys)
  | [] => rfl
  | y :: r => by
    have ih := inV_int x r
    unfold inV at ih ⊢
    rw [List.map_cons, List.any_cons, ih]
    by_cases h : y = x
    · subst h; simp [eqV]
    · have h' : ¬ x = y := fun z => h z.symm
      simp [eqV, h, h']
theorem flat_ints (ys : List Int) : (ys.map V.int).all flatV = true := by
  rw [List.all_map]; exact List.all_eq_true.mpr fun _ _ => rfl
theorem rv_inI {β : Type} [Rp β] {z : β} {ys : List Int} {neg : Bool} (hz : ∀ H K v, rp K c H v z → ∃ p vs, v = .ref p ∧ (SqL K H p vs ∨ SqT K H p vs) ∧ RpL K c H vs ys) : RV2 X c (rIn X.K neg) x z (if neg then !decide (x ∈ ys) else decide (x ∈ ys)) := fun Hf H u v s hu hv Q k => by
  obtain ⟨p, vs, rfl, h1, h2⟩ := hz H X.K v (Rp.mono s hv)
  have e := rpl_ints h2
  subst e
  refine ⟨p, _, rfl, h1, by rw [show u = V.int x from hu]; rfl, flat_ints ys, ?_⟩
  rw [show u = V.int x from hu, inV_int]
  exact k _ _ _ (Stp.refl s) rfl
theorem e_inI {ys : List Int} (ha : E X c Γ a x) (hb : E X c Γ b ys) (hm : behindInMarks .In b = false := by rfl) : E X c Γ (.Compare a [.In] [b] pos) (decide (x ∈ ys)) := e_cmp op_in_seq ha hb (rv_inI (neg := false) fun H K v ⟨p, vs, h1, h2, h3⟩ => ⟨p, vs, h1, .inl h2, h3⟩) hm
theorem e_notInI {ys : List Int} (ha : E X c Γ a x) (hb : E X c Γ b ys) (hm : behindInMarks .NotIn b = false := by rfl) : E X c Γ (.Compare a [.NotIn] [b] pos) (!decide (x ∈ ys)) := e_cmp op_notIn_seq ha hb (rv_inI (neg := true) fun H K v ⟨p, vs, h1, h2, h3⟩ => ⟨p, vs, h1, .inl h2, h3⟩) hm
theorem e_inT {ys : Tup Int} (ha : E X c Γ a x) (hb : E X c Γ b ys) (hm : behindInMarks .In b = false := by rfl) : E X c Γ (.Compare a [.In] [b] pos) (decide (x ∈ ys.l)) := e_cmp op_in_seq ha hb (rv_inI (neg := false) fun H K v ⟨p, vs, h1, h2, h3⟩ => ⟨p, vs, h1, .inr (sqT_of h2), h3⟩) hm
theorem e_notInT {ys : Tup Int} (ha : E X c Γ a x) (hb : E X c Γ b ys) (hm : behindInMarks .NotIn b = false := by rfl) : E X c Γ (.Compare a [.NotIn] [b] pos) (!decide (x ∈ ys.l)) := e_cmp op_notIn_seq ha hb (rv_inI (neg := true) fun H K v ⟨p, vs, h1, h2, h3⟩ => ⟨p, vs, h1, .inr (sqT_of h2), h3⟩) hm
theorem e_inW {ys : TupW Int} (ha : E X c Γ a x) (hb : E X c Γ b ys) (hm : behindInMarks .In b = false := by rfl) : E X c Γ (.Compare a [.In] [b] pos) (decide (x ∈ ys.l)) := e_cmp op_in_seq ha hb (rv_inI (neg := false) fun H K v ⟨p, vs, h1, h2, h3⟩ => ⟨p, vs, h1, .inr h2, h3⟩) hm
theorem e_notInW {ys : TupW Int} (ha : E X c Γ a x) (hb : E X c Γ b ys) (hm : behindInMarks .NotIn b = false := by rfl) : E X c Γ (.Compare a [.NotIn] [b] pos) (!decide (x ∈ ys.l)) := e_cmp op_notIn_seq ha hb (rv_inI (neg := true) fun H K v ⟨p, vs, h1, h2, h3⟩ => ⟨p, vs, h1, .inr h2, h3⟩) hm
end
end Pv
/-! == of two dicts with tuple keys and truth values -/
namespace Pv
open Rp (rp)
open Ow (ow)
open Da (toD)
open PySem PySem.W L2 PyProof.Rows PyProof.V PySem.Spec
section
variable {prog : Program} {w : World} {κ : Type} [DecidableEq κ] {knd : HeapKind prog w κ} {A : Around} {EE : Value → Shared → Prop} {s : Shared}
theorem eqb_bool {x y : Bool} {Q : Bool → Shared → Prop} (h : Q (x == y) s) : wpAny (model prog w) A (eqBool (.bool x) (.bool y)) Q EE s :=
  (show PySem.SeqAt.EqAt A s (.bool x) (.bool y) (x == y) by
    have e := L2.eqAt_V (A := A) (s := s) (y := .bl x) (x := .bl y) (u := .bool x) (v := .bool y) rfl rfl rfl rfl
    have e2 : eqV (.bl x) (.bl y) = (x == y) := by cases x <;> cases y <;> rfl
    rwa [e2] at e) prog w EE Q h
/-- all of xs stands in ys, with the same value -/
def allIn (xs ys : List (κ × Addr × Value)) : Bool := xs.all fun x => match atKey ys x.1 with | none => false | some p => p.2 == x.2.2
theorem samePairsT {nm : String} {a b : Addr} {xs ys : List (κ × Addr × Value)} {Q : Bool → Shared → Prop} (ha : (a == sysModules) = false) (hb : (b == sysModules) = false) (hu : knd.room A)
    (da : s.heap.DictOfH knd a xs) (db : s.heap.DictOfH knd b ys) (bx : ∀ x ∈ xs, ∃ t, x.2.2 = .bool t) (by' : ∀ y ∈ ys, ∃ t, y.2.2 = .bool t) (h : Q (xs.length == ys.length && allIn xs ys) s) : wpAny (model prog w) A (Builtin.Dict.samePairs nm a b) Q EE s := by
  obtain ⟨oa, es, ep, hoa, _, hda, hka, isa, _⟩ := da
  obtain ⟨ob, es', ep', hob, _, hdb, hkb, isb, ndb⟩ := db
  have hla : xs.length = es.size := (size_of_entries hka).symm
  have hlb : ys.length = es'.size := (size_of_entries hkb).symm
  rw [hla, hlb] at h
  unfold Builtin.Dict.samePairs Builtin.Dict.showsAll
  rw [if_neg (by rw [ha]; exact Bool.false_ne_true), if_neg (by rw [hb]; exact Bool.false_ne_true)]
  refine wpAny_bind (wpAny_pure (wpAny_bind (wpAny_pure (wpAny_bind (wpAny_dictEntries hoa hda ?_)))))
  dsimp only
  refine wpAny_bind (wpAny_dictEntries hob hdb ?_)
  by_cases hsz : es.size = es'.size
  case neg =>
    rw [if_pos (by simpa using hsz)]
    have hf : (es.size == es'.size) = false := by simpa using hsz
    rw [hf, Bool.false_and] at h
    exact wpAny_bind (wpAny_rule (wpAny_pure h))
  case pos =>
    have h' : Q (allIn xs ys) s := by simpa [hsz] using h
    rw [if_neg (by rw [hsz]; simp)]
    refine wpAny_bind (wpAny_dictEpoch hoa hda (wpAny_bind ?_))
    rw [Std.Legacy.Range.forIn_eq_forIn_range']
    simp only [Std.Legacy.Range.size, Nat.sub_zero, Nat.add_sub_cancel, Nat.div_one]
    refine wpAny_forIn_list _ (fun rest q s' => s' = s ∧ q = (none, ()) ∧ ∃ i, rest = List.range' i (es.size - i) ∧ i ≤ es.size ∧ allIn xs ys = allIn (xs.drop i) ys) _ ?_ ?_ _ _ ⟨rfl, rfl, 0, by simp, Nat.zero_le _, by rw [List.drop_zero]⟩
    · rintro x rest q s' ⟨rfl, rfl, i, hr, hi, hpre⟩
      have hlt : i < es.size := by
        rcases Nat.lt_or_ge i es.size with h | h
        · exact h
        · rw [Nat.sub_eq_zero_of_le h] at hr; simp at hr
      obtain ⟨rfl, hrest⟩ : x = i ∧ rest = List.range' (i + 1) (es.size - (i + 1)) := by
        have e : es.size - i = (es.size - (i + 1)) + 1 := by omega
        rw [e, List.range'_succ] at hr
        injection hr with h1 h2
        exact ⟨h1, h2⟩
      have hlt' : x < xs.length := by rw [hla]; exact hlt
      obtain ⟨k, q1, v, hkv⟩ : ∃ k q v, xs[x] = (k, q, v) := ⟨_, _, _, rfl⟩
      have hm : (k, q1, v) ∈ xs := hkv ▸ List.getElem_mem hlt'
      have hdrop : xs.drop x = (k, q1, v) :: xs.drop (x + 1) := by rw [← hkv]; exact List.drop_eq_getElem_cons hlt'
      have hent : es[x]? = some ⟨knd.hash k, .ref q1, v⟩ := by rw [entry_at hka x, List.getElem?_eq_getElem hlt', hkv]; rfl
      obtain ⟨t, ht⟩ := bx _ hm
      have ht : v = .bool t := ht
      subst ht
      rw [hdrop] at hpre
      refine wpAny_bind (wpAny_dictEntries hoa hda ?_)
      rw [hent]
      dsimp only
      refine wpAny_bind (wpAny_holding (wpAny_bind (wpAny_dictFind_heap hu (isa _ hm) hob hdb hkb isb ndb (fun hno => ?_) fun j p hj => ?_)))
      · have e0 : atKey ys k = none := atKey_none_of_get hno
        have e1 : allIn xs ys = false := by rw [hpre]; simp [allIn, e0]
        rw [e1] at h'
        first
          | exact wpAny_pure (wpAny_pure h')
          | (refine wpAny_pure ?_
             rw [if_pos (by decide)]
             exact wpAny_pure (wpAny_pure h'))
      · have e0 : atKey ys k = some p := atKey_of_get ndb hj
        obtain ⟨u, hu'⟩ := by' _ (List.mem_of_getElem? hj)
        have hu' : p.2 = .bool u := hu'
        refine wpAny_bind (wpAny_dictEntries hob hdb ?_)
        have hent2 : es'[j]? = some ⟨knd.hash k, .ref p.1, p.2⟩ := by rw [entry_at hkb j, hj]; rfl
        rw [hent2, hu']
        dsimp only
        refine wpAny_holding (eqb_bool ?_)
        have e1 : allIn xs ys = ((t == u) && allIn (xs.drop (x + 1)) ys) := by
          rw [hpre]
          unfold allIn
          rw [List.all_cons]
          dsimp only
          rw [e0]
          dsimp only
          rw [hu']
          cases t <;> cases u <;> rfl
        cases e : (t == u) with
        | false =>
          rw [e, Bool.false_and] at e1
          rw [e1] at h'
          rw [if_pos (by decide)]
          exact wpAny_pure (wpAny_pure h')
        | true =>
          rw [e, Bool.true_and] at e1
          rw [if_neg (by decide)]
          refine wpAny_bind (wpAny_dictEpoch hoa hda ?_)
          rw [if_neg (by simp)]
          exact wpAny_pure ⟨rfl, rfl, x + 1, hrest, hlt, e1⟩
    · rintro q s' ⟨rfl, rfl, i, hr, hi, hpre⟩
      have hin : i = es.size := by
        rcases Nat.lt_or_ge i es.size with h | h
        · have e : es.size - i = (es.size - (i + 1)) + 1 := by omega
          rw [e, List.range'_succ] at hr; exact nomatch hr
        · exact Nat.le_antisymm hi h
      refine wpAny_pure ?_
      rw [hin, ← hla, List.drop_length] at hpre
      rw [hpre] at h'
      exact h'
theorem eq_dictT {a b : Addr} {xs ys : List (κ × Addr × Value)} {Q : Value → Shared → Prop} (ha : (a == sysModules) = false) (hb : (b == sysModules) = false) (hu : knd.room A.in1) (hu2 : A.units < cLine)
    (da : s.heap.DictOfH knd a xs) (db : s.heap.DictOfH knd b ys) (bx : ∀ x ∈ xs, ∃ t, x.2.2 = .bool t) (by' : ∀ y ∈ ys, ∃ t, y.2.2 = .bool t) (h : Q (.bool (xs.length == ys.length && allIn xs ys)) s) :
    wpAny (model prog w) A (compareOp .Eq (.ref a) (.ref b)) Q EE s := by
  refine wpAny_richCompare_same_room (op := .Eq) da.typeIs db.typeIs PySem.F.slot_dict_eq (wpAny_call_entry PySem.F.slot_dict_eq da.typeIs PySem.F.entry_dict_eq ?_ (PySem.F.args_dict_eq_2 _ _)) hu2
  show wpAny _ _ (Builtin.Dict.dictSlotArgs "__eq__" ⟨[.ref a, .ref b], []⟩ >>= _) _ _ s
  unfold Builtin.Dict.dictSlotArgs
  refine wpAny_bind (wpAny_bind (wpAny_notOrdered_dict da.typeIs ?_))
  refine wpAny_pure (wpAny_bind (wpAny_isInstance (T := "dict") db.typeIs PySem.F.sub_dict_dict ?_))
  simp only [Bool.not_true, Bool.false_eq_true, if_false]
  refine wpAny_bind (wpAny_pure (wpAny_bind (wpAny_pure (wpAny_bind (samePairsT ha hb hu da db bx by' (wpAny_pure ⟨_, rfl, (fun x => Value.noConfusion x : Value.bool _ ≠ Value.notImplemented), ?_⟩))))))
  simpa using h
end
/-- == of two dicts of truth values, as typed values -/
def dtEq (x y : List (List Int × Bool)) : Bool := x.length == y.length && x.all fun kv => dtGet y kv.1 == some kv.2
theorem bools_of {H : Hp} {kvs : List (List L2.Key × V)} {xs : List (List L2.Key × Addr × Value)} (r : KT H kvs xs) (hb : ∀ p ∈ kvs, ∃ t, p.2 = V.bl t) : ∀ x ∈ xs, ∃ t, x.2.2 = Value.bool t := by
  induction r with
  | nil => intro x hx; cases hx
  | @cons p q ps qs h t ih =>
    intro x hx
    rcases List.mem_cons.mp hx with rfl | hx
    · obtain ⟨t, e⟩ := hb p List.mem_cons_self
      have z := h.2.2
      rw [e] at z
      exact ⟨t, z⟩
    · exact ih (fun p hp => hb p (List.mem_cons_of_mem _ hp)) x hx
theorem dr_bools {K : PySem.W.Frag} {c : CL} {H : Hp} {kvs : List (List L2.Key × V)} {l : List (List Int × Bool)} (r : DR K c H kvs l) : ∀ p ∈ kvs, ∃ t, p.2 = V.bl t := by
  induction r with
  | nil => intro x hx; cases hx
  | @cons p q ps qs h t ih =>
    intro x hx
    rcases List.mem_cons.mp hx with rfl | hx
    · exact ⟨q.2, h.2⟩
    · exact ih x hx
theorem allIn_eq {K : PySem.W.Frag} {c : CL} {H : Hp} {kb : List (List L2.Key × V)} {yb : List (List L2.Key × Addr × Value)} {lb : List (List Int × Bool)} (rb : KT H kb yb) (db : DR K c H kb lb) {ka : List (List L2.Key × V)} {xa : List (List L2.Key × Addr × Value)} (ra : KT H ka xa) :
    ∀ {la : List (List Int × Bool)}, DR K c H ka la → allIn xa yb = la.all fun kv => dtGet lb kv.1 == some kv.2 := by
  induction ra with
  | nil => intro la d; cases d; rfl
  | @cons p q ps qs h t ih =>
    intro la d
    cases d with
    | @cons _ w _ ws e d =>
      unfold allIn
      rw [List.all_cons, List.all_cons]
      have ih' := ih d
      unfold allIn at ih'
      rw [ih']
      congr 1
      have hq : q.1 = kT w.1 := h.1.symm.trans e.1
      have hv := rb.val (kT w.1)
      rw [hq]
      have h2 : q.2.2 = Value.bool w.2 := by
        have z := h.2.2
        rw [show p.2 = V.bl w.2 from e.2] at z
        exact z
      rcases db.get w.1 with ⟨e1, e2⟩ | ⟨v, u, e1, e2, e3⟩
      · rw [e1] at hv
        rw [e2]
        cases z : atKey yb (kT w.1) with
        | none => rfl
        | some p => rw [z] at hv; exact hv.elim
      · rw [e1] at hv
        rw [e2]
        cases z : atKey yb (kT w.1) with
        | none => rw [z] at hv; exact hv.elim
        | some p =>
          rw [z] at hv
          have e4 : p.2 = Value.bool u := by
            have hv : RelV v p.2 := hv
            rw [show v = V.bl u from e3] at hv
            exact hv
          dsimp only
          rw [e4, h2]
          cases u <;> cases w.2 <;> rfl
def rEqDt (K : PySem.W.Frag) (c : CL) : R2 := fun x y H Q => ∃ (a b : Dt Bool), rp K c H x a ∧ rp K c H y b ∧ Q (.bl (dtEq a.l b.l)) H
theorem op_eqDt {X : Cx} {c : CL} (hu : X.A.units + 1 < cLine) : OpR X (compareOp .Eq) (rEqDt X.K c) := by
  intro pins s σ H x y v u Q I rx ry h
  obtain ⟨a, b, ⟨p, od, ka, rfl, h1, d1⟩, ⟨q, oe, kb, rfl, h2, d2⟩, hq⟩ := h
  cases rx
  cases ry
  obtain ⟨_, za, xs, ra, da⟩ := dt_rd I.hok (.inr ⟨od, h1⟩)
  obtain ⟨_, zb, ys, rb, db⟩ := dt_rd I.hok (.inr ⟨oe, h2⟩)
  refine eq_dictT za zb (tupleKind_room_in1 hu) (by omega) da db (bools_of ra (dr_bools d1)) (bools_of rb (dr_bools d2)) ⟨.bl _, H, I, ?_, hq⟩
  show Value.bool _ = Value.bool _
  unfold dtEq
  rw [allIn_eq rb d2 ra d1, ← Paired.length ra, ← Paired.length rb, d1.len, d2.len]
section
variable {X : Cx} {c : CL} {Γ : List Sl} {a b : Expr} {pos : Pos}
theorem e_eqDt {x y : Dt Bool} (hu : X.A.units + 1 < cLine) (ha : E X c Γ a x) (hb : E X c Γ b y) : E X c Γ (.Compare a [.Eq] [b] pos) (dtEq x.l y.l) :=
  e_cmp (op_eqDt (c := c) hu) ha hb fun Hf H u v s hx hy Q k => ⟨x, y, Rp.mono s hx, Rp.mono s hy, k _ _ _ (Stp.refl s) rfl⟩
/-- len of such a dict -/
theorem call_lenDt {α : Type} [Rp α] : CallR X (.builtin "len") (fun xs H Q => ∃ (v : V) (d : Dt α), xs = [v] ∧ rp X.K c H v d ∧ Q (.int (d.l.length : Int)) H) := by
  intro pins s σ H xs us Q I r h
  obtain ⟨v, d, rfl, ⟨p, od, kvs, rfl, h1, d1⟩, q⟩ := h
  obtain ⟨u, rfl, ru⟩ := vals1 r
  cases ru
  obtain ⟨z, zd, ys, rel, dd⟩ := dt_rd I.hok (.inr ⟨od, h1⟩)
  have hl : ys.length = d.l.length := by rw [← Paired.length rel, d1.len]
  refine call_len_dictH zd dd (by rw [← Paired.length rel]; rw [sizeLine_eq] at z; omega) ?_
  rw [hl]
  exact ⟨.int _, H, I.tok _, ⟨_, rfl⟩, q⟩
theorem e_lenDt {α : Type} [Rp α] {y : Dt α} {p0 : Pos} (ha : E X c Γ a y) (hm : X.mg "len" = none) (hg : Gl X "len" := by rfl) (he : starEach [a] X.env = (false, eval a X.env) :: starEach [] X.env := by rfl) : E X c Γ (.Call (.Name "len" p0) [a] [] pos) (y.l.length : Int) :=
  e_callB (call_lenDt (c := c) (α := α)) (a_cons ha a_nil he) (fun Hf H vs s r Q k => by
    obtain ⟨v, rfl, h⟩ := pkl1 r
    exact ⟨v, y, rfl, Rp.mono s h, k _ _ _ (Stp.refl s) rfl⟩) hg hm PySem.boot_len (by decide) (by decide) he
end
end Pv
/-! Walking over objects of the program's own classes -/
namespace Pv
open Rp (rp)
open Ow (ow)
open Da (toD)
open PySem L2 PySem.Spec PyProof.Rows
/-- pyIter of an own object gives an iterator -/
def OwnI (X : Cx) (n : Nat) (r : V → Hp → (It → Hp → Prop) → Prop) : Prop :=
  ∀ (A : Around) (pins : List (Addr × Obj)) (σ : L2.St) (H : Hp) (s : Shared) (tg : Expr) (v : V) (u : Value) (R : It → Hp → Prop), Sub X n A → L2.Inv X pins σ H s → RelV v u → r v H R → wpAny (model X.prog X.w) A (pyIter u) (PIE X pins σ tg R) X.xe s
theorem inv_at {X : Cx} {pins : List (Addr × Obj)} {σ : L2.St} {H : Hp} {s : Shared} (I : L2.Inv X pins σ H s) {A : Around} (hf : A.frames = X.A.frames) (hh : A.handled = none) : L2.Inv { X with A := A } pins σ H s :=
  { I with ok := { I.ok with hd := fun _ => hh, frames := hf.trans I.ok.frames } }
section
variable {X : Cx} {n : Nat} {r : V → Hp → (It → Hp → Prop) → Prop}
theorem pi_own {tg e : Expr} {te : TE} (he : PE X e te) (h : OwnI X n r) (hr : Room n X.A) : PI X tg e (fun σ H R => te σ H fun x H1 => r x H1 R) :=
  ⟨fun pins s σ H R I q => thn (he.run pins s σ H _ I q) fun u s1 ⟨x, H1, I1, rx, q1⟩ => h X.A pins σ H1 s1 tg x u R ⟨hr, rfl⟩ I1 rx q1⟩
abbrev xTg : Expr := .Name "x" ⟨0, 0, 0, 0⟩
/-- the loop of list(o): one item after another -/
theorem ext_loop {A1 : Around} {pins : List (Addr × Obj)} {σ : L2.St} {J : It} {fp : List Addr} {it q : Addr} {tn : Nat → Heap → Prop} {Rs : Result → Shared → Prop} {W : Nat → Nat → List V → Hp → Prop} {Fn : List V → Hp → Prop}
    (hA : A1.in1.frames = X.A.frames) (hh : A1.in1.handled = none) (hc : X.calm = true) (T : Turn X.prog X.w X.K xTg J fp it tn)
    (hfp : ∀ H', (∀ b ∈ fp, H' b = none) → ∀ b ∈ fp, FpOk X pins H' b) (hq : ∀ b ∈ fp, b ≠ q)
    (turn : ∀ i m acc H, W i m acc H → H q = some (.lst acc) ∧ ((J.stop i H ∧ Fn acc H) ∨ (J.go i H ∧ acc.length < sizeLine ∧ ∀ x H', J.yld i H x H' → H' q = some (.lst acc) ∧ ∃ m', m' < m ∧ W (i + 1) m' (acc ++ [x]) (upd H' q (.lst (acc ++ [x]))))))
    (hd : ∀ acc H s, L2.Inv X pins σ H s → Fn acc H → Rs (.ok (.ret .none)) s) :
    ∀ (m i : Nat) (acc : List V) (H : Hp) (s : Shared), L2.Inv X pins σ H s → (∀ b ∈ fp, H b = none) → tn i s.heap → W i m acc H → codeAny (model X.prog X.w) A1 (.builtin "list.extend.loop" ⟨[.ref q, .ref it, .none], []⟩) Rs s := by
  intro m
  induction m using Nat.strongRecOn with
  | _ m ih =>
    intro i acc H s I hn st hW
    refine codeAny_builtin PySem.F.entry_extend_loop ?_
    rw [Around.under_plainId PySem.F.plain_extend_loop _]
    show wpAny _ A1.in1 (pyNext (.ref it) >>= _) _ _ s
    have J0 := inv_at I hA hh
    obtain ⟨hqa, hcase⟩ := turn i m acc H hW
    rcases hcase with ⟨stop, fin⟩ | ⟨go, hlen, step⟩
    · refine wpAny_bind (wpAny_mono (T.done { X with A := A1.in1 } rfl rfl rfl hc i pins s σ H (fun _ _ => False) J0 (hfp H hn) st stop) (fun r s' hr => ?_) fun _ _ z => z.elim)
      obtain ⟨rfl, I'⟩ := hr
      exact wpAny_pure (hd acc H s' (inv_at I' (A := X.A) hA.symm (I.ok.hd hc)) fin)
    · refine wpAny_bind (wpAny_mono (T.item { X with A := A1.in1 } rfl rfl rfl hc i pins s σ H (fun _ _ => False) J0 (hfp H hn) st go) (fun r s' hr => ?_) fun _ _ z => z.elim)
      obtain ⟨u, rfl, hi⟩ := hr
      have key : wpAny (model X.prog X.w) A1.in1 ((pure () : Sem Unit) >>= fun _ => (updateSeq q (·.push u) >>= fun _ => (pure (PySem.Fin.again (.builtin "list.extend.loop" ⟨[.ref q, .ref it, .none], []⟩)) : Sem PySem.Fin)))
          (fun fin s' => match fin with | .done f => Rs (.ok f) s' | .again c' => c'.quiet = true ∧ codeAny (model X.prog X.w) A1 c' Rs s') (fun e s' => Rs (.error e) s') s' := by
        refine wpAny_bind (wpAny_mono hi (fun _ s'' hx => ?_) fun _ _ z => z.elim)
        obtain ⟨x, H', I', rx, y, st', hn'⟩ := hx
        obtain ⟨hqa', m', hm, hW'⟩ := step x H' y
        have I1 : L2.Inv X pins σ H' s'' := inv_at I' (A := X.A) hA.symm (I.ok.hd hc)
        obtain ⟨z, its, k, r2, hl, e⟩ := I1.lstM hqa'
        refine wpAny_bind (wpAny_updateSeq e rfl (wpAny_pure ⟨plainId_quiet PySem.F.plain_extend_loop _, ?_⟩) (by rw [List.size_toArray]; omega) (by show (its.toArray.push u).size ≤ sizeLine + 1; rw [Array.size_push, List.size_toArray]; omega))
        have I2 := I1.lset (f := (·.push u)) (its' := its ++ [u]) (t' := s''.toks) hqa' e (by simp) (r2.append (.cons rx .nil)) (by rw [List.length_append, List.length_singleton]; omega)
        refine ih m' hm (i + 1) (acc ++ [x]) _ _ I2 (fun b hb => ?_) (T.keep _ _ _ st' fun b hb o e2 => ?_) hW'
        · rw [upd_ne (hq b hb)]; exact hn' b hb
        · rw [Heap.get?_update_other _ _ (fun z => hq b hb z.symm)]; exact e2
      exact key
/-- how long an own object with __len__ says it is -/
theorem hint_own {C f a : Addr} {fd : FuncData} {ps : List Str} {sp : Sp} {k : Nat} {A : Around} {E : Value → Shared → Prop} {Q : Bool → Shared → Prop} {pins : List (Addr × Obj)} {σ : L2.St} {H : Hp} {s : Shared} {dx : Addr} {fs : List (Str × V)}
    (F : FnOk X.prog X.w X.K X.mg X.base CX0 k f fd ps sp) (hb : Binds X.K fd ps []) (sb : Sub X (k + 1) A) (hs : PySem.W.findIn X.K (.ref C) "__len__" = some (some (.ref f))) (hf : PySem.W.isFn X.K (.ref f) = true)
    (I : L2.Inv X pins σ H s) (ha : H a = some (.ins C dx fs)) (h : sp [.ref a] H (fun v H' => ∃ i : Int, v = .int i ∧ 0 ≤ i ∧ i ≤ 16777216 ∧ ∀ b s', L2.Inv X pins σ H' s' → Q b s') E0) : wpAny (model X.prog X.w) A (Builtin.List.listLengthHint (.ref a)) Q E s := by
  obtain ⟨mA, J, _⟩ := ins_get I.hok ha
  obtain ⟨od, J, _⟩ := J.look
  obtain ⟨m, hF⟩ := I.fr
  unfold Builtin.List.listLengthHint
  refine wpAny_bind (wpAny_bind (J.type.here ((PySem.W.looks_findIn I.kIn hs).here ?_)))
  refine PySem.W.KFB.if_not rfl ?_
  simp only [Option.isSome_some, if_true]
  refine wpAny_bind (wpAny_rule (wpAny_bind (wpAny_attempt ?_)))
  have IN : L2.Inv X.nox pins σ H s := I.wish _
  refine wpAny_mono (PySem.W.len_K hF I.ok.mod.kin J hs hf (Q := fun v s' => ∃ (i : Int) (t : Tok), v = .int i t ∧ 0 ≤ i ∧ i ≤ 16777216 ∧ ∀ b, Q b s') (E := fun _ _ => False) ?_) (fun v s' hv => ?_) (fun _ _ z => z.elim)
  · refine wpAny_mono (own_run (X := X.nox) (n := k) (us := [.ref a]) (vs := [.ref a]) ⟨(Sub.in1 sb).room, (Sub.in1 sb).fr⟩ F hb pass0 IN (.cons rfl .nil) h) (fun w s' hw => ?_) fun _ _ z => z
    obtain ⟨v, H', I', rv, i, rfl, h1, h2, q'⟩ := hw
    obtain ⟨t, rfl⟩ := rv
    exact ⟨⟨h1, by omega⟩, i, _, rfl, h1, h2, fun b => q' b _ (I'.unwish.tok _)⟩
  · obtain ⟨i, t, rfl, h1, h2, q⟩ := hv
    dsimp only
    refine wpAny_bind (m := asInt? (Value.int i t)) (wpAny_pure ?_)
    dsimp only
    rw [if_neg (by rw [notLongL (by rw [sizeLine_eq]; omega)]; exact Bool.false_ne_true)]
    exact wpAny_pure (q _)
end
end Pv
namespace Pv
open Rp (rp)
open Ow (ow)
open Da (toD)
open PySem L2 PySem.Spec PyProof.Rows
section
variable {X : Cx} {c : CL} {n k : Nat} {r : V → Hp → (It → Hp → Prop) → Prop} {γ α : Type} [Rp γ] [Rp α] {ob : γ} {xs : List α} {C f : Addr} {fd : FuncData} {ps : List Str} {sp : Sp} {L : Int}
/-- how an own object is walked, and what it says of its length -/
structure WkO (X : Cx) (c : CL) (r : V → Hp → (It → Hp → Prop) → Prop) (sp : Sp) (C : Addr) (L : Int) (ob : γ) (xs : List α) : Prop where
  ins : ∀ Hf H v, Same Hf H → rp X.K c Hf v ob → ∃ a dx fs, v = .ref a ∧ H a = some (.ins C dx fs)
  wk : ∀ Hf H v, Same Hf H → rp X.K c Hf v ob → ∀ R : It → Hp → Prop, (∀ J Hf' H', Stp Hf H Hf' H' → Wk X.K c Hf' J xs → R J H') → r v H R
  len : ∀ Hf H v, Same Hf H → rp X.K c Hf v ob → ∀ Q : VK, (∀ Hf' H', Stp Hf H Hf' H' → Q (.int L) H') → sp [v] H Q E0
  lo : 0 ≤ L
  hi : L ≤ 16777216
theorem thn' {β : Type} {t : Sem β} {Q Q' : β → Shared → Prop} {M : Model} {A : Around} {E E' : Value → Shared → Prop} {s : Shared} (h : wpAny M A t Q E s) (hQ : ∀ a s, Q a s → Q' a s) (hE : ∀ a s, E a s → E' a s) : wpAny M A t Q' E' s := wpAny_mono h hQ hE
theorem call_listO (hI : OwnI X n r) (F : FnOk X.prog X.w X.K X.mg X.base CX0 k f fd ps sp) (hb : Binds X.K fd ps []) (hs : PySem.W.findIn X.K (.ref C) "__len__" = some (some (.ref f))) (hf : PySem.W.isFn X.K (.ref f) = true)
    (hr : Room (n + k + 3) X.A) (hc : X.calm = true) (O : WkO X c r sp C L ob xs) (hl : xs.length < 1000000) :
    CallR X (.type "list") (fun vs H Q => ∃ v Hf, vs = [v] ∧ Same Hf H ∧ rp X.K c Hf v ob ∧ ∀ w Hf' H', Stp Hf H Hf' H' → rp X.K c Hf' w xs → Q w H') := by
  intro pins s σ H vs us Q I rv h
  obtain ⟨v, Hf, rfl, sm, hv, kQ⟩ := h
  obtain ⟨u, rfl, ru⟩ := rv.one
  obtain ⟨a, dx, fs, rfl, ha⟩ := O.ins Hf H v sm hv
  cases ru
  have hrn : Room n X.A.in1.in1 := (hr.mono (show n + 2 ≤ n + k + 3 by omega)).in1.in1
  have hrk : Room (k + 1) X.A.in1.in1 := (hr.mono (show k + 3 ≤ n + k + 3 by omega)).in1.in1
  refine callType_codes (Q₁ := fun obj s₁ => obj = .ref s.heap.objs.size ∧ s₁ = { s with heap := s.heap.push { cls := .type "list", data := .seq #[] } }) PySem.F.called_list (PySem.F.typeCall_list_1 _) PySem.F.entry_list_init (code_list_new _ ⟨rfl, rfl⟩) fun obj s₁ h₁ => ?_
  obtain ⟨rfl, rfl⟩ := h₁
  generalize hq : s.heap.objs.size = q
  have hS : (s.heap.push { cls := .type "list", data := .seq #[] }).get? q = some { cls := .type "list", data := .seq #[] } := by rw [← hq]; exact Heap.get?_push_size _ rfl
  refine ⟨⟨_, hS, rfl⟩, PySem.F.args_list_init_2 _ _, ?_⟩
  have fr : H q = none := I.hok.fresh (Nat.le_of_eq hq)
  have I1 : L2.Inv X pins σ (upd H q (.lst [])) { s with heap := s.heap.push { cls := .type "list", data := .seq #[] } } := by
    rw [← hq]; exact I.lnew (its := []) (t' := s.toks) .nil (Nat.zero_le _)
  show wpAny _ _ (do let old ← Builtin.List.listItems (.ref q); Builtin.List.listUpdate (.ref q) (fun _ => #[]); letGo old.toList.reverse; Builtin.List.listExtendWith (.ref q) (.ref a) .none) _ _ _
  refine wpAny_bind ?_
  unfold Builtin.List.listItems
  refine wpAny_bind (wpAny_seqItems hS rfl (wpAny_pure ?_))
  show wpAny _ _ (updateSeq q (fun _ => #[]) >>= fun _ => letGo (#[] : Array Value).toList.reverse >>= fun _ => Builtin.List.listExtendWith (.ref q) (.ref a) .none) _ _ _
  refine wpAny_bind (wpAny_updateSeq hS rfl ?_)
  have I2 := I1.lset (f := fun _ => #[]) (its := []) (its' := []) (ys := []) (t' := s.toks) upd_same hS rfl .nil (Nat.zero_le _)
  rw [upd_upd] at I2
  refine wpAny_bind (wpAny_letGo ?_)
  generalize hs2 : ({ s with heap := _, toks := s.toks } : Shared) = s2 at I2
  have ha2 : upd H q (.lst []) a = some (.ins C dx fs) := (upd_ne (ne_of_none ha fr)).trans ha
  have sm2 : Same Hf (upd H q (.lst [])) := sm.trans (same_new fr)
  obtain ⟨mA, JA, _⟩ := ins_get I2.hok ha2
  obtain ⟨odA, JA, _⟩ := JA.look
  have hne : q ≠ a := (ne_of_none ha fr).symm
  unfold Builtin.List.listExtendWith
  refine wpAny_bind (JA.type.here ?_)
  have h1 : Builtin.List.listSameRef (.ref q) (.ref a) = false := by simp [Builtin.List.listSameRef, hne]
  have h2 : (Value.ref C == Value.type "list") = false := rfl
  have h3 : (Value.ref C == Value.type "tuple") = false := rfl
  simp only [h1, h2, h3, Bool.or_false, Bool.false_eq_true, if_false]
  refine wpAny_bind (wpAny_mono (hI X.A.in1.in1 pins σ _ s2 xTg (.ref a) (.ref a) _ ⟨hrn, rfl⟩ I2 rfl (O.wk Hf _ _ sm2 hv _ fun J Hf' H' st wk => (⟨Hf', st, wk⟩ : ∃ Hf', Stp Hf (upd H q (.lst [])) Hf' H' ∧ Wk X.K c Hf' J xs))) (fun itv s3 hp => ?_) fun _ _ z => z)
  obtain ⟨it, fp, tn, J, H3, rfl, I3, T, st3, f3, Hf3, sp3, wk⟩ := hp
  have ha3 := sp3.h _ _ ha2
  have hq3 := sp3.h _ _ (upd_same (H := H) (a := q) (o := .lst []))
  have hfq : ∀ b ∈ fp, b ≠ q := fun b hb z => by have := (f3 b hb).1; rw [z, hq3] at this; cases this
  have base : Stp Hf H Hf3 H3 := ⟨sp3.f, fun b o e => sp3.h b o ((upd_ne (ne_of_none e fr)).trans e), sp3.s, fun b o e1 e2 nt => sp3.d b o e1 ((upd_ne (ne_of_none e2 fr)).trans e2) nt⟩
  have hfq3 : Hf3 q = none := sp3.d q _ (sm.free fr) upd_same trivial
  refine wpAny_bind (wpAny_holding (hint_own (k := k) F hb ⟨hrk, rfl⟩ hs hf (I3.pinned f3 (T.obj _ _ st3)) ha3 (O.len Hf3 H3 (.ref a) sp3.s (Rp.mono sp3.f hv) _ fun Hf4 H4 s4 => ⟨L, rfl, O.lo, O.hi, fun b s5 I5 => ?_⟩)))
  have pin : ∀ b ∈ fp, (∀ o, s3.heap.get? b = some o → s5.heap.get? b = some o) ∧ H4 b = none := fun b hb => by
    obtain ⟨o, e, _⟩ := T.obj _ _ st3 b hb
    have z := I5.pin (b, o) (List.mem_append_right _ (List.mem_append_right _ (mem_pinsAt hb e)))
    exact ⟨fun o' e' => by rw [e] at e'; cases e'; exact z.1, z.2.1⟩
  have st5 : tn 0 s5.heap := T.keep _ _ _ st3 fun b hb o e => (pin b hb).1 o e
  have I6 : L2.Inv X pins σ H4 s5 := I5.unpinned
  have hq4 := s4.h _ _ hq3
  have base4 := base.trans s4
  have hfq4 : Hf4 q = none := s4.d q _ hfq3 hq3 trivial
  have loop : ∀ (s6 : Shared), L2.Inv X pins σ H4 s6 → tn 0 s6.heap → codeAny (model X.prog X.w) X.A.in1 (.builtin "list.extend.loop" ⟨[.ref q, .ref it, .none], []⟩) (wants (fun r s₂ => r = .none ∧ EP X pins σ Q (.ref q) s₂) X.xe) s6 := fun s6 I7 st6 =>
    ext_loop (A1 := X.A.in1) (X := X) (Fn := fun acc H' => ∃ Hf', Stp Hf H Hf' H' ∧ rp X.K c Hf' (.ref q) xs) rfl (I.ok.hd hc) hc T (fun H' hn b hb => ⟨hn b hb, (f3 b hb).2⟩) hfq
      (W := fun i m acc H' => m = xs.length - i ∧ i ≤ xs.length ∧ ∃ Hf', Same Hf3 Hf' ∧ Stp Hf H Hf' H' ∧ Hf' q = none ∧ H' q = some (.lst acc) ∧ RpL X.K c Hf' acc (xs.take i))
      (fun i m acc H' ⟨e1, e2, Hf', w1, w2, w3, w4, w5⟩ => ⟨w4, by
        by_cases hlt : i < xs.length
        · refine .inr ⟨wk.go i H' hlt (w1.trans w2.s), by rw [w5.len, List.length_take]; exact Nat.lt_of_le_of_lt (Nat.min_le_left _ _) (Nat.lt_of_lt_of_le (Nat.lt_trans hlt hl) (by decide)), fun x H'' y => ?_⟩
          obtain ⟨Hf'', z1, a', z2, z3⟩ := wk.yld i Hf' H' x H'' w1 w2.s hlt y
          have w4' := z1.h _ _ w4
          have w3' := z1.d q _ w3 w4 trivial
          have st2 := w2.trans z1
          refine ⟨w4', xs.length - (i + 1), by omega, rfl, hlt, Hf'', w1.trans z1.f, ⟨st2.f, fun b o e => ?_, fun b o e => ?_, st2.d⟩, w3', upd_same, ?_⟩
          · rw [upd_ne (ne_of_none e fr)]; exact st2.h b o e
          · rw [upd_ne (ne_of_none e w3')]; exact st2.s b o e
          · rw [take_succ' z2]
            exact paired_append (w5.mono z1.f) (.cons z3 .nil)
        · have e : i = xs.length := by omega
          subst e
          rw [List.take_length] at w5
          refine .inl ⟨wk.stop H' (w1.trans w2.s), upd Hf' q (.lst acc), ⟨fun b o z => ?_, w2.h, fun b o z => ?_, fun b o z z' nt => ?_⟩, q, acc, rfl, .inl (.inl upd_same), rpl_upd w3 w5⟩
          · rw [upd_ne (ne_of_none (w2.f b o z) w3)]; exact w2.f b o z
          · by_cases g : b = q
            · subst g; rw [upd_same] at z; rw [w4]; exact z
            · rw [upd_ne g] at z; exact w2.s b o z
          · rw [upd_ne (ne_of_none z' fr)]; exact w2.d b o z z' nt⟩)
      (fun acc H' s' I' ⟨Hf', g1, g2⟩ => ⟨rfl, .ref q, H', I', rfl, kQ _ Hf' H' g1 g2⟩) xs.length 0 [] H4 s6 I7 (fun b hb => (pin b hb).2) st6 ⟨rfl, Nat.zero_le _, Hf4, s4.f, base4, hfq4, hq4, .nil⟩
  obtain ⟨zl, its, kk, r3, hl3, e3⟩ := I6.lstM hq4
  cases r3
  refine wpAny_ite_split (fun _ => ?_) (fun _ => wpAny_pure ⟨plainId_quiet PySem.F.plain_extend_loop _, loop _ I6 st5⟩)
  refine wpAny_bind (wpAny_rule ?_)
  refine wpAny_bind ?_
  show wpAny _ _ (updateSeq q (·.push .none) >>= fun _ => updateSeq q (·.pop)) _ _ _
  refine wpAny_bind (wpAny_updateSeq e3 rfl ?_)
  have J2 := I6.lset (f := (·.push Value.none)) (its' := [Value.none]) (ys := [.non]) (t' := s5.toks) hq4 e3 (by simp) (.cons rfl .nil) (by rw [List.length_singleton, sizeLine_eq]; decide)
  obtain ⟨z4, its4, k4, r4, hl4, e4⟩ := J2.lstM upd_same
  obtain ⟨u4, rfl, ru4⟩ := r4.one
  refine wpAny_updateSeq e4 rfl ?_ (by show 1 ≤ sizeLine; rw [sizeLine_eq]; decide) (by show 0 ≤ sizeLine + 1; exact Nat.zero_le _)
  have J3 := J2.lset (f := (·.pop)) (its := [u4]) (its' := []) (ys := []) (t' := s5.toks) upd_same e4 (by rfl) .nil (Nat.zero_le _)
  rw [upd_upd] at J3
  have hH : upd H4 q (.lst []) = H4 := by
    funext b
    by_cases hb : b = q
    · rw [hb, upd_same, hq4]
    · rw [upd_ne hb]
  rw [hH] at J3
  refine wpAny_pure ⟨plainId_quiet PySem.F.plain_extend_loop _, loop _ J3 (T.keep _ _ _ st5 fun b hb o e => ?_)⟩
  rw [Heap.get?_update_other _ _ (fun z => hfq b hb z.symm), Heap.get?_update_other _ _ (fun z => hfq b hb z.symm)]
  exact e
end
end Pv
namespace Pv
open Rp (rp)
open Ow (ow)
open Da (toD)
open PySem L2 PySem.Spec PyProof.Rows
/-- a def runs, from one state: its body may speak of that state -/
theorem run_body {P : Program} {w : World} {K : PySem.W.Frag} {mg : Str → Option Value} {base : Heap} {CI : CXT} {k : Nat} {x qual : Str} {st : Stmt} {f : Addr} {fd : FuncData} {N ps : List Str} (F : Fun K x qual st f fd) (S : FnScope N ps (defScope st))
    {A : Around} {outer : List Env} {s : Shared} {H : Hp} {us : List Value} {vs : List V} {Q : VK} {E : XK} (hr : Room (k + 1) A) (e0 : Env0 P w K mg base A outer s H) (hb : Binds K fd ps []) (r : Vals vs us) (hl : vs.length = ps.length)
    (hbody : ∀ cdv, Room k (A.deeper (envOfC qual (defScope st) s.heap.objs.size f cdv)) → ∃ t, PSs (cxOf CI P w K mg base N qual (defScope st) f cdv A outer s H E) (defBody st) t ∧ t { nx := fun _ H' => Q .non H', rt := Q } (L2.start N vs) H) :
    codeAny (model P w) A (.call (.ref f) ⟨us, []⟩) (CR CI outer P w H s Q E) s := by
  obtain ⟨oc, od, kV, doc, pm, an, cdv, ct, osl, rfl, lk, hcd⟩ := F.ex
  have KX : K.In s.heap := e0.mod.kin.keeps fun b o e => (e0.bs b o e).1
  have lim : s.heap.NoLimit := e0.mod.nolimit.keeps fun b o e => (e0.bs b o e).1
  have hl' : us.length = ps.length := by rw [← r.length]; exact hl
  have hb' := hb s us KX (by simpa using hl')
  rw [List.append_nil] at hb'
  have hkind : ∀ y ∈ ps.zip us, (defScope st).names.lookup y.1 = some .local ∨ ((defScope st).names.lookup y.1 = some .cell ∧ ((cellsFrom (s.heap.objs.size + 1) (defScope st).names []).lookup y.1).isSome = true) := by
    rintro ⟨n, v⟩ hy
    rcases S.par n (List.of_mem_zip hy).1 with q | q
    · exact .inl q
    · exact .inr ⟨q, PySem.W.cellsFrom_some _ _ _ (.inl q)⟩
  refine codeAny_call_function hr.depth (KX _ _ lk) rfl S.co S.gen rfl (PySem.W.codeRec_of KX hcd) (hb' _ _ _ _ (wpAny_newFunctionEnv_cells S.kind hkind fun env he s1 x => ?_))
  subst he
  refine ⟨lim.keeps x.toInCall.keep, codeAny_func ?_⟩
  obtain ⟨t, ht, hq⟩ := hbody cdv (hr.deeper _)
  have I := inv_start (CX := CI) (E := E) S hr.hd e0 hl r x
  refine wpAny_mono (ht.run [] s1 (L2.start N vs) H _ I hq) (fun fl s' hs => ?_) fun e s' hs => hs
  cases fl with
  | ret u =>
    obtain ⟨v, σ', H', J, rv, q⟩ := hs
    exact ⟨v, H', J.os, J.bare, J.base, J.hok, rv, q⟩
  | next =>
    obtain ⟨σ', H', J, q⟩ := hs
    exact ⟨.non, H', J.os, J.bare, J.base, J.hok, rfl, q⟩
  | brk => obtain ⟨_, _, _, q⟩ := hs; exact q.elim
  | cont => obtain ⟨_, _, _, q⟩ := hs; exact q.elim
/-! ### an iterator over the keys of a locked dict, as an object -/
def itK (it d : Addr) (n ep : Nat) : HO := .ext fun h => h.IsKeyIter it d 0 n ep
theorem itK_ok {P : Program} {w : World} {H : Hp} {h : Heap} {it d : Addr} {n ep : Nat} (e : h.IsKeyIter it d 0 n ep) : ObjOk P w H h it (itK it d n ep) := by
  obtain ⟨o, e1, e2⟩ := id e
  exact ⟨e, ⟨o, e1⟩, fun h1 h2 q k => q.at k⟩
def rIterK (m : Nat) : List V → Hp → VK → Prop := fun xs H Q => ∃ (d : Addr) (od : Obj) (kvs : List (List Key × V)), xs = [.ref d] ∧ H d = some (.frz od (.dT kvs)) ∧ ∀ it es ep, H it = none → m ≤ it → od.data = .dict es ep → Q (.ref it) (upd H it (itK it d kvs.length ep))
theorem call_iterK {X : Cx} : CallR X (.builtin "iter") (rIterK X.s_0.heap.objs.size) := by
  intro pins s σ H xs us Q I r h
  obtain ⟨d, od, kvs, rfl, hd, q⟩ := h
  obtain ⟨u, rfl, ru⟩ := vals1 r
  cases ru
  obtain ⟨hs, hgd, hx, es, ep, hdt, hsz, ent⟩ := I.frzT hd
  refine Calls.call_function_entry (by decide +kernel) (by decide +kernel) PySem.W.kdk_entry_iter (PySem.W.kdk_args_iter _) ?_
  unfold Builtin.«iter»
  refine wpAny_bind (m := someArgs "iter" 1 2 _) (wpAny_of_eq (a := [Value.ref d]) (by first | rfl | kernel_rfl!) ?_)
  show wpAny _ _ (pyIter (.ref d) >>= _) _ _ _
  refine wpAny_bind (iter_keys hs hgd hx hdt (wpAny_pure ⟨_, rfl, ?_⟩))
  have hn : H s.heap.objs.size = none := I.hok.fresh (Nat.le_refl _)
  refine ⟨.ref s.heap.objs.size, _, I.laid (t' := s.toks) (fun b u e => Heap.get?_push_of_some _ e) (Nat.le_refl _) (itK_ok ?_), rfl, q _ es ep hn I.sz hdt⟩
  exact ⟨_, Heap.get?_push_size _ rfl, rfl, by rw [← hsz]; rfl⟩
/-- the class's __iter__ is «return iter(self.FIELD)», the field a locked dict -/
structure ItF (X : Cx) (C : Addr) (fld : Str) (f : Addr) : Prop where
  ex : ∃ (fd : FuncData) (N ps : List Str) (x qual : Str) (st : Stmt), Fun X.K x qual st f fd ∧ FnScope N ps (defScope st) ∧ Binds X.K fd ps [] ∧ ps.length = 1 ∧
    ∀ Y : Cx, Y.K = X.K → Y.mg = X.mg → Y.N = N → Y.env.scope = defScope st → Y.calm = true → PSs Y (defBody st) (tRet (tCB (rIterK Y.s_0.heap.objs.size) (tCons (tFld Y.K (tVar 0) fld) tNil)))
  it : PySem.W.findIn X.K (.ref C) "__iter__" = some (some (.ref f))
  itF : PySem.W.isFn X.K (.ref f) = true
  cl : Cls X.K C
  na : NoAttr X.K C fld
def rOwnK (C : Addr) (fld : Str) : V → Hp → (It → Hp → Prop) → Prop := fun v H R => ∃ a dx fs d od kvs, v = .ref a ∧ H a = some (.ins C dx fs) ∧ fs.lookup fld = some (.ref d) ∧ H d = some (.frz od (.dT kvs)) ∧ R (Itkt d od kvs) H
theorem ownI_key {X : Cx} {C f : Addr} {fld : Str} (T : ItF X C fld f) : OwnI X 1 (rOwnK C fld) := by
  intro A pins σ H s tg v u R sb I rv h
  obtain ⟨a, dx, fs, d, od, kvs, rfl, ha, hl, hd, hR⟩ := h
  cases rv
  obtain ⟨mA, J, _⟩ := ins_get I.hok ha
  obtain ⟨odA, J, _⟩ := J.look
  obtain ⟨m, hF⟩ := I.fr
  obtain ⟨fd, N, ps, x, qual, st, F, S, hb, h1, hps⟩ := T.ex
  refine PySem.W.owit_iter hF I.ok.mod.kin J T.it T.itF ?_
  have e0 : Env0 X.prog X.w X.K X.mg X.base A X.stack s H := { I.env0 with frames := by rw [sb.fr]; exact I.env0.frames }
  obtain ⟨_, _, _, es, ep, hdt, hsz, _⟩ := I.frzT hd
  refine wpAny_call (codeAny_mono (run_body (CI := CX0) (k := 0) (N := N) (E := E0) (Q := fun v H' => ∃ it, v = .ref it ∧ H it = none ∧ s.heap.objs.size ≤ it ∧ H' = upd H it (itK it d kvs.length ep)) F S sb.room e0 hb (vs := [.ref a]) (.cons rfl .nil) (by rw [h1]; rfl) fun cdv hr => ⟨_, hps _ rfl rfl rfl rfl rfl, ?_⟩) fun r s' hq => ?_)
  · refine ⟨.ref a, ?_, a, C, dx, fs, .ref d, rfl, ha, T.cl, T.na, hl, d, od, kvs, rfl, hd, fun it es' ep' n1 n2 n3 => ⟨it, rfl, n1, n2, ?_⟩⟩
    · unfold L2.start; rfl
    · rw [hdt] at n3; cases n3; rfl
  · cases r with
    | error e => exact hq.elim
    | ok fl =>
      cases fl with
      | next => exact hq.elim
      | brk => exact hq.elim
      | cont => exact hq.elim
      | ret u =>
        obtain ⟨v, H', I', rv, it, rfl, n1, n2, rfl⟩ := I.after hq
        cases rv
        have hk : s'.heap.IsKeyIter it d 0 kvs.length ep := (I'.hok it _ upd_same).1
        have fp := ItX.inv_fp I' (a := it) upd_same (Nat.le_trans I.sz n2)
        have I2 := ItX.inv_drop I' (a := it) upd_same
        rw [ItX.dropH_upd n1] at I2 fp
        obtain ⟨oi, ei, ci, di⟩ := id hk
        unfold PySem.W.OwitIt
        refine wpAny_bind (((PySem.W.Looks.ld ei).andThen .now : PySem.W.Looks _ _ (typeOf (.ref it)) oi.cls).here ?_)
        rw [ci]
        show wpAny _ _ (typeLookup (.type "dict_keyiterator") (Str.ofString "__next__")) _ _ _
        rw [show typeLookup (.type "dict_keyiterator") (Str.ofString "__next__") = _ from PySem.F.slot_dict_keyiterator_next.lookup]
        exact wpAny_pure ⟨it, [it], _, _, H, rfl, I2, turn_keysT it hdt, hk, fun b hb => by rw [List.mem_singleton.mp hb]; exact fp, hR⟩
end Pv
/-! Objects of the program's own classes -/
namespace Pv
open Rp (rp)
open Ow (ow)
open Da (toD)
open PySem L2
/-- an object that its def may still change -/
structure Raw : Type 1 where
  cls : String
  p : Addr
  fs : List (Str × Pk)
instance : Ow Raw where
  ow := fun K c Hf H R v b => v = .ref b.p ∧ R = [b.p] ∧ ∃ dx fvs, H b.p = some (.ins (c b.cls) dx fvs) ∧ FR K c Hf fvs b.fs
  stay := fun s h ⟨h1, h2, dx, fvs, h3, h4⟩ => ⟨h1, h2, dx, fvs, by rw [h _ (by rw [h2]; exact List.mem_cons_self)]; exact h3, h4.mono s⟩
  here := fun ⟨h1, h2, dx, fvs, h3, h4⟩ a ha => by rw [h2] at ha; rw [List.mem_singleton.mp ha]; exact ⟨_, h3, trivial⟩
/-- values that are objects -/
class Ob (γ : Type) extends Rp γ where
  cls : String
  fl : γ → List (Str × Pk)
  iff : ∀ {K c H v b}, rp K c H v b ↔ ∃ p dx fvs, v = .ref p ∧ H p = some (.ins (c cls) dx fvs) ∧ FR K c H fvs (fl b)
@[reducible] def Ob.of {γ : Type} (cls : String) (fl : γ → List (Str × Pk)) : Ob γ where
  rp := fun K c H v b => ∃ p dx fvs, v = .ref p ∧ H p = some (.ins (c cls) dx fvs) ∧ FR K c H fvs (fl b)
  mono := fun e ⟨p, dx, fvs, h1, h2, h3⟩ => ⟨p, dx, fvs, h1, e _ _ h2, h3.mono e⟩
  cls := cls
  fl := fl
  iff := Iff.rfl
section
variable {X : Cx} {c : CL} {Γ : List Sl} {W : WX} {D : En} {rest : List Stmt} {pos apos p0 : Pos} {γ : Type} [Ob γ] {ob : γ} {o e : Expr} {es : List Expr}
/-- what the top says of a class -/
structure Kl (K : PySem.W.Frag) (c : CL) (γ : Type) [Ob γ] : Prop where
  cl : Cls K (c (Ob.cls γ))
  na : ∀ (b : γ) f, f ∈ (Ob.fl b).map (·.1) → NoAttr K (c (Ob.cls γ)) f
theorem e_fld {f : Str} {α : Type} [Rp α] {z : α} (T : Kl X.K c γ) (h : E X c Γ o ob) (hz : (Ob.fl ob).lookup f = some ⟨z⟩) (hm : f ∈ (Ob.fl ob).map (·.1)) (hb : attributeBase o f X.env (eval o X.env) = eval o X.env := by rfl) : E X c Γ (.Attribute o f pos) z := fun _ _ σ Hf H g Q k =>
  ⟨_, pe_fld pe_w hb, h _ _ σ Hf H g _ fun v Hf1 H1 s1 r1 => by
    obtain ⟨p, dx, fvs, rfl, h1, h2⟩ := Ob.iff.mp r1
    obtain ⟨w, h3, h4⟩ := h2.get hz
    exact ⟨p, _, dx, fvs, w, rfl, s1.s _ _ h1, T.cl, T.na ob f hm, h3, k w Hf1 H1 s1 h4⟩⟩
/-- a method that raises nothing, as its callers see it -/
structure Mt (P : Program) (w : World) (K : PySem.W.Frag) (mg : Str → Option Value) (base : Heap) (c : CL) (cls : String) (m : Str) (k : Nat) (R : List Pk → Pk → Prop) : Prop where
  ex : ∃ (f : Addr) (fd : FuncData) (ps : List Str), FnOk P w K mg base CX0 k f fd ps (fsp K c R) ∧ Meth K (c cls) m f ∧ PySem.W.fnIn K f = true ∧ Binds K fd ps []
theorem e_meth {m : Str} {k : Nat} {R : List Pk → Pk → Prop} {as : List Pk} {α : Type} [Rp α] {z : α} {pl : Sem Bool} (T : Kl X.K c γ) (M : Mt X.prog X.w X.K X.mg X.base c (Ob.cls γ) m k R) (hr : Room k X.A) (h : E X c Γ o ob) (ha : As X c Γ (e :: es) as) (hR : R (⟨ob⟩ :: as) ⟨z⟩) (hn : (Ob.fl ob).lookup m = none)
    (hst : starEach (e :: es) X.env = (false, eval e X.env) :: starEach es X.env := by rfl) (hpl : (backTo pos (starEach es X.env)).any (·.1) = false := by rfl)
    (ht : eval (.Call (.Attribute o m apos) (e :: es) [] pos) X.env = (do
      let ov ← eval o X.env
      standAt apos.atName
      let (f, first) ← holding [ov] (getMethod ov m pl)
      callWith pos f first (backTo pos (starEach (e :: es) X.env)) (backToKw pos (keywordEach [] X.env))) := by rfl) : E X c Γ (.Call (.Attribute o m apos) (e :: es) [] pos) z := fun _ _ σ Hf H g Q q => by
  obtain ⟨f, fd, ps, F, mt, _, hb⟩ := M
  refine ⟨_, pe_meth pe_w T.cl mt F hr hb .nil pass0 pa_w hst hpl ht, h _ _ σ Hf H g _ fun v Hf1 H1 s1 r1 => ?_⟩
  obtain ⟨p, dx, fvs, rfl, h1, h2⟩ := Ob.iff.mp r1
  refine ⟨p, dx, fvs, rfl, s1.s _ _ h1, h2.no hn, ha _ _ σ Hf1 H1 (g.step s1) _ fun vs Hf2 H2 s2 r2 => ?_⟩
  rw [List.append_nil]
  exact ⟨Hf2, ⟨ob⟩ :: as, ⟨z⟩, s2.s, .cons (Rp.mono s2.f r1) r2, hR, fun w Hf3 H3 s3 r3 => q w Hf3 H3 ((s1.trans s2).trans s3) r3⟩
theorem e_meth0 {m : Str} {k : Nat} {R : List Pk → Pk → Prop} {α : Type} [Rp α] {z : α} {pl : Sem Bool} (T : Kl X.K c γ) (M : Mt X.prog X.w X.K X.mg X.base c (Ob.cls γ) m k R) (hr : Room k X.A) (h : E X c Γ o ob) (hR : R [⟨ob⟩] ⟨z⟩) (hn : (Ob.fl ob).lookup m = none)
    (ht : eval (.Call (.Attribute o m apos) [] [] pos) X.env = (do
      let ov ← eval o X.env
      standAt apos.atName
      let (f, first) ← holding [ov] (getMethod ov m pl)
      callWith pos f first (backTo pos (starEach [] X.env)) (backToKw pos (keywordEach [] X.env))) := by rfl) : E X c Γ (.Call (.Attribute o m apos) [] [] pos) z := fun _ _ σ Hf H g Q q => by
  obtain ⟨f, fd, ps, F, mt, _, hb⟩ := M
  refine ⟨_, pe_meth0 pe_w T.cl mt F hr hb .nil pass0 ht, h _ _ σ Hf H g _ fun v Hf1 H1 s1 r1 => ?_⟩
  obtain ⟨p, dx, fvs, rfl, h1, h2⟩ := Ob.iff.mp r1
  exact ⟨p, dx, fvs, rfl, s1.s _ _ h1, h2.no hn, Hf1, [⟨ob⟩], ⟨z⟩, s1.s, .cons r1 .nil, hR, fun w Hf3 H3 s3 r3 => q w Hf3 H3 (s1.trans s3) r3⟩
/-! its own operators -/
theorem rv_own {k : Nat} {R : List Pk → Pk → Prop} {ob2 : γ} {α : Type} [Rp α] {z : α} (hR : R [⟨ob⟩, ⟨ob2⟩] ⟨z⟩) : RV2 X c (rOwn2 (c (Ob.cls γ)) (fsp X.K c R) E0) ob ob2 z := fun Hf H u v s hu hv Q q => by
  obtain ⟨p, dx, fvs, rfl, h1, h2⟩ := Ob.iff.mp hu
  obtain ⟨p2, dx2, fvs2, rfl, h3, h4⟩ := Ob.iff.mp hv
  exact ⟨p, p2, dx, fvs, dx2, fvs2, rfl, rfl, s _ _ h1, s _ _ h3, Hf, [⟨ob⟩, ⟨ob2⟩], ⟨z⟩, s, .cons hu (.cons hv .nil), hR, q⟩
theorem e_opO {op : Operator} {k : Nat} {R : List Pk → Pk → Prop} {ob2 : γ} {α : Type} [Rp α] {z : α} {a b : Expr} {m : Str} (M : Mt X.prog X.w X.K X.mg X.base c (Ob.cls γ) m k R) (hm : m = PySem.dunder op.info.2) (hr : Room k X.A) (hc : PySem.W.selfFirst X.K (c (Ob.cls γ)) = true) (ha : E X c Γ a ob) (hb : E X c Γ b ob2) (hR : R [⟨ob⟩, ⟨ob2⟩] ⟨z⟩) : E X c Γ (.BinOp a op b pos) z := by
  obtain ⟨f, fd, ps, F, mt, _, hbi⟩ := M
  subst hm
  exact e_op (op_own F hbi pass0 hr hc mt.at_ mt.fn) ha hb (rv_own (k := k) hR)
theorem looks_ty : ∀ (y : V) (t u : Value) (H : Hp) (s : Shared) (pins : List (Addr × Obj)) (σ : L2.St), L2.Inv X pins σ H s → RelV y u → TyX X.K H y t → PySem.W.Looks (model X.prog X.w) s.heap (typeOf u) t := by
  intro y t u H s pins σ I r ty
  have ob : ∀ {a : Addr} {o : Obj} {n : String}, s.heap.get? a = some o → o.cls = .type n → PySem.W.Looks (model X.prog X.w) s.heap (typeOf (.ref a)) (.type n) := fun h e => by
    rw [← e]; exact (PySem.W.Looks.ld h).andThen .now
  cases ty with
  | base b =>
    cases b with
    | non => cases r; exact PySem.W.Looks.of_pure rfl
    | bl x => cases r; exact PySem.W.Looks.of_pure rfl
    | int i => obtain ⟨t, rfl⟩ := r; exact PySem.W.Looks.of_pure rfl
    | str i => obtain ⟨t, rfl⟩ := r; exact PySem.W.Looks.of_pure rfl
    | flt i => obtain ⟨t, rfl⟩ := r; exact PySem.W.Looks.of_pure rfl
    | lst e => cases r; obtain ⟨_, _, n, _, h1⟩ := I.hok _ _ e; exact ob h1 rfl
    | frz e => cases r; obtain ⟨_, _, _, n, _, h1⟩ := I.hok _ _ e; exact ob h1 rfl
    | tup e => cases r; obtain ⟨_, _, _, o, h1, h2, _⟩ := I.hok _ _ e; exact ob h1 h2
    | dK e => cases r; obtain ⟨_, _, vs, _, o, es, ep, h1, h2, _⟩ := I.hok _ _ e; exact ob h1 h2.1
    | dT e => cases r; obtain ⟨_, _, xs, _, o, es, ep, h1, h2, _⟩ := I.hok _ _ e; exact ob h1 h2.1
    | ins e cl ha hn htk hm =>
      cases r
      obtain ⟨mA, J, _⟩ := ins_get I.hok e
      obtain ⟨od, J, _⟩ := J.look
      exact J.type
  | byt b => obtain ⟨t, rfl⟩ := r; exact PySem.W.Looks.of_pure rfl
  | set e => cases r; obtain ⟨o, _, _, _, h1, ex, _⟩ := I.hok _ _ e; exact ob h1 ex.1
  | kList e h => cases r; exact ob (I.kIn _ _ e) h
  | kTuple e h => cases r; exact ob (I.kIn _ _ e) h
  | kDict e h => cases r; exact ob (I.kIn _ _ e) h
  | fTuple e => cases r; obtain ⟨_, _, _, _, o, h1, h2, _⟩ := I.hok _ _ e; exact ob h1 h2
  | fDict e => cases r; obtain ⟨_, _, _, vs, _, o, es, ep, h1, h2, _⟩ := I.hok _ _ e; exact ob h1 h2.1
/-- what isinstance and the order of operands ask of a class -/
structure Kt (K : PySem.W.Frag) (C : Addr) : Prop where
  cl : Cls K C
  ha : PySem.W.findIn K (.ref C) "__class__" = some (some (.builtin "object.__class__"))
  hn : PySem.W.specialIn K (.builtin "object.__class__") "__get__" = some (some (.builtin "getset_descriptor.__get__"))
  ht : PySem.W.takesIn K (.builtin "object.__class__") = some true
  hm : PySem.W.mroIn K C (.type "object") = some true
theorem ty_ob {K : PySem.W.Frag} {H : Hp} {v : V} (T : Kt K (c (Ob.cls γ))) (r : rp K c H v ob) : TyX K H v (.ref (c (Ob.cls γ))) := by
  obtain ⟨p, dx, fvs, rfl, h1, h2⟩ := Ob.iff.mp r
  exact .base (.ins h1 T.cl T.ha T.hn T.ht T.hm)
/-- o op y by its own comparison -/
theorem e_cmpO {op : CmpOp} {k : Nat} {R : List Pk → Pk → Prop} {β : Type} [Rp β] {y : β} {α : Type} [Rp α] {z : α} {a b : Expr} {m : Str} {t : Value} (M : Mt X.prog X.w X.K X.mg X.base c (Ob.cls γ) m k R) (hm : m = (cmpInfo op).2.1) (hco : ∀ a b, compareOp op a b = richCompare op a b) (hr : Room k X.A)
    (hty : ∀ H v, rp X.K c H v y → TyX X.K H v t) (hn : PySem.W.notFirst X.K (c (Ob.cls γ)) t = true) (ha : E X c Γ a ob) (hb : E X c Γ b y) (hR : R [⟨ob⟩, ⟨y⟩] ⟨z⟩) (hmk : behindInMarks op b = false := by first | exact nomark _ | rfl) : E X c Γ (.Compare a [op] [b] pos) z := by
  obtain ⟨f, fd, ps, F, mt, _, hbi⟩ := M
  subst hm
  exact e_cmp (cop_own F hbi pass0 hr hco looks_ty mt.at_ mt.fn) ha hb (fun Hf H u v s hu hv Q q => by
    obtain ⟨p, dx, fvs, rfl, h1, h2⟩ := Ob.iff.mp hu
    exact ⟨p, dx, fvs, t, rfl, s _ _ h1, hty H v (Rp.mono s hv), hn, Hf, [⟨ob⟩, ⟨y⟩], ⟨z⟩, s, .cons hu (.cons hv .nil), hR, q⟩) hmk
theorem e_inO {k : Nat} {R : List Pk → Pk → Prop} {β : Type} [Rp β] {y : β} {z : Bool} {a b : Expr} (M : Mt X.prog X.w X.K X.mg X.base c (Ob.cls γ) "__contains__" k R) (hr : Room k X.A) (ha : E X c Γ a y) (hb : E X c Γ b ob) (hR : R [⟨ob⟩, ⟨y⟩] ⟨z⟩) (hmk : behindInMarks .In b = false := by rfl) :
    E X c Γ (.Compare a [.In] [b] pos) z := by
  obtain ⟨f, fd, ps, F, mt, _, hbi⟩ := M
  exact e_cmp (op_ownIn F hbi pass0 hr mt.at_ mt.fn) ha hb (fun Hf H u v s hu hv Q q => by
    obtain ⟨p, dx, fvs, rfl, h1, h2⟩ := Ob.iff.mp hv
    exact ⟨p, dx, fvs, rfl, s _ _ h1, Hf, [⟨ob⟩, ⟨y⟩], ⟨z⟩, s, .cons hv (.cons hu .nil), hR, fun w Hf' H' st r => ⟨z, r, q _ Hf' H' st rfl⟩⟩) hmk
theorem e_notInO {k : Nat} {R : List Pk → Pk → Prop} {β : Type} [Rp β] {y : β} {z : Bool} {a b : Expr} (M : Mt X.prog X.w X.K X.mg X.base c (Ob.cls γ) "__contains__" k R) (hr : Room k X.A) (ha : E X c Γ a y) (hb : E X c Γ b ob) (hR : R [⟨ob⟩, ⟨y⟩] ⟨z⟩) (hmk : behindInMarks .NotIn b = false := by rfl) :
    E X c Γ (.Compare a [.NotIn] [b] pos) (!z) := by
  obtain ⟨f, fd, ps, F, mt, _, hbi⟩ := M
  exact e_cmp (op_ownNotIn F hbi pass0 hr mt.at_ mt.fn) ha hb (fun Hf H u v s hu hv Q q => by
    obtain ⟨p, dx, fvs, rfl, h1, h2⟩ := Ob.iff.mp hv
    exact ⟨p, dx, fvs, rfl, s _ _ h1, Hf, [⟨ob⟩, ⟨y⟩], ⟨z⟩, s, .cons hv (.cons hu .nil), hR, fun w Hf' H' st r => ⟨z, r, q _ Hf' H' st rfl⟩⟩) hmk
theorem e_lenO {k : Nat} {R : List Pk → Pk → Prop} {z : Int} {a : Expr} (M : Mt X.prog X.w X.K X.mg X.base c (Ob.cls γ) "__len__" k R) (hr : Room (k + 1) X.A) (ha : E X c Γ a ob) (hR : R [⟨ob⟩] ⟨z⟩) (h1 : 0 ≤ z) (h2 : z < 9223372036854775808) (hm : X.mg "len" = none) (hg : Gl X "len" := by rfl)
    (he : starEach [a] X.env = (false, eval a X.env) :: starEach [] X.env := by rfl) : E X c Γ (.Call (.Name "len" p0) [a] [] pos) z := by
  obtain ⟨f, fd, ps, F, mt, _, hbi⟩ := M
  exact e_callB (call_ownLen F hbi pass0 hr mt.at_ mt.fn) (a_cons ha a_nil he) (fun Hf H vs s r Q q => by
    obtain ⟨v, rfl, hv⟩ := pkl1 r
    obtain ⟨p, dx, fvs, rfl, g1, g2⟩ := Ob.iff.mp hv
    exact ⟨p, dx, fvs, rfl, s _ _ g1, Hf, [⟨ob⟩], ⟨z⟩, s, .cons hv .nil, hR, fun w Hf' H' st r => ⟨z, r, h1, h2, q _ Hf' H' st rfl⟩⟩) hg hm PySem.boot_len (by decide) (by decide) he
theorem e_ixO {k : Nat} {R : List Pk → Pk → Prop} {β : Type} [Rp β] {y : β} {α : Type} [Rp α] {z : α} {a b : Expr} (M : Mt X.prog X.w X.K X.mg X.base c (Ob.cls γ) "__getitem__" k R) (hr : Room (k + 1) X.A) (ha : E X c Γ a ob) (hb : E X c Γ b y) (hR : R [⟨ob⟩, ⟨y⟩] ⟨z⟩)
    (hsl : ∀ o i, subscripted b true o i = runValue (.builtin "lifetime.subscript" ⟨[o, i], []⟩) := by intro _ _; with_unfolding_all rfl) : E X c Γ (.Subscript a b pos) z := fun _ _ σ Hf H g Q q => by
  obtain ⟨f, fd, ps, F, mt, hfn, hbi⟩ := M
  exact ⟨_, ix_own F hbi pass0 hr mt.at_ hfn mt.fn pe_w pe_w hsl, tOp_ok (z := z) ha hb (fun Hf H u v s hu hv Q q => by
    obtain ⟨p, dx, fvs, rfl, h1, h2⟩ := Ob.iff.mp hu
    exact ⟨p, dx, fvs, rfl, s _ _ h1, Hf, [⟨ob⟩, ⟨y⟩], ⟨z⟩, s, .cons hu (.cons hv .nil), hR, q⟩) g q⟩
end
end Pv
/-! Making objects -/
namespace Pv
open Rp (rp)
open Ow (ow)
open Da (toD)
open PySem L2
/-- e gives a new object that its def owns -/
def EN (X : Cx) (c : CL) (Γ : List Sl) (e : Expr) {γ : Type} [Ob γ] (ob : γ) : Prop :=
  ∀ (H0f H0 : Hp) (σ : L2.St) (Hf H : Hp), EnvOk X.K c H0f H0 Hf H σ Γ → ∀ Q : VK, (∀ p Hf' H', Stp Hf H Hf' H' → H p = none → NewAt X.K c Hf' H' p ⟨Ob.cls γ, Ob.fl ob⟩ → Q (.ref p) H') → wE X e σ H Q
theorem NewAt.fz {K : PySem.W.Frag} {c : CL} {Hf H Hf' H' : Hp} {p : Addr} {γ : Type} [Ob γ] {ob : γ} (s : Stp Hf H Hf' H') (hp : H p = none) (h : NewAt K c Hf' H' p ⟨Ob.cls γ, Ob.fl ob⟩) : ∃ Hf2, Stp Hf H Hf2 H' ∧ rp K c Hf2 (.ref p) ob := by
  obtain ⟨h1, dx, fvs, h2, h3⟩ := h
  refine ⟨upd Hf' p (.ins (c (Ob.cls γ)) dx fvs), ⟨s.f.trans (same_new h1), s.h, fun a o e => ?_, fun a o e1 e2 n => ?_⟩, Ob.iff.mpr ⟨p, dx, fvs, rfl, upd_same, h3.mono (same_new h1)⟩⟩
  · by_cases q : a = p
    · subst q; rw [upd_same] at e; rw [h2]; exact e
    · rw [upd_ne q] at e; exact s.s a o e
  · rw [upd_ne (ne_of_none e2 hp)]; exact s.d a o e1 e2 n
theorem EN.e {X : Cx} {c : CL} {Γ : List Sl} {e : Expr} {γ : Type} [Ob γ] {ob : γ} (h : EN X c Γ e ob) : E X c Γ e ob := fun _ _ σ Hf H g Q k =>
  h _ _ σ Hf H g Q fun p Hf' H' s hp n => by
    obtain ⟨Hf2, s2, r⟩ := n.fz s hp
    exact k _ Hf2 H' s2 r
/-- what an __init__ promises that raises nothing: the new object holds ob -/
def spI (K : PySem.W.Frag) (c : CL) {γ : Type} [Ob γ] (R : List Pk → γ → Prop) : Sp := fun vs H Q _ => ∃ (Hf : Hp) (p dx : Addr) (ws : List V) (ps : List Pk) (ob : γ), vs = .ref p :: ws ∧ Same Hf H ∧ PkL K c Hf ws ps ∧ R ps ob ∧ Hf p = none ∧ H p = some (.ins (c (Ob.cls γ)) dx []) ∧
  ∀ Hf' H', Stp Hf (del H p) Hf' H' → NewAt K c Hf' H' p ⟨Ob.cls γ, Ob.fl ob⟩ → Q .non H'
/-- a class whose objects can be made -/
structure Mq (P : Program) (w : World) (K : PySem.W.Frag) (mg : Str → Option Value) (base : Heap) (c : CL) (γ : Type) [Ob γ] (x : Str) (k : Nat) (R : List Pk → γ → Prop) : Prop where
  ex : ∃ (f : Addr) (fd : FuncData) (ps : List Str), Mk K (c (Ob.cls γ)) f ∧ FnOk P w K mg base CX0 k f fd ps (spI K c R) ∧ mg x = some (.ref (c (Ob.cls γ))) ∧ Binds K fd ps []
section
variable {X : Cx} {c : CL} {Γ : List Sl} {W : WX} {D : En} {rest : List Stmt} {pos apos p0 : Pos} {γ : Type} [Ob γ] {ob : γ} {o e : Expr} {es : List Expr}
theorem e_makeN {x : Str} {k : Nat} {R : List Pk → γ → Prop} {as : List Pk} (M : Mq X.prog X.w X.K X.mg X.base c γ x k R) (hr : Room (k + 1) X.A) (ha : As X c Γ (e :: es) as) (hR : R as ob) (hg : Gl X x := by rfl) (hdb : (x == ("__debug__" : Str)) = false := by decide)
    (he : starEach (e :: es) X.env = (false, eval e X.env) :: starEach es X.env := by rfl) (hpl : (backTo pos (starEach es X.env)).any (·.1) = false := by rfl) : EN X c Γ (.Call (.Name x p0) (e :: es) [] pos) ob := fun _ _ σ Hf H g Q q => by
  obtain ⟨f, fd, ps, mk, F, hm, hb⟩ := M
  refine ⟨_, pe_make mk F hr hg hm hb .nil pass0 pa_w hdb he hpl, ha _ _ σ Hf H g _ fun vs Hf1 H1 s1 r1 => fun y dx ny ndx nyx => ?_⟩
  rw [List.append_nil]
  have e0 : ∀ a, a ≠ y → upd (upd H1 dx (.own y)) y (.ins (c (Ob.cls γ)) dx []) a = upd H1 dx (.own y) a := fun a h => upd_ne h
  refine ⟨Hf1, y, dx, vs, as, ob, rfl, (s1.s.trans (same_new ndx)).trans (same_new (by rw [upd_ne nyx.symm]; exact ny)), r1, hR, s1.s.free ny, upd_same, fun Hf2 H2 s2 r2 => ⟨rfl, q y Hf2 H2 (s1.trans ⟨s2.f, fun a o h => ?_, s2.s, fun a o h1 h2 n => ?_⟩) (s1.h.free ny) r2⟩⟩
  · refine s2.h a o ?_
    rw [del_ne (ne_of_none h ny), e0 _ (ne_of_none h ny), upd_ne (ne_of_none h ndx)]
    exact h
  · refine s2.d a o h1 ?_ n
    rw [del_ne (ne_of_none h2 ny), e0 _ (ne_of_none h2 ny), upd_ne (ne_of_none h2 ndx)]
    exact h2
theorem e_make {x : Str} {k : Nat} {R : List Pk → γ → Prop} {as : List Pk} (M : Mq X.prog X.w X.K X.mg X.base c γ x k R) (hr : Room (k + 1) X.A) (ha : As X c Γ (e :: es) as) (hR : R as ob) (hg : Gl X x := by rfl) (hdb : (x == ("__debug__" : Str)) = false := by decide)
    (he : starEach (e :: es) X.env = (false, eval e X.env) :: starEach es X.env := by rfl) (hpl : (backTo pos (starEach es X.env)).any (·.1) = false := by rfl) : E X c Γ (.Call (.Name x p0) (e :: es) [] pos) ob := (e_makeN M hr ha hR hg hdb he hpl).e
/-- self.f = e of an object under construction -/
theorem ss_fld (i : Nat) {x f : Str} {p1 p2 : Pos} {r : Raw} {α : Type} [Rp α] {v : α} (hΓ : Γ[i]? = some (.own r)) (cl : Cls X.K (c r.cls)) (na : NoAttr X.K (c r.cls) f) (hl : r.fs.length < 1000) (h : E X c Γ e v) (hr : Ss X c W (Γ.set i (.own { r with fs := setF f ⟨v⟩ r.fs })) rest D) (hN : X.N[i]? = some x := by rfl)
    (hv : Vis X.env.scope x := by first | exact Or.inl rfl | exact Or.inr (Or.inl rfl) | exact Or.inr (Or.inr rfl)) (hd : (x == ("__debug__" : Str)) = false := by decide) (hcd : (x == ("__classdict__" : Str)) = false := by decide)
    (hs : swapsWith e (some (.Attribute (.Name x p1) f p2)) pos.line X.env = pure false := by rfl) : Ss X c W Γ (.Assign [.Attribute (.Name x p1) f p2] e pos :: rest) D := fun _ _ σ Hf H g DD k =>
  ⟨_, pss_cons (ps_fld (pe_var hN hv hd hcd) pe_w hs) pss_w, h _ _ σ Hf H g _ fun w Hf1 H1 s1 r1 => by
    obtain ⟨R, v2, e1, ⟨rfl, rfl, dx, fvs, h1, h2⟩, hR, up⟩ := (g.step s1).own hΓ
    refine ⟨_, e1, _, _, dx, fvs, rfl, h1, cl, na, by rw [h2.len]; exact hl, ?_⟩
    refine hr _ _ σ Hf1 _ (up Raw _ _ _ _ (fun a o' ha hn => ?_) (fun a ha => .inl ha) ⟨rfl, rfl, dx, _, upd_same, h2.set f r1⟩) DD (k.mono s1.f)
    rw [upd_ne fun z => hn (by rw [z]; exact List.mem_cons_self)]; exact ha⟩
/-- self.f of an object under construction -/
theorem e_fldR (i : Nat) {x f : Str} {p1 : Pos} {r : Raw} {α : Type} [Rp α] {z : α} (hΓ : Γ[i]? = some (.own r)) (cl : Cls X.K (c r.cls)) (na : NoAttr X.K (c r.cls) f) (hz : r.fs.lookup f = some ⟨z⟩) (hN : X.N[i]? = some x := by rfl)
    (hv : Vis X.env.scope x := by first | exact Or.inl rfl | exact Or.inr (Or.inl rfl) | exact Or.inr (Or.inr rfl)) (hd : (x == ("__debug__" : Str)) = false := by decide) (hcd : (x == ("__classdict__" : Str)) = false := by decide)
    (hb : attributeBase (.Name x p1) f X.env (eval (.Name x p1) X.env) = eval (.Name x p1) X.env := by rfl) : E X c Γ (.Attribute (.Name x p1) f pos) z := fun _ _ σ Hf H g Q k => by
  obtain ⟨R, v2, e1, ⟨rfl, rfl, dx, fvs, h1, h2⟩, hR, up⟩ := g.own hΓ
  obtain ⟨w, h3, h4⟩ := h2.get hz
  exact ⟨_, pe_fld (pe_var hN hv hd hcd) hb, _, e1, _, _, dx, fvs, w, rfl, h1, cl, na, h3, k w Hf H (Stp.refl g.same) h4⟩
end
section
variable {P : Program} {w : World} {K : PySem.W.Frag} {mg : Str → Option Value} {base : Heap} {c : CL} {γ : Type} [Ob γ]
theorem env_startI {Hf H : Hp} {N : List Str} {p dx : Addr} {vs : List V} {ps : List Pk} {cls : String} {fvs : List (Str × V)} {fs : List (Str × Pk)} (s : Same Hf H) (r : PkL K c Hf vs ps) (hl : ps.length + 1 ≤ N.length) (hp : Hf p = none) (hi : H p = some (.ins (c cls) dx fvs)) (hfr : FR K c Hf fvs fs) : EnvOk K c Hf (del H p) Hf H (L2.start N (.ref p :: vs)) (.own (Raw.mk cls p fs) :: slots ps (N.length - 1)) := by
  have h0 := env_start (N := N) (vs := .ref p :: vs) (ps := ⟨()⟩ :: ps) (K := K) (c := c) (H := H) (Hf := Hf)
  refine ⟨⟨Same.refl _, del_same, s, fun a o h _ _ => h⟩, ?_, fun i => if i = 0 then [p] else [], fun i o sl a b => ?_, fun i j hij a ha hb => ?_, fun i a ha => ?_⟩
  · show _ = (slots ps (N.length - 1)).length + 1
    rw [slots_len (by omega)]; unfold L2.start; rw [List.length_append, List.length_map, List.length_replicate, List.length_cons, r.len]; omega
  · cases i with
    | zero =>
      obtain rfl := Option.some.inj b
      obtain rfl := Option.some.inj a
      exact ⟨.ref p, rfl, rfl, if_pos rfl, dx, fvs, hi, hfr⟩
    | succ i =>
      rcases slots_get (show (slots ps (N.length - 1))[i]? = some sl from b) with rfl | ⟨q, q1, rfl⟩
      · trivial
      · obtain ⟨v, h1, h2⟩ := pkl_get r q1
        have hi' : i + 1 < ((V.ref p :: vs).map some).length := by rw [List.length_map]; exact Nat.succ_lt_succ (List.getElem?_eq_some_iff.mp h1).1
        unfold L2.start at a
        rw [List.getElem?_append_left hi', List.getElem?_map, List.getElem?_cons_succ, h1] at a
        exact ⟨v, (Option.some.inj a).symm, h2⟩
  · by_cases q1 : i = 0
    · by_cases q2 : j = 0
      · exact hij (q1.trans q2.symm)
      · simp only [if_neg q2] at hb; cases hb
    · simp only [if_neg q1] at ha; cases ha
  · by_cases q1 : i = 0
    · simp only [if_pos q1] at ha
      rw [List.mem_singleton.mp ha]
      exact ⟨del_at, hp, _, hi, trivial⟩
    · simp only [if_neg q1] at ha; cases ha
/-- an object whose fields are set is frozen -/
theorem EnvOk.done {H0f H0 Hf H : Hp} {σ : L2.St} {Γ : List Sl} {i : Nat} {p : Addr} {ob : γ} (g : EnvOk K c H0f H0 Hf H σ Γ) (hi : Γ[i]? = some (.own (Raw.mk (Ob.cls γ) p (Ob.fl ob)))) : ∃ Hf', Same Hf Hf' ∧ Stp H0f H0 Hf' H ∧ rp K c Hf' (.ref p) ob := by
  obtain ⟨R, v2, e1, ⟨rfl, rfl, _⟩, _, _⟩ := g.own hi
  obtain ⟨Hf', s, g'⟩ := g.freeze hi (α := γ) (x := ob) (by
    rintro R v ⟨h1, h2, dx, fvs, h3, h4⟩ sf
    refine Ob.iff.mpr ⟨_, dx, fvs, h1, ?_, h4.mono sf⟩
    simp only [h2, List.mem_singleton, if_pos]
    exact h3)
  refine ⟨Hf', s, g'.stp, ?_⟩
  obtain ⟨_, h2, R, h3, _⟩ := g'
  have hlt : i < Γ.length := (List.getElem?_eq_some_iff.mp hi).1
  obtain ⟨v, e2, e3⟩ := h3 i _ (d ob) e1 (by rw [List.getElem?_set_self hlt])
  rw [← Option.some.inj e2] at e3
  exact e3
/-- THE RULE for an __init__ that raises nothing -/
theorem init_ok {qual : Str} {st : Stmt} {f : Addr} {fd : FuncData} {N ps : List Str} {k : Nat} {R : List Pk → γ → Prop} (F : Fun K "__init__" qual st f fd) (S : FnScope N ps (defScope st)) (hl : ∀ as r, R as r → as.length + 1 = ps.length) (hN : ps.length ≤ N.length)
    (hb : ∀ (cdv : Value) (A : Around) (outer : List Env) (s : Shared) (H : Hp) (E : XK) (as : List Pk) (ob : γ) (p : Addr), Room k (A.deeper (PyProof.Rows.envOfC qual (defScope st) s.heap.objs.size f cdv)) → R as ob →
      Ss (cxOf CX0 P w K mg base N qual (defScope st) f cdv A outer s H E).nox c E1 (.own (Raw.mk (Ob.cls γ) p []) :: slots as (N.length - 1)) (defBody st) { nx := fun Γ' => Γ'[0]? = some (.own (Raw.mk (Ob.cls γ) p (Ob.fl ob))), rt := fun _ _ => False }) : FnOk P w K mg base CX0 (k + 1) f fd ps (spI K c R) := by
  refine F.ok S (fun vs H Q E ⟨Hf, p, dx, ws, as, r, h0, h1, h2, h3, _⟩ => by rw [h0, List.length_cons, h2.len, hl _ _ h3]) fun cdv A outer s H vs Q E hr ⟨Hf, p, dx, ws, as, ob, h0, h1, h2, h3, h4, h5, h6⟩ => ?_
  subst h0
  refine hb cdv A outer s H E as ob p hr h3 Hf (del H p) _ Hf H (env_startI h1 h2 (by rw [hl _ _ h3]; exact hN) h4 h5 .nil) _ ⟨fun Γ' σ' Hf' H' q s g => ?_, fun _ _ _ _ q => q.elim, fun _ _ _ _ q => q.elim, fun p Γ' v σ' Hf' H' q s g z => q.elim, fun _ _ _ _ _ _ _ q => q.elim, fun _ _ _ _ _ _ q => q.elim, fun _ _ _ _ _ _ _ q => q.elim⟩
  obtain ⟨R, v2, e1, ⟨rfl, rfl, dx', fvs, z1, z2⟩, hR, _⟩ := g.own q
  exact h6 _ _ g.stp ⟨(hR p List.mem_cons_self).2, dx', fvs, z1, z2⟩
theorem Mq.mk' {x qual : Str} {st : Stmt} {f : Addr} {fd : FuncData} {ps : List Str} {k : Nat} {R : List Pk → γ → Prop} (m : Mk K (c (Ob.cls γ)) f) (h : FnOk P w K mg base CX0 k f fd ps (spI K c R)) (hm : mg x = some (.ref (c (Ob.cls γ)))) (hb : Binds K fd ps []) : Mq P w K mg base c γ x k R := ⟨f, fd, ps, m, h, hm, hb⟩
end
end Pv
namespace Pv
open Rp (rp)
open Ow (ow)
open Da (toD)
open PySem L2 PySem.Spec PyProof.Rows
/-! ### list(o), for x in o, of an object whose __iter__ gives the keys of a field -/
section
variable {K : PySem.W.Frag} {c : CL} {H Hf : Hp} {α : Type} [Rp α] {y : Dt α}
theorem rpl_int' {l : List Int} : RpL K c H (l.map V.int) l := by
  induction l with
  | nil => exact .nil
  | cons i r ih => exact .cons rfl ih
theorem wk_dt {p : Addr} {od : Obj} {kvs : List (List Key × V)} (s1 : Same Hf H) (h3 : Hf p = some (.frz od (.dT kvs))) (h4 : DR K c Hf kvs y.l) : Wk K c Hf (Itkt p od kvs) (y.l.map fun kv => (⟨kv.1⟩ : Tup Int)) :=
  ⟨fun H2 s => ⟨s _ _ h3, by rw [List.length_map, h4.len]; exact Nat.le_refl _⟩, fun i H2 hi s => ⟨s _ _ h3, by rw [List.length_map, ← h4.len] at hi; exact hi⟩, fun i Hf2 H2 x H3 t1 t2 hi yy => by
    obtain ⟨rfl, kk, vv, q, e1, rfl, e2⟩ := yy
    obtain ⟨w, e3, e4, _⟩ := paired_get h4 e1
    have e5 : kk = kT w.1 := e4
    rw [e5, kT_kV] at e2
    refine ⟨upd Hf2 q (.tup (w.1.map V.int)), ⟨fun b o z => ?_, Same.refl _, fun b o z => ?_, fun b o z z' n => ?_⟩, ⟨w.1⟩, by rw [List.getElem?_map, e3]; rfl, q, _, rfl, upd_same, rpl_int'⟩
    · by_cases e : b = q
      · subst e; rw [upd_same, ← e2, t2 b o z]
      · rw [upd_ne e]; exact z
    · by_cases e : b = q
      · subst e; rw [upd_same] at z; rw [e2]; exact z
      · rw [upd_ne e] at z; exact t2 b o z
    · by_cases e : b = q
      · subst e; rw [e2] at z'; obtain rfl := Option.some.inj z'; exact n.elim
      · rw [upd_ne e]; exact z⟩
end
/-- a class whose objects are walked by the keys of the field fld -/
structure ItB (K : PySem.W.Frag) (mg : Str → Option Value) (c : CL) (γ α : Type) [Ob γ] [Rp α] (fld : Str) (get : γ → Dt α) : Prop where
  ex : ∃ f : Addr, ∀ X : Cx, X.K = K → X.mg = mg → ItF X (c (Ob.cls γ)) fld f
  at_ : ∀ b : γ, (Ob.fl b).lookup fld = some ⟨get b⟩
section
variable {X : Cx} {c : CL} {Γ : List Sl} {γ α : Type} [Ob γ] [Rp α] {ob : γ} {fld : Str} {get : γ → Dt α} {a e b : Expr} {es : List Expr} {pos p0 : Pos}
theorem own_wk (B : ItB X.K X.mg c γ α fld get) {Hf H : Hp} {v : V} (s : Same Hf H) (h : rp X.K c Hf v ob) {R : It → Hp → Prop} (k : ∀ J Hf' H', Stp Hf H Hf' H' → Wk X.K c Hf' J ((get ob).l.map fun kv => (⟨kv.1⟩ : Tup Int)) → R J H') : rOwnK (c (Ob.cls γ)) fld v H R := by
  obtain ⟨p, dx, fvs, rfl, h1, h2⟩ := Ob.iff.mp h
  obtain ⟨w, h3, q, od, kvs, h4, h5, h6⟩ := h2.get (B.at_ ob)
  exact ⟨p, dx, fvs, q, od, kvs, rfl, s _ _ h1, by rw [h3, h4], s _ _ h5, k _ Hf H (Stp.refl s) (wk_dt s h5 h6)⟩
theorem i_own {tg : Expr} (B : ItB X.K X.mg c γ α fld get) (hr : Room 1 X.A) (h : E X c Γ a ob) : I X c Γ tg a ((get ob).l.map fun kv => (⟨kv.1⟩ : Tup Int)) := fun _ _ σ Hf H g R k => by
  obtain ⟨f, hF⟩ := B.ex
  exact ⟨_, pi_own pe_w (ownI_key (hF X rfl rfl)) hr, h _ _ σ Hf H g _ fun v Hf1 H1 s1 r1 => own_wk B s1.s r1 fun J Hf2 H2 s2 w => k J Hf2 H2 (s1.trans s2) w⟩
theorem e_listO {k : Nat} {R : List Pk → Pk → Prop} (B : ItB X.K X.mg c γ α fld get) (M : Mt X.prog X.w X.K X.mg X.base c (Ob.cls γ) "__len__" k R) (hr : Room (1 + k + 3) X.A) (hc : X.calm = true) (ha : E X c Γ a ob) (hR : R [⟨ob⟩] ⟨((get ob).l.length : Int)⟩) (hl : (get ob).l.length < 1000000)
    (hm : X.mg "list" = none) (hg : Gl X "list" := by rfl) (he : starEach [a] X.env = (false, eval a X.env) :: starEach [] X.env := by rfl) : E X c Γ (.Call (.Name "list" p0) [a] [] pos) ((get ob).l.map fun kv => (⟨kv.1⟩ : Tup Int)) := by
  obtain ⟨f, hF⟩ := B.ex
  obtain ⟨f2, fd, ps, F, mt, hfn, hbi⟩ := M
  refine e_callTy (call_listO (ob := ob) (L := ((get ob).l.length : Int)) (ownI_key (hF X rfl rfl)) F hbi mt.at_ mt.fn hr hc ⟨fun Hf H v s h => ?_, fun Hf H v s h R k => own_wk B s h k, fun Hf H v s h Q q => ?_, by omega, by omega⟩ (by rw [List.length_map]; exact hl)) (a_cons ha a_nil he) (fun Hf H vs s r Q q => ?_) hg hm (by decide +kernel) (by decide) (by decide) he
  · obtain ⟨p, dx, fvs, rfl, h1, h2⟩ := Ob.iff.mp h
    exact ⟨p, dx, fvs, rfl, s _ _ h1⟩
  · exact ⟨Hf, [⟨ob⟩], ⟨((get ob).l.length : Int)⟩, s, .cons h .nil, hR, fun w Hf' H' st r => by rw [show w = _ from r]; exact q Hf' H' st⟩
  · obtain ⟨v, rfl, hv⟩ := pkl1 r
    exact ⟨v, Hf, rfl, s, hv, q⟩
/-! ### isinstance -/
theorem e_isi {β : Type} [Rp β] {n m f : String} [Ty β n] {x : β} {r : Bool} {p1 : Pos} (ha : E X c Γ a x) (hm : X.mg "isinstance" = none) (hm2 : X.mg (f : Str) = none) (hf : bootBuiltins (f : Str) = some (.type m)) (hk : kitB n m = some r := by decide +kernel) (hg : Gl X "isinstance" := by rfl) (hg2 : Gl X (f : Str) := by rfl)
    (hn : (f : Str) ≠ "__name__" := by decide) (hd : ((f : Str) == ("__debug__" : Str)) = false := by decide)
    (he : starEach [a, .Name (f : Str) p1] X.env = (false, eval a X.env) :: starEach [.Name (f : Str) p1] X.env := by rfl) (he2 : starEach [.Name (f : Str) p1] X.env = (false, eval (.Name (f : Str) p1) X.env) :: starEach [] X.env := by rfl) (hpl : (backTo pos (starEach [.Name (f : Str) p1] X.env)).any (·.1) = false := by rfl) :
    E X c Γ (.Call (.Name "isinstance" p0) [a, .Name (f : Str) p1] [] pos) r := fun _ _ σ Hf H g Q q =>
  ⟨_, pe_callB call_isi hg hm (by decide +kernel) (pa_cons pe_w (pa_cons (pe_bltn (v := .ty m) hg2 hm2 hf rfl hn hd) pa_nil he2) he) (by decide) (by decide) he hpl,
    ha _ _ σ Hf H g _ fun v Hf1 H1 s1 r1 => ⟨v, .ty m, .type n, .type m, r, rfl, .ty m, Ty.ty (Rp.mono s1.s r1), kit_ty hk, q _ Hf1 H1 s1 rfl⟩⟩
theorem e_isiO {f : Str} {r : Bool} {p1 : Pos} {C : Addr} (T : Kt X.K (c (Ob.cls γ))) (ha : E X c Γ a ob) (hm : X.mg "isinstance" = none) (hm2 : X.mg f = some (.ref C)) (hk : PySem.W.kitOne X.K (.ref (c (Ob.cls γ))) (.ref C) = some r) (hg : Gl X "isinstance" := by rfl) (hg2 : Gl X f := by rfl)
    (hd : (f == ("__debug__" : Str)) = false := by decide)
    (he : starEach [a, .Name f p1] X.env = (false, eval a X.env) :: starEach [.Name f p1] X.env := by rfl) (he2 : starEach [.Name f p1] X.env = (false, eval (.Name f p1) X.env) :: starEach [] X.env := by rfl) (hpl : (backTo pos (starEach [.Name f p1] X.env)).any (·.1) = false := by rfl) :
    E X c Γ (.Call (.Name "isinstance" p0) [a, .Name f p1] [] pos) r := fun _ _ σ Hf H g Q q =>
  ⟨_, pe_callB call_isi hg hm (by decide +kernel) (pa_cons pe_w (pa_cons (pe_glob (v := .ref C) hg2 hm2 rfl hd) pa_nil he2) he) (by decide) (by decide) he hpl,
    ha _ _ σ Hf H g _ fun v Hf1 H1 s1 r1 => ⟨v, .ref C, .ref (c (Ob.cls γ)), .ref C, r, rfl, .own C, ty_ob T (Rp.mono s1.s r1), hk, q _ Hf1 H1 s1 rfl⟩⟩
/-! ### constants of the module -/
theorem e_glob {x : Str} {β : Type} [Rp β] {z : β} {v : V} {u : Value} (hg : Gl X x) (hm : X.mg x = some u) (rv : RelV v u) (h : ∀ H, rp X.K c H v z) (hd : (x == ("__debug__" : Str)) = false := by decide) : E X c Γ (.Name x pos) z := fun _ _ σ Hf H g Q q =>
  ⟨_, pe_glob hg hm rv hd, q v Hf H (Stp.refl g.same) (h Hf)⟩
theorem e_cst {x : Str} {β : Type} [Rp β] {z : β} {p : Addr} (hm : X.mg x = some (.ref p)) (h : ∀ H, rp X.K c H (.ref p) z) (hg : Gl X x := by rfl) (hd : (x == ("__debug__" : Str)) = false := by decide) : E X c Γ (.Name x pos) z := e_glob (v := .ref p) hg hm rfl h hd
/-! ### [..] * n, xs + ys, tuples -/
theorem paired_rep {F : V → α → Prop} {vs : List V} {as : List α} (h : Paired F vs as) : ∀ n : Nat, Paired F (List.replicate n vs).flatten (List.replicate n as).flatten
  | 0 => .nil
  | n + 1 => by rw [List.replicate_succ, List.replicate_succ, List.flatten_cons, List.flatten_cons]; exact paired_append h (paired_rep h n)
theorem e_rep {as : List α} {n : Int} {p2 : Pos} (h : AL X c Γ es as) (hb : E X c Γ b n) (hl : as.length ≤ 1000 := by exact Nat.le_of_ble_eq_true rfl) (h0 : 0 ≤ n := by decide) (h1 : as.length * n.toNat ≤ 1000000 := by decide) (hn : (n.toNat : Int) < 2 ^ 63 := by decide) : E X c Γ (.BinOp (.List es p2) .Mult b pos) ((List.replicate n.toNat as).flatten) := fun _ _ σ Hf H g Q k =>
  ⟨_, pe_op op_rep (pe_lst pa_w) pe_w, h _ _ σ Hf H g _ fun vs Hf1 H1 s1 r1 => ⟨by rw [r1.len]; exact Nat.le_of_lt (small1000 hl), fun p hp => by
    have s2 := Stp.new (o := .lst vs) s1.s hp
    refine hb _ _ σ _ _ (g.step (s1.trans s2)) _ fun w Hf3 H3 s3 r3 => ?_
    have r3' : w = .int n := r3
    refine ⟨p, n, vs, rfl, r3', s3.h _ _ upd_same, by omega, ?_, ?_, fun p' hp' => ?_⟩
    · have z : n = (n.toNat : Int) := (Int.toNat_of_nonneg h0).symm
      rw [z]; exact hn
    · rw [r1.len]; exact Nat.le_trans h1 (by decide)
    · exact k _ _ _ (((s1.trans s2).trans s3).trans (Stp.new s3.s hp')) ⟨p', _, rfl, .inl (.inl upd_same), paired_rep (r1.mono (((same_new (s1.s.free hp)).trans s3.f).trans (same_new (s3.s.free hp')))) n.toNat⟩⟩⟩
theorem op_catL : OpR X (binaryOp .Add) (fun x y H Q => ∃ l b xs zs, x = .ref l ∧ y = .ref b ∧ SqL X.K H l xs ∧ SqL X.K H b zs ∧ xs.length + zs.length ≤ sizeLine ∧ ∀ p, H p = none → Q (.ref p) (upd H p (.lst (xs ++ zs)))) := by
  intro pins s σ H x y v u Q I rx ry h
  obtain ⟨l, b, xs, zs, rfl, rfl, hH, hB, hz, q⟩ := h
  cases rx
  cases ry
  obtain ⟨its, r, ⟨o1, n, e1, c1, _, d1⟩, hl⟩ := I.list hH
  obtain ⟨its2, r2, ⟨o2, n2, e2, c2, _, d2⟩, hl2⟩ := I.list hB
  obtain ⟨oc, dd, dt, sl⟩ := o1
  obtain ⟨oc2, dd2, dt2, sl2⟩ := o2
  simp only at c1 d1 c2 d2
  subst c1 d1 c2 d2
  have ea : its.toArray ++ its2.toArray = (its ++ its2).toArray := by simp
  refine concat_meets ⟨_, e1, rfl⟩ ⟨_, e2, rfl⟩ noFill_list_add seq_list_add PySem.F.slot_list_add PySem.F.entry_list_add (PySem.F.args_list_add_2 _ _) (list_addW l b its.toArray its2.toArray n n2 dd dd2 sl sl2 (by rw [List.size_toArray, List.size_toArray, ← r.length, ← r2.length]; exact hz)) ⟨e1, e2, ?_⟩
  rw [ea]
  exact ⟨.ref _, _, I.lnew (t' := s.toks) (r.append r2) (by rw [List.length_append]; exact hz), rfl, q _ I.fresh⟩
theorem e_cat {xs ys : List α} (ha : E X c Γ a xs) (hb : E X c Γ b ys) (hl : xs.length + ys.length ≤ 1000000) : E X c Γ (.BinOp a .Add b pos) (xs ++ ys) :=
  e_op op_catL ha hb fun Hf H u v s hu hv Q q => by
    obtain ⟨p, vs, rfl, h2, h3⟩ := hu
    obtain ⟨p2, vs2, rfl, h4, h5⟩ := hv
    exact ⟨p, p2, vs, vs2, rfl, rfl, s.seq h2, s.seq h4, by rw [h3.len, h5.len]; exact Nat.le_trans hl (by decide), fun l hl => q _ _ _ (Stp.new s hl) ⟨l, _, rfl, .inl (.inl upd_same), rpl_upd (s.free hl) (paired_append h3 h5)⟩⟩
/-! ### len(set(t)) -/
theorem nodup_len : ∀ {as bs : List Int}, as.Nodup → bs.Nodup → (∀ k, k ∈ as ↔ k ∈ bs) → as.length = bs.length := fun h1 h2 h => ((List.perm_ext_iff_of_nodup h1 h2).mpr h).length_eq
/-- the different numbers of a list -/
def dif : List Int → List Int
  | [] => []
  | x :: r => if x ∈ dif r then dif r else x :: dif r
theorem mem_dif {k : Int} : ∀ {l : List Int}, k ∈ dif l ↔ k ∈ l
  | [] => Iff.rfl
  | x :: r => by
    unfold dif
    by_cases h : x ∈ dif r
    · rw [if_pos h, mem_dif, List.mem_cons]
      exact ⟨.inr, fun z => z.elim (fun e => e ▸ mem_dif.mp h) id⟩
    · rw [if_neg h, List.mem_cons, List.mem_cons, mem_dif]
theorem nodup_dif : ∀ {l : List Int}, (dif l).Nodup
  | [] => List.nodup_nil
  | x :: r => by
    unfold dif
    by_cases h : x ∈ dif r
    · rw [if_pos h]; exact nodup_dif
    · rw [if_neg h]; exact List.nodup_cons.mpr ⟨h, nodup_dif⟩
def tLenSetT (K : PySem.W.Frag) (ta : TE) : TE := fun σ H Q => ta σ H fun x H1 => ∃ (l : Addr) (ns : List Int), x = .ref l ∧ SqT K H1 l (ns.map V.int) ∧ ns.length ≤ 1000 ∧ Q (.int ((dif ns).length : Nat)) H1
theorem pe_lenSetT {ta : TE} {p p2 q : Pos} (hg : Gl X "len") (hm : X.mg "len" = none) (hg2 : Gl X "set") (hm2 : X.mg "set" = none) (ha : PE X a ta) (hc : X.calm = true := by rfl)
    (na : starEach [a] X.env = (false, eval a X.env) :: starEach [] X.env := by rfl) : PE X (.Call (.Name "len" p) [.Call (.Name "set" p2) [a] [] q] [] pos) (tLenSetT X.K ta) := by
  refine ⟨fun pins s σ H Q I h => ?_⟩
  refine Call_ (ld_blt I hg hm PySem.boot_len ?_)
  refine PyProof.Rows.callWith_builtin1 (PyProof.Rows.args_cons ?_ rfl) rfl rfl
  refine Call_ (ld_blt I hg2 hm2 boot_set ?_)
  refine PyProof.Rows.callWith_type1 (PyProof.Rows.args_cons (thn (ha.run pins s σ H _ I h) fun v s1 ⟨x, H1, I1, r1, q1⟩ => PyProof.Rows.args_nil ?_) na) na rfl
  obtain ⟨l, ns, rfl, hq, hl, q1⟩ := q1
  cases r1
  obtain ⟨its, r, pl, hz⟩ := I1.tuple hq
  refine call_set_tupI ns (I1.ok.hd hc) (show s1.heap.IsTuple l its.toArray from pl) (by simpa using ints_of_vals r) (by unfold scanBound; omega) fun h' tk cc hS hcn hk => ?_
  refine PyProof.Rows.args_nil ?_
  obtain ⟨o, es, ep, t, ho, hex, hd, hgd, hnd, hmm, hsb, hf, hn, _⟩ := hS
  have I2 : L2.Inv X pins σ H1 { s1 with heap := h', toks := tk } := I1.kept hk
  have e : es.size = (dif ns).length := by
    have z := nodup_len hnd (nodup_dif (l := ns)) fun k => by rw [mem_dif, ← hmm k]; exact decide_eq_true_iff
    rw [← z, List.length_map, Array.length_toList]
  exact call_len_set ho hex hd hf (by rw [hn] <;> omega) ⟨.int (dif ns).length, H1, I2.tok _, ⟨_, by rw [e]⟩, q1⟩
theorem e_lenSet {t : Tup Int} {p2 q : Pos} (ha : E X c Γ a t) (hm : X.mg "len" = none) (hm2 : X.mg "set" = none) (hl : t.l.length ≤ 1000) (hc : X.calm = true := by rfl) (hg : Gl X "len" := by rfl) (hg2 : Gl X "set" := by rfl)
    (na : starEach [a] X.env = (false, eval a X.env) :: starEach [] X.env := by rfl) : E X c Γ (.Call (.Name "len" p0) [.Call (.Name "set" p2) [a] [] q] [] pos) ((dif t.l).length : Int) := fun _ _ σ Hf H g Q k =>
  ⟨_, pe_lenSetT hg hm hg2 hm2 pe_w hc na, ha _ _ σ Hf H g _ fun v Hf1 H1 s1 r1 => by
    obtain ⟨p, vs, rfl, h2, h3⟩ := r1
    rw [rpl_ints h3] at h2
    exact ⟨p, t.l, rfl, sqT_of (s1.s _ _ h2), hl, k _ Hf1 H1 s1 rfl⟩⟩
/-! ### targets by what the item is -/
theorem g_tup2e {a b : α} {t : Tup α} {t1 t2 : Expr} {k : Nat} {ts1 ts2 : List Nat} {f1 f2 : List Sl → List Sl} (e : t = ⟨[a, b]⟩) (hc : X.calm = true) (h1 : G X c t1 a ts1 f1) (h2 : G X c t2 b ts2 f2)
    (hn : (assignEach [t1, t2] X.env).length = 2 := by rfl) (hst : (assignEach [t1, t2] X.env).findIdx? (·.1) = none := by rfl)
    (e1 : (assignEach [t1, t2] X.env).map (·.2) = assign t1 X.env :: (assignEach [t2] X.env).map (·.2) := by rfl) (e2 : (assignEach [t2] X.env).map (·.2) = assign t2 X.env :: (assignEach [] X.env).map (·.2) := by rfl) :
    G X c (.Tuple [t1, t2] k pos) t (ts1 ++ ts2) (fun Γ => f2 (f1 Γ)) := e ▸ g_tup2 hc h1 h2 hn hst e1 e2
theorem g_tup3e {a b d : α} {t : Tup α} {t1 t2 t3 : Expr} {k : Nat} {ts1 ts2 ts3 : List Nat} {f1 f2 f3 : List Sl → List Sl} (e : t = ⟨[a, b, d]⟩) (hc : X.calm = true) (h1 : G X c t1 a ts1 f1) (h2 : G X c t2 b ts2 f2) (h3 : G X c t3 d ts3 f3)
    (hn : (assignEach [t1, t2, t3] X.env).length = 3 := by rfl) (hst : (assignEach [t1, t2, t3] X.env).findIdx? (·.1) = none := by rfl)
    (e1 : (assignEach [t1, t2, t3] X.env).map (·.2) = assign t1 X.env :: (assignEach [t2, t3] X.env).map (·.2) := by rfl) (e2 : (assignEach [t2, t3] X.env).map (·.2) = assign t2 X.env :: (assignEach [t3] X.env).map (·.2) := by rfl) (e3 : (assignEach [t3] X.env).map (·.2) = assign t3 X.env :: (assignEach [] X.env).map (·.2) := by rfl) :
    G X c (.Tuple [t1, t2, t3] k pos) t (ts1 ++ (ts2 ++ ts3)) (fun Γ => f3 (f2 (f1 Γ))) := e ▸ g_tup3 hc h1 h2 h3 hn hst e1 e2 e3
end
end Pv
/-! The same comparisons as tests -/
namespace Pv
open Rp (rp)
open Ow (ow)
open Da (toD)
open PySem L2
section
variable {X : Cx} {c : CL} {Γ : List Sl} {a b : Expr} {pos : Pos} {α : Type} [Da α] [DecidableEq α] {x y : α}
theorem t_inD {ys : List α} (hu : X.A.units + 65 < cLine) (ha : E X c Γ a x) (hb : E X c Γ b ys) (h : Da.deep α ≤ 63 := by decide) (hm : behindInMarks .In b = false := by rfl) : T X c Γ (.Compare a [.In] [b] pos) (decide (x ∈ ys)) := t_cmp (op_inD hu) ha hb (rv_inD h) hm
theorem t_notInD {ys : List α} (hu : X.A.units + 65 < cLine) (ha : E X c Γ a x) (hb : E X c Γ b ys) (h : Da.deep α ≤ 63 := by decide) (hm : behindInMarks .NotIn b = false := by rfl) : T X c Γ (.Compare a [.NotIn] [b] pos) (!decide (x ∈ ys)) := t_cmp (op_notInD hu) ha hb (rv_notInD h) hm
end
section
variable {X : Cx} {c : CL} {Γ : List Sl} {a b : Expr} {pos : Pos} {x : Int}
theorem t_inI {ys : List Int} (ha : E X c Γ a x) (hb : E X c Γ b ys) (hm : behindInMarks .In b = false := by rfl) : T X c Γ (.Compare a [.In] [b] pos) (decide (x ∈ ys)) := t_cmp op_in_seq ha hb (rv_inI (neg := false) fun H K v ⟨p, vs, h1, h2, h3⟩ => ⟨p, vs, h1, .inl h2, h3⟩) hm
theorem t_notInI {ys : List Int} (ha : E X c Γ a x) (hb : E X c Γ b ys) (hm : behindInMarks .NotIn b = false := by rfl) : T X c Γ (.Compare a [.NotIn] [b] pos) (!decide (x ∈ ys)) := t_cmp op_notIn_seq ha hb (rv_inI (neg := true) fun H K v ⟨p, vs, h1, h2, h3⟩ => ⟨p, vs, h1, .inl h2, h3⟩) hm
theorem t_inT {ys : Tup Int} (ha : E X c Γ a x) (hb : E X c Γ b ys) (hm : behindInMarks .In b = false := by rfl) : T X c Γ (.Compare a [.In] [b] pos) (decide (x ∈ ys.l)) := t_cmp op_in_seq ha hb (rv_inI (neg := false) fun H K v ⟨p, vs, h1, h2, h3⟩ => ⟨p, vs, h1, .inr (sqT_of h2), h3⟩) hm
theorem t_notInT {ys : Tup Int} (ha : E X c Γ a x) (hb : E X c Γ b ys) (hm : behindInMarks .NotIn b = false := by rfl) : T X c Γ (.Compare a [.NotIn] [b] pos) (!decide (x ∈ ys.l)) := t_cmp op_notIn_seq ha hb (rv_inI (neg := true) fun H K v ⟨p, vs, h1, h2, h3⟩ => ⟨p, vs, h1, .inr (sqT_of h2), h3⟩) hm
theorem t_inW {ys : TupW Int} (ha : E X c Γ a x) (hb : E X c Γ b ys) (hm : behindInMarks .In b = false := by rfl) : T X c Γ (.Compare a [.In] [b] pos) (decide (x ∈ ys.l)) := t_cmp op_in_seq ha hb (rv_inI (neg := false) fun H K v ⟨p, vs, h1, h2, h3⟩ => ⟨p, vs, h1, .inr h2, h3⟩) hm
theorem t_notInW {ys : TupW Int} (ha : E X c Γ a x) (hb : E X c Γ b ys) (hm : behindInMarks .NotIn b = false := by rfl) : T X c Γ (.Compare a [.NotIn] [b] pos) (!decide (x ∈ ys.l)) := t_cmp op_notIn_seq ha hb (rv_inI (neg := true) fun H K v ⟨p, vs, h1, h2, h3⟩ => ⟨p, vs, h1, .inr h2, h3⟩) hm
end
section
variable {X : Cx} {c : CL} {Γ : List Sl} {α : Type} [Rp α] {a b : Expr} {pos : Pos}
theorem t_dIn {x : Tup Int} {y : Dt α} (hu : X.A.units + 1 < cLine) (ha : E X c Γ a x) (hb : E X c Γ b y) (hm : behindInMarks .In b = false := by rfl) : T X c Γ (.Compare a [.In] [b] pos) (dtGet y.l x.l).isSome := fun _ _ σ Hf H g Q k =>
  ⟨_, pt_cmp (pc_din hu pe_w pe_w) hm, ha _ _ σ Hf H g _ fun u Hf1 H1 s1 r1 => hb _ _ σ Hf1 H1 (g.step s1) _ fun v Hf2 H2 s2 r2 => by
    obtain ⟨q, us, rfl, h1, h2⟩ := r1
    obtain ⟨p, od, kvs, rfl, h3, h4⟩ := r2
    rw [rpl_ints h2] at h1
    refine ⟨p, _, rfl, dget_fz (K := X.K) (s2.s _ _ h3) (s2.h _ _ (s1.s _ _ h1)), ?_⟩
    rcases h4.get x.l with ⟨e1, e2⟩ | ⟨v, w, e1, e2, _⟩
    · rw [e1]; exact ⟨_, rfl, by have z := k Hf2 H2 (s1.trans s2); rw [e2] at z; exact z⟩
    · rw [e1]; exact ⟨_, rfl, by have z := k Hf2 H2 (s1.trans s2); rw [e2] at z; exact z⟩⟩
theorem t_dNotIn {x : Tup Int} {y : Dt α} (hu : X.A.units + 1 < cLine) (ha : E X c Γ a x) (hb : E X c Γ b y) (hm : behindInMarks .NotIn b = false := by rfl) : T X c Γ (.Compare a [.NotIn] [b] pos) (!(dtGet y.l x.l).isSome) := fun _ _ σ Hf H g Q k =>
  ⟨_, pt_cmp (pc_dnotin hu pe_w pe_w) hm, ha _ _ σ Hf H g _ fun u Hf1 H1 s1 r1 => hb _ _ σ Hf1 H1 (g.step s1) _ fun v Hf2 H2 s2 r2 => by
    obtain ⟨q, us, rfl, h1, h2⟩ := r1
    obtain ⟨p, od, kvs, rfl, h3, h4⟩ := r2
    rw [rpl_ints h2] at h1
    refine ⟨p, _, rfl, dget_fz (K := X.K) (s2.s _ _ h3) (s2.h _ _ (s1.s _ _ h1)), ?_⟩
    rcases h4.get x.l with ⟨e1, e2⟩ | ⟨v, w, e1, e2, _⟩
    · rw [e1]; exact ⟨_, rfl, by have z := k Hf2 H2 (s1.trans s2); rw [e2] at z; exact z⟩
    · rw [e1]; exact ⟨_, rfl, by have z := k Hf2 H2 (s1.trans s2); rw [e2] at z; exact z⟩⟩
end
section
variable {X : Cx} {c : CL} {Γ : List Sl} {a b : Expr} {pos : Pos}
theorem t_eqDt {x y : Dt Bool} (hu : X.A.units + 1 < cLine) (ha : E X c Γ a x) (hb : E X c Γ b y) : T X c Γ (.Compare a [.Eq] [b] pos) (dtEq x.l y.l) :=
  t_cmp (op_eqDt (c := c) hu) ha hb fun Hf H u v s hx hy Q k => ⟨x, y, Rp.mono s hx, Rp.mono s hy, k _ _ _ (Stp.refl s) rfl⟩
end
section
variable {X : Cx} {c : CL} {Γ : List Sl} {pos apos p0 : Pos} {γ : Type} [Ob γ] {ob : γ} {o e : Expr} {es : List Expr}
theorem t_inO {k : Nat} {R : List Pk → Pk → Prop} {β : Type} [Rp β] {y : β} {z : Bool} {a b : Expr} (M : Mt X.prog X.w X.K X.mg X.base c (Ob.cls γ) "__contains__" k R) (hr : Room k X.A) (ha : E X c Γ a y) (hb : E X c Γ b ob) (hR : R [⟨ob⟩, ⟨y⟩] ⟨z⟩) (hmk : behindInMarks .In b = false := by rfl) :
    T X c Γ (.Compare a [.In] [b] pos) z := by
  obtain ⟨f, fd, ps, F, mt, _, hbi⟩ := M
  exact t_cmp (op_ownIn F hbi pass0 hr mt.at_ mt.fn) ha hb (fun Hf H u v s hu hv Q q => by
    obtain ⟨p, dx, fvs, rfl, h1, h2⟩ := Ob.iff.mp hv
    exact ⟨p, dx, fvs, rfl, s _ _ h1, Hf, [⟨ob⟩, ⟨y⟩], ⟨z⟩, s, .cons hv (.cons hu .nil), hR, fun w Hf' H' st r => ⟨z, r, q _ Hf' H' st rfl⟩⟩) hmk
theorem t_notInO {k : Nat} {R : List Pk → Pk → Prop} {β : Type} [Rp β] {y : β} {z : Bool} {a b : Expr} (M : Mt X.prog X.w X.K X.mg X.base c (Ob.cls γ) "__contains__" k R) (hr : Room k X.A) (ha : E X c Γ a y) (hb : E X c Γ b ob) (hR : R [⟨ob⟩, ⟨y⟩] ⟨z⟩) (hmk : behindInMarks .NotIn b = false := by rfl) :
    T X c Γ (.Compare a [.NotIn] [b] pos) (!z) := by
  obtain ⟨f, fd, ps, F, mt, _, hbi⟩ := M
  exact t_cmp (op_ownNotIn F hbi pass0 hr mt.at_ mt.fn) ha hb (fun Hf H u v s hu hv Q q => by
    obtain ⟨p, dx, fvs, rfl, h1, h2⟩ := Ob.iff.mp hv
    exact ⟨p, dx, fvs, rfl, s _ _ h1, Hf, [⟨ob⟩, ⟨y⟩], ⟨z⟩, s, .cons hv (.cons hu .nil), hR, fun w Hf' H' st r => ⟨z, r, q _ Hf' H' st rfl⟩⟩) hmk
theorem t_cmpO {op : CmpOp} {k : Nat} {R : List Pk → Pk → Prop} {β : Type} [Rp β] {y : β} {z : Bool} {a b : Expr} {m : Str} {t : Value} (M : Mt X.prog X.w X.K X.mg X.base c (Ob.cls γ) m k R) (hm : m = (cmpInfo op).2.1) (hco : ∀ a b, compareOp op a b = richCompare op a b) (hr : Room k X.A)
    (hty : ∀ H v, rp X.K c H v y → TyX X.K H v t) (hn : PySem.W.notFirst X.K (c (Ob.cls γ)) t = true) (ha : E X c Γ a ob) (hb : E X c Γ b y) (hR : R [⟨ob⟩, ⟨y⟩] ⟨z⟩) (hmk : behindInMarks op b = false := by first | exact nomark _ | rfl) : T X c Γ (.Compare a [op] [b] pos) z := by
  obtain ⟨f, fd, ps, F, mt, _, hbi⟩ := M
  subst hm
  exact t_cmp (cop_own F hbi pass0 hr hco looks_ty mt.at_ mt.fn) ha hb (fun Hf H u v s hu hv Q q => by
    obtain ⟨p, dx, fvs, rfl, h1, h2⟩ := Ob.iff.mp hu
    exact ⟨p, dx, fvs, t, rfl, s _ _ h1, hty H v (Rp.mono s hv), hn, Hf, [⟨ob⟩, ⟨y⟩], ⟨z⟩, s, .cons hu (.cons hv .nil), hR, q⟩) hmk
end
end Pv
namespace Pv
open Rp (rp)
open Ow (ow)
open Da (toD)
open PySem L2
section
variable {P : Program} {w : World} {K : PySem.W.Frag} {mg : Str → Option Value} {base : Heap} {c : CL} {γ : Type} [Ob γ]
/-- the same for an __init__ with defaults -/
theorem init_okD {qual : Str} {st : Stmt} {dvs : List V} {kws : List (Str × V)} {f : Addr} {fd : FuncData} {N ps : List Str} {k : Nat} {R : List Pk → γ → Prop} (F : FunD K "__init__" qual (defArgs st) (defBody st) (defScope st) dvs kws f fd) (S : FnScope N ps (defScope st)) (hl : ∀ as r, R as r → as.length + 1 = ps.length) (hN : ps.length ≤ N.length)
    (hb : ∀ (cdv : Value) (A : Around) (outer : List Env) (s : Shared) (H : Hp) (E : XK) (as : List Pk) (ob : γ) (p : Addr), Room k (A.deeper (PyProof.Rows.envOfC qual (defScope st) s.heap.objs.size f cdv)) → R as ob →
      Ss (cxOf CX0 P w K mg base N qual (defScope st) f cdv A outer s H E).nox c E1 (.own (Raw.mk (Ob.cls γ) p []) :: slots as (N.length - 1)) (defBody st) { nx := fun Γ' => Γ'[0]? = some (.own (Raw.mk (Ob.cls γ) p (Ob.fl ob))), rt := fun _ _ => False }) : FnOk P w K mg base CX0 (k + 1) f fd ps (spI K c R) := by
  refine F.ok S (fun vs H Q E ⟨Hf, p, dx, ws, as, r, h0, h1, h2, h3, _⟩ => by rw [h0, List.length_cons, h2.len, hl _ _ h3]) fun cdv A outer s H vs Q E hr ⟨Hf, p, dx, ws, as, ob, h0, h1, h2, h3, h4, h5, h6⟩ => ⟨_, PSs.nox pss_w, ?_⟩
  subst h0
  refine hb cdv A outer s H E as ob p hr h3 Hf (del H p) _ Hf H (env_startI h1 h2 (by rw [hl _ _ h3]; exact hN) h4 h5 .nil) _ ⟨fun Γ' σ' Hf' H' q s g => ?_, fun _ _ _ _ q => q.elim, fun _ _ _ _ q => q.elim, fun p Γ' v σ' Hf' H' q s g z => q.elim, fun _ _ _ _ _ _ _ q => q.elim, fun _ _ _ _ _ _ q => q.elim, fun _ _ _ _ _ _ _ q => q.elim⟩
  obtain ⟨R, v2, e1, ⟨rfl, rfl, dx', fvs, z1, z2⟩, hR, _⟩ := g.own q
  exact h6 _ _ g.stp ⟨(hR p List.mem_cons_self).2, dx', fvs, z1, z2⟩
end
end Pv
/-! Lists that a def owns: read, made by a display -/
namespace Pv
open Rp (rp)
open Ow (ow)
open Da (toD)
open PySem L2
section
variable {X : Cx} {c : CL} {Γ : List Sl} {W : WX} {D : En} {rest : List Stmt} {pos p0 : Pos} {a b e : Expr} {es : List Expr} {α : Type} [Rp α] {x : α} {xs as : List α}
theorem e_ixOw (i : Nat) {y : Str} {j : Int} {p1 : Pos} (hΓ : Γ[i]? = some (Pv.o xs)) (hb : E X c Γ b j) (hi : atI xs j = some x) (hN : X.N[i]? = some y := by rfl) (hp : PlainIx b := by exact fun _ _ => rfl)
    (hv : Vis X.env.scope y := by first | exact Or.inl rfl | exact Or.inr (Or.inl rfl) | exact Or.inr (Or.inr rfl)) (hd : (y == ("__debug__" : Str)) = false := by decide) (hcd : (y == ("__classdict__" : Str)) = false := by decide) : E X c Γ (.Subscript (.Name y p1) b pos) x := fun _ _ σ Hf H g Q k => by
  obtain ⟨_, _, e1, ⟨p, vs, rfl, _, _, _⟩, _⟩ := g.own hΓ
  refine ⟨_, pe_ix ix_list (pe_var hN hv hd hcd) pe_w hp, _, e1, hb _ _ σ Hf H g _ fun w Hf1 H1 s1 r1 => ?_⟩
  obtain ⟨R, v2, e1', ⟨p', vs', rfl, rfl, e3', e4'⟩, hR, up⟩ := (g.step s1).own hΓ
  rw [e1] at e1'
  cases e1'
  obtain ⟨u, h4, h5⟩ := atI_rp e4' hi
  exact ⟨p, vs', j, u, rfl, r1, SqL.of e3', h4, k u _ _ s1 h5⟩
/-- x = [e, ..], a list that the def will change -/
theorem ss_newD (i : Nat) {y : Str} {pos' p2 : Pos} (hN : X.N.Nodup) (h : AL X c Γ es as) (hr : Ss X c W (Γ.set i (o as)) rest D) (hl : as.length ≤ 1000 := by exact Nat.le_of_ble_eq_true rfl) (hi : X.N[i]? = some y := by rfl) (hx : Loc X.env.scope y := by first | exact .inl rfl | exact .inr rfl)
    (hs : swapsWith (.List es p2) (some (.Name y pos')) pos.line X.env = pure false := by rfl) (hf : X.fn y = true ∨ X.env.scope.names.lookup y = some .local := by first | exact .inl rfl | exact .inr rfl) : Ss X c W Γ (.Assign [.Name y pos'] (.List es p2) pos :: rest) D := fun _ _ σ Hf H g DD k =>
  ⟨_, pss_cons (ps_set hN hi hx (pe_lst pa_w) hs hf) pss_w, h _ _ σ Hf H g _ fun vs Hf1 H1 s1 r1 => ⟨by rw [r1.len]; exact Nat.le_of_lt (small1000 hl), fun p hp => hr _ _ _ Hf1 _ ((g.step s1).adopt (R' := [p]) i (same_new hp) (fun a ha => by rw [List.mem_singleton.mp ha]; exact hp) ⟨p, vs, rfl, rfl, upd_same, r1⟩) DD (k.mono s1.f)⟩⟩
end
section
variable {X : Cx} {c : CL} {Γ : List Sl} {W : WX} {D : En} {rest : List Stmt} {pos : Pos}
/-- an if whose ways meet again -/
theorem ss_ifJ (Γj : List Sl) {cnd : Expr} {a b : List Stmt} {z : Bool} (ht : T X c Γ cnd z) (h1 : z = true → Ss X c W Γ a { D with nx := fun Γ' => Le Γ' Γj }) (h2 : z = false → Ss X c W Γ b { D with nx := fun Γ' => Le Γ' Γj }) (hr : Ss X c W Γj rest D) : Ss X c W Γ (.If cnd a b pos :: rest) D :=
  ss_if ht (fun h => ss_mono (h1 h) (fun _ l => ss_le l hr) (fun _ q => q) (fun _ q => q) (fun _ _ q => q) (fun _ _ q => q)) (fun h => ss_mono (h2 h) (fun _ l => ss_le l hr) (fun _ q => q) (fun _ q => q) (fun _ _ q => q) (fun _ _ q => q))
end
theorem hu64 {A : Around} {k : Nat} (hr : Room k A) : A.units + 64 < cLine := by have := hr.un; omega
theorem hu65 {A : Around} {k : Nat} (hr : Room k A) : A.units + 65 < cLine := by have := hr.un; omega
/-- items by place -/
theorem atI_of {α : Type} {xs : List α} {i : Int} {x : α} (h0 : 0 ≤ i) (h : xs[i.toNat]? = some x) : atI xs i = some x := by
  have e : i = (i.toNat : Int) := (Int.toNat_of_nonneg h0).symm
  rw [e]
  exact atI_nat h
theorem atI_getD {α : Type} {xs : List α} {i : Int} {z : α} (h0 : 0 ≤ i) (h : i.toNat < xs.length) : atI xs i = some (xs.getD i.toNat z) := atI_of h0 (by rw [List.getD_eq_getElem?_getD, List.getElem?_eq_getElem h]; rfl)
theorem rng_at {m : Int} {i : Nat} {x : Int} (h : (rng 0 m)[i]? = some x) : x = (i : Int) ∧ x < m := by
  unfold rng at h
  rw [List.getElem?_map] at h
  cases e : (List.range (m - 0).toNat)[i]? with
  | none => rw [e] at h; cases h
  | some k =>
    rw [e] at h
    have h2 : (0 : Int) + (k : Int) = x := Option.some.inj h
    obtain ⟨h3, h4⟩ := List.getElem?_eq_some_iff.mp e
    rw [List.getElem_range] at h4
    rw [List.length_range] at h3
    omega
theorem filt_take {α β : Type} {p : α → Bool} {f : α → β} {xs : List α} {i : Nat} {x : α} (h : xs[i]? = some x) : ((xs.take (i + 1)).filter p).map f = ((xs.take i).filter p).map f ++ (if p x = true then [f x] else []) := by
  rw [take_succ' h, List.filter_append, List.map_append]
  congr 1
  by_cases q : p x = true
  · rw [if_pos q, List.filter_cons_of_pos q]; rfl
  · rw [if_neg q, List.filter_cons_of_neg q]; rfl
theorem filt_len {α β : Type} {p : α → Bool} {f : α → β} {xs : List α} {i : Nat} : (((xs.take i).filter p).map f).length ≤ xs.length := by
  rw [List.length_map]
  refine Nat.le_trans (List.length_filter_le _ _) ?_
  rw [List.length_take]; omega
end Pv
/-! New objects that a def owns, objects that are changed in place -/
namespace Pv
open Rp (rp)
open Ow (ow)
open Da (toD)
open PySem L2
section
variable {X : Cx} {c : CL} {Γ : List Sl} {W : WX} {D : En} {rest : List Stmt} {pos apos p0 : Pos} {γ : Type} [Ob γ] {ob : γ} {o e : Expr} {es : List Expr}
/-- x = e, e a new object -/
theorem ss_setN (i : Nat) {x : Str} {pos' : Pos} (hN : X.N.Nodup) (h : EN X c Γ e ob) (hr : ∀ p, Ss X c W (Γ.set i (.own (Raw.mk (Ob.cls γ) p (Ob.fl ob)))) rest D) (hi : X.N[i]? = some x := by rfl) (hx : Loc X.env.scope x := by first | exact .inl rfl | exact .inr rfl)
    (hs : swapsWith e (some (.Name x pos')) pos.line X.env = pure false := by rfl) (hf : X.fn x = true ∨ X.env.scope.names.lookup x = some .local := by first | exact .inl rfl | exact .inr rfl) : Ss X c W Γ (.Assign [.Name x pos'] e pos :: rest) D := fun _ _ σ Hf H g DD k =>
  ⟨_, pss_cons (ps_set hN hi hx pe_w hs hf) pss_w, h _ _ σ Hf H g _ fun p Hf1 H1 s1 hp ⟨n1, dx, fvs, n2, n3⟩ => by
    have g1 := g.step s1
    refine hr p _ _ _ Hf1 H1 ?_ DD (k.mono s1.f)
    obtain ⟨e1, e2, R, e3, e4, e5⟩ := g
    have g2 : EnvOk X.K c _ _ Hf1 H1 (σ.set i (some (.ref p))) (Γ.set i .any) := g1.setAny i _ .any fun _ _ => trivial
    obtain ⟨f1, f2, _, _, _, _⟩ := g2
    have hR : ∀ j, ∀ a ∈ R j, a ≠ p := fun j a ha z => by
      obtain ⟨_, _, o', q, _⟩ := e5 j a ha
      rw [z, hp] at q; cases q
    refine ⟨f1, by rw [List.length_set, List.length_set, e2], fun j => if j = i then [p] else R j, fun j o' s' a b => ?_, fun j l hjl a ha hb => ?_, fun j a ha => ?_⟩
    · rcases set_get a with ⟨h1, h2⟩ | ⟨h1, h2⟩
      · rcases set_get b with ⟨h3, h4⟩ | ⟨h3, h4⟩
        · subst h2 h4
          simp only [if_pos h1]
          exact ⟨.ref p, rfl, rfl, rfl, dx, fvs, n2, n3⟩
        · exact absurd h1 h3
      · rcases set_get b with ⟨h3, h4⟩ | ⟨h3, h4⟩
        · exact absurd h3 h1
        · simp only [if_neg h1]
          have q := e3 j o' s' h2 h4
          cases s' with
          | any => trivial
          | dat pk =>
            obtain ⟨w, q1, q2⟩ := q
            exact ⟨w, q1, pk.i.mono s1.f q2⟩
          | @own _ io b' =>
            obtain ⟨w, q1, q2⟩ := q
            refine ⟨w, q1, io.stay s1.f (fun a ha => ?_) q2⟩
            obtain ⟨_, _, o2, q3, _⟩ := e5 j a ha
            rw [q3, s1.h _ _ q3]
    · by_cases q1 : j = i
      · by_cases q2 : l = i
        · exact hjl (q1.trans q2.symm)
        · simp only [if_pos q1, if_neg q2] at ha hb
          exact hR l a hb (List.mem_singleton.mp ha)
      · by_cases q2 : l = i
        · simp only [if_neg q1, if_pos q2] at ha hb
          exact hR j a ha (List.mem_singleton.mp hb)
        · simp only [if_neg q1, if_neg q2] at ha hb
          exact e4 j l hjl a ha hb
    · by_cases q1 : j = i
      · simp only [if_pos q1] at ha
        rw [List.mem_singleton.mp ha]
        exact ⟨e1.h.free hp, n1, _, n2, trivial⟩
      · simp only [if_neg q1] at ha
        obtain ⟨z1, z2, o', z3, z4⟩ := e5 j a ha
        exact ⟨z1, s1.d a o' z2 z3 z4, o', s1.h _ _ z3, z4⟩⟩
/-- return e, e a new object -/
theorem ss_retN' (h : EN X c Γ e ob) (hr : ∀ p, D.rn p ⟨Ob.cls γ, Ob.fl ob⟩ Γ) : Ss X c W Γ (.Return (some e) pos :: rest) D := fun _ _ σ Hf H g DD k =>
  ⟨_, pss_cons (ps_ret pe_w) pss_never, h _ _ σ Hf H g _ fun p Hf1 H1 s1 hp n => k.rn p _ Γ σ Hf1 H1 (hr p) s1.f (g.step s1) (g.stp.h.free hp) n⟩
/-- return x, x an object that the def owns -/
theorem ss_retO (i : Nat) {x : Str} {p1 : Pos} {r : Raw} (hΓ : Γ[i]? = some (.own r)) (hr : D.rn r.p ⟨r.cls, r.fs⟩ Γ) (hN : X.N[i]? = some x := by rfl)
    (hv : Vis X.env.scope x := by first | exact Or.inl rfl | exact Or.inr (Or.inl rfl) | exact Or.inr (Or.inr rfl)) (hd : (x == ("__debug__" : Str)) = false := by decide) (hcd : (x == ("__classdict__" : Str)) = false := by decide) : Ss X c W Γ (.Return (some (.Name x p1)) pos :: rest) D := fun _ _ σ Hf H g DD k => by
  obtain ⟨R, v2, e1, ⟨rfl, rfl, dx, fvs, h1, h2⟩, hR, up⟩ := g.own hΓ
  exact ⟨_, pss_cons (ps_ret (pe_var hN hv hd hcd)) pss_never, _, e1, k.rn r.p _ Γ σ Hf H hr (Same.refl _) g (hR _ List.mem_cons_self).1 ⟨(hR _ List.mem_cons_self).2, dx, fvs, h1, h2⟩⟩
end
/-! ### methods that give a new object; methods that change theirs and return it -/
def fspN (K : PySem.W.Frag) (c : CL) {γ : Type} [Ob γ] (R : List Pk → γ → Prop) : Sp := fun vs H Q _ => ∃ (Hf : Hp) (ps : List Pk) (ob : γ), Same Hf H ∧ PkL K c Hf vs ps ∧ R ps ob ∧ ∀ p Hf' H', Stp Hf H Hf' H' → H p = none → NewAt K c Hf' H' p ⟨Ob.cls γ, Ob.fl ob⟩ → Q (.ref p) H'
def spM (K : PySem.W.Frag) (c : CL) {γ : Type} [Ob γ] (R : List Pk → γ → γ → Prop) : Sp := fun vs H Q _ => ∃ (Hf : Hp) (p : Addr) (ws : List V) (ps : List Pk) (ob ob' : γ), vs = .ref p :: ws ∧ Same Hf H ∧ PkL K c Hf ws ps ∧ R ps ob ob' ∧ NewAt K c Hf H p ⟨Ob.cls γ, Ob.fl ob⟩ ∧
  ∀ Hf' H', Stp Hf (del H p) Hf' H' → NewAt K c Hf' H' p ⟨Ob.cls γ, Ob.fl ob'⟩ → Q (.ref p) H'
section
variable {P : Program} {w : World} {K : PySem.W.Frag} {mg : Str → Option Value} {base : Heap} {c : CL} {γ : Type} [Ob γ]
theorem def_okN {x qual : Str} {st : Stmt} {f : Addr} {fd : FuncData} {N ps : List Str} {k : Nat} {R : List Pk → γ → Prop} (F : Fun K x qual st f fd) (S : FnScope N ps (defScope st)) (hl : ∀ as r, R as r → as.length = ps.length) (hN : ps.length ≤ N.length)
    (hb : ∀ (cdv : Value) (A : Around) (outer : List Env) (s : Shared) (H : Hp) (E : XK) (as : List Pk) (ob : γ), Room k (A.deeper (PyProof.Rows.envOfC qual (defScope st) s.heap.objs.size f cdv)) → R as ob →
      Ss (cxOf CX0 P w K mg base N qual (defScope st) f cdv A outer s H E).nox c E1 (slots as N.length) (defBody st) { nx := fun _ => False, rt := fun _ _ => False, rn := fun _ n _ => n = ⟨Ob.cls γ, Ob.fl ob⟩ }) : FnOk P w K mg base CX0 (k + 1) f fd ps (fspN K c R) := by
  refine F.ok S (fun vs H Q E ⟨Hf, as, r, h1, h2, h3, h4⟩ => by rw [h2.len, hl _ _ h3]) fun cdv A outer s H vs Q E hr ⟨Hf, as, ob, h1, h2, h3, h4⟩ => ?_
  refine hb cdv A outer s H E as ob hr h3 Hf H (L2.start N vs) Hf H (env_start h1 h2 (by rw [hl _ _ h3]; exact hN)) _ ⟨fun _ _ _ _ q => q.elim, fun _ _ _ _ q => q.elim, fun _ _ _ _ q => q.elim, fun _ _ _ _ _ _ q => q.elim, fun _ _ _ _ _ _ _ q => q.elim, fun p n Γ' σ' Hf' H' q s g z1 z2 => ?_, fun _ _ _ _ _ _ _ q => q.elim⟩
  have q : n = ⟨Ob.cls γ, Ob.fl ob⟩ := q
  subst q
  exact h4 p _ _ g.stp z1 z2
theorem def_okM {x qual : Str} {st : Stmt} {f : Addr} {fd : FuncData} {N ps : List Str} {k : Nat} {R : List Pk → γ → γ → Prop} (F : Fun K x qual st f fd) (S : FnScope N ps (defScope st)) (hl : ∀ as a b, R as a b → as.length + 1 = ps.length) (hN : ps.length ≤ N.length)
    (hb : ∀ (cdv : Value) (A : Around) (outer : List Env) (s : Shared) (H : Hp) (E : XK) (as : List Pk) (ob ob' : γ) (p : Addr), Room k (A.deeper (PyProof.Rows.envOfC qual (defScope st) s.heap.objs.size f cdv)) → R as ob ob' →
      Ss (cxOf CX0 P w K mg base N qual (defScope st) f cdv A outer s H E).nox c E1 (.own (Raw.mk (Ob.cls γ) p (Ob.fl ob)) :: slots as (N.length - 1)) (defBody st) { nx := fun _ => False, rt := fun _ _ => False, rn := fun p' n _ => p' = p ∧ n = ⟨Ob.cls γ, Ob.fl ob'⟩ }) : FnOk P w K mg base CX0 (k + 1) f fd ps (spM K c R) := by
  refine F.ok S (fun vs H Q E ⟨Hf, p, ws, as, ob, ob', h0, h1, h2, h3, _⟩ => by rw [h0, List.length_cons, h2.len, hl _ _ _ h3]) fun cdv A outer s H vs Q E hr ⟨Hf, p, ws, as, ob, ob', h0, h1, h2, h3, ⟨h4, dx, fvs, h5, h6⟩, h7⟩ => ?_
  subst h0
  refine hb cdv A outer s H E as ob ob' p hr h3 Hf (del H p) _ Hf H (env_startI h1 h2 (by rw [hl _ _ _ h3]; exact hN) h4 h5 h6) _ ⟨fun _ _ _ _ q => q.elim, fun _ _ _ _ q => q.elim, fun _ _ _ _ q => q.elim, fun _ _ _ _ _ _ q => q.elim, fun _ _ _ _ _ _ _ q => q.elim, fun p' n Γ' σ' Hf' H' q s g z1 z2 => ?_, fun _ _ _ _ _ _ _ q => q.elim⟩
  obtain ⟨q1, q2⟩ := (q : p' = p ∧ n = ⟨Ob.cls γ, Ob.fl ob'⟩)
  subst q1 q2
  exact h7 _ _ g.stp z2
/-- as their callers see them -/
structure MtN (P : Program) (w : World) (K : PySem.W.Frag) (mg : Str → Option Value) (base : Heap) (c : CL) (γ : Type) [Ob γ] (m : Str) (k : Nat) (R : List Pk → γ → Prop) : Prop where
  ex : ∃ (f : Addr) (fd : FuncData) (ps : List Str), FnOk P w K mg base CX0 k f fd ps (fspN K c R) ∧ Meth K (c (Ob.cls γ)) m f ∧ Binds K fd ps []
structure MtM (P : Program) (w : World) (K : PySem.W.Frag) (mg : Str → Option Value) (base : Heap) (c : CL) (γ : Type) [Ob γ] (m : Str) (k : Nat) (R : List Pk → γ → γ → Prop) : Prop where
  ex : ∃ (f : Addr) (fd : FuncData) (ps : List Str), FnOk P w K mg base CX0 k f fd ps (spM K c R) ∧ Meth K (c (Ob.cls γ)) m f ∧ Binds K fd ps []
end
section
variable {X : Cx} {c : CL} {Γ : List Sl} {W : WX} {D : En} {rest : List Stmt} {pos apos p0 : Pos} {γ : Type} [Ob γ] {ob ob2 : γ} {o e : Expr} {es : List Expr}
theorem e_opN {op : Operator} {k : Nat} {R : List Pk → γ → Prop} {z : γ} {a b : Expr} {m : Str} (M : MtN X.prog X.w X.K X.mg X.base c γ m k R) (hm : m = PySem.dunder op.info.2) (hr : Room k X.A) (hc : PySem.W.selfFirst X.K (c (Ob.cls γ)) = true) (ha : E X c Γ a ob) (hb : E X c Γ b ob2) (hR : R [⟨ob⟩, ⟨ob2⟩] z) : EN X c Γ (.BinOp a op b pos) z := fun _ _ σ Hf H g Q q => by
  obtain ⟨f, fd, ps, F, mt, hbi⟩ := M
  subst hm
  refine ⟨_, pe_op (op_own F hbi pass0 hr hc mt.at_ mt.fn) pe_w pe_w, ha _ _ σ Hf H g _ fun u Hf1 H1 s1 r1 => hb _ _ σ Hf1 H1 (g.step s1) _ fun v Hf2 H2 s2 r2 => ?_⟩
  have r1' := Rp.mono s2.f r1
  obtain ⟨p, dx, fvs, rfl, h1, h2⟩ := Ob.iff.mp r1'
  obtain ⟨p2, dx2, fvs2, rfl, h3, h4⟩ := Ob.iff.mp r2
  exact ⟨p, p2, dx, fvs, dx2, fvs2, rfl, rfl, s2.s _ _ h1, s2.s _ _ h3, Hf2, [⟨ob⟩, ⟨ob2⟩], z, s2.s, .cons r1' (.cons r2 .nil), hR, fun p' Hf3 H3 s3 n1 n2 => q p' Hf3 H3 ((s1.trans s2).trans s3) ((s1.trans s2).h.free n1) n2⟩
/-- behind a call that changed the object of slot i -/
theorem EnvOk.chg {K : PySem.W.Frag} {H0f H0 Hf H Hf' H' : Hp} {σ : L2.St} {i : Nat} {r r' : Raw} (g : EnvOk K c H0f H0 Hf H σ Γ) (hΓ : Γ[i]? = some (.own r)) (hp : r'.p = r.p) (st : Stp Hf (del H r.p) Hf' H') (h : NewAt K c Hf' H' r.p ⟨r'.cls, r'.fs⟩) : EnvOk K c H0f H0 Hf' H' σ (Γ.set i (.own r')) := by
  obtain ⟨e1, e2, R, e3, e4, e5⟩ := g
  have hlt : i < Γ.length := (List.getElem?_eq_some_iff.mp hΓ).1
  have hs : σ[i]? = some σ[i] := List.getElem?_eq_getElem (by omega)
  obtain ⟨v, v1, v2, v3, dx, fvs, v4, v5⟩ := e3 i _ _ hs hΓ
  have hpi : r.p ∈ R i := by rw [v3]; exact List.mem_cons_self
  obtain ⟨h1, dx', fvs', h2, h3⟩ := h
  have np : ∀ j, j ≠ i → ∀ a ∈ R j, a ≠ r.p := fun j hj a ha z => e4 j i hj a ha (by rw [z]; exact hpi)
  have at0 : H0 r.p = none := (e5 i _ hpi).1
  have keep : ∀ a o', a ≠ r.p → H a = some o' → H' a = some o' := fun a o' hn ha => st.h a o' (by rw [del_ne hn]; exact ha)
  refine ⟨⟨e1.f.trans st.f, fun a o' ha => ?_, st.s, fun a o' z1 z2 n => ?_⟩, by rw [List.length_set]; exact e2, R, fun j o' s' a b => ?_, e4, fun j a ha => ?_⟩
  · exact keep a o' (ne_of_none ha at0) (e1.h _ _ ha)
  · exact st.d a o' (e1.d a o' z1 z2 n) (by rw [del_ne (ne_of_none z2 at0)]; exact e1.h _ _ z2) n
  · rcases set_get b with ⟨f1, f2⟩ | ⟨f1, f2⟩
    · subst f1 f2
      rw [hs] at a
      obtain rfl := Option.some.inj a
      exact ⟨v, v1, by rw [v2, hp], by rw [v3, hp], dx', fvs', by rw [hp]; exact h2, h3⟩
    · have q := e3 j o' s' a f2
      cases s' with
      | any => trivial
      | dat pk =>
        obtain ⟨u, u1, u2⟩ := q
        exact ⟨u, u1, pk.i.mono st.f u2⟩
      | @own _ io b' =>
        obtain ⟨u, u1, u2⟩ := q
        refine ⟨u, u1, io.stay st.f (fun a ha => ?_) u2⟩
        obtain ⟨_, _, o2, q3, _⟩ := e5 j a ha
        rw [q3, keep a o2 (np j f1 a ha) q3]
  · by_cases q : j = i
    · subst q
      rw [v3] at ha
      rw [List.mem_singleton.mp ha]
      exact ⟨at0, h1, _, h2, trivial⟩
    · obtain ⟨z1, z2, o2, z3, z4⟩ := e5 j a ha
      exact ⟨z1, st.d a o2 z2 (by rw [del_ne (np j q a ha)]; exact z3) z4, o2, keep a o2 (np j q a ha) z3, z4⟩
/-- x op= e, x an object that the def owns -/
theorem ss_augO (i : Nat) {op : Operator} {x : Str} {p1 : Pos} {k : Nat} {m : Str} {R : List Pk → γ → γ → Prop} {ob' : γ} {q : Addr} {α : Type} [Rp α] {y : α} (M : MtM X.prog X.w X.K X.mg X.base c γ m k R) (hm : m = PySem.dunderI op.info.2) (hr : Room k X.A) (hc : PySem.W.selfFirst X.K (c (Ob.cls γ)) = true) (hNd : X.N.Nodup)
    (hΓ : Γ[i]? = some (.own (Raw.mk (Ob.cls γ) q (Ob.fl ob)))) (he : E X c Γ e y) (hR : R [⟨y⟩] ob ob') (hrest : Ss X c W (Γ.set i (.own (Raw.mk (Ob.cls γ) q (Ob.fl ob')))) rest D) (hN : X.N[i]? = some x := by rfl) (hx : Loc X.env.scope x := by first | exact .inl rfl | exact .inr rfl)
    (hf : X.fn x = true ∨ X.env.scope.names.lookup x = some .local := by first | exact .inl rfl | exact .inr rfl) : Ss X c W Γ (.AugAssign (.Name x p1) op e pos :: rest) D := fun _ _ σ Hf H g DD kk => by
  obtain ⟨f, fd, ps, F, mt, hbi⟩ := M
  subst hm
  obtain ⟨_, v0, w1, ⟨w2, _⟩, _, _⟩ := g.own hΓ
  subst w2
  refine ⟨_, pss_cons (ps_aug hNd hN hx pe_w (iop_own (op := op) F hbi pass0 hr hc mt.at_ mt.fn) hf) pss_w, _, w1, he _ _ σ Hf H g _ fun u Hf1 H1 s1 r1 => ?_⟩
  obtain ⟨R1, v1, w1', ⟨w2', w3', dx, fvs, w4, w5⟩, w6, _⟩ := (g.step s1).own hΓ
  subst w3'
  refine ⟨q, dx, fvs, rfl, w4, Hf1, q, [u], [⟨y⟩], ob, ob', rfl, s1.s, .cons r1 .nil, hR, ⟨(w6 q List.mem_cons_self).2, dx, fvs, w4, w5⟩, fun Hf2 H2 s2 n2 => ?_⟩
  have e1 : σ.set i (some (.ref q)) = σ := by
    apply List.ext_getElem?
    intro j
    by_cases hj : j = i
    · subst hj
      rw [w1, List.getElem?_set_self (List.getElem?_eq_some_iff.mp w1).1]
    · rw [List.getElem?_set_ne (fun z => hj z.symm)]
  show wSs X rest DD (σ.set i (some (.ref q))) H2
  rw [e1]
  exact hrest _ _ σ Hf2 H2 ((g.step s1).chg hΓ (r' := Raw.mk (Ob.cls γ) q (Ob.fl ob')) rfl s2 n2) DD (kk.mono (s1.f.trans s2.f))
/-! ### an owned object lent for one call -/
class Flat (α : Type) extends Rp α where
  any : ∀ {K c H H' v a}, rp K c H v a → rp K c H' v a
instance : Flat Int := ⟨fun h => h⟩
instance : Flat Bool := ⟨fun h => h⟩
instance : Flat Unit := ⟨fun h => h⟩
section
variable {K : PySem.W.Frag} {H0f H0 Hf H : Hp} {σ : L2.St}
/-- an owned object is frozen -/
theorem EnvOk.freeze' (g : EnvOk K c H0f H0 Hf H σ Γ) {i : Nat} {β : Type 1} [Ow β] {b : β} (hi : Γ[i]? = some (.own b)) {α : Type} [Rp α] {x : α} (fz : ∀ R v, ow K c Hf H R v b → Same Hf (fun a => if a ∈ R then H a else Hf a) → rp K c (fun a => if a ∈ R then H a else Hf a) v x) :
    ∃ Hf' R v, σ[i]? = some (some v) ∧ ow K c Hf H R v b ∧ (∀ a, a ∉ R → Hf' a = Hf a) ∧ (∀ a ∈ R, Hf a = none) ∧ Same Hf Hf' ∧ EnvOk K c H0f H0 Hf' H σ (Γ.set i (d x)) := by
  obtain ⟨h1, h2, R, h3, h4, h5⟩ := g
  have hlt : i < Γ.length := (List.getElem?_eq_some_iff.mp hi).1
  have hs : σ[i]? = some σ[i] := List.getElem?_eq_getElem (by omega)
  obtain ⟨v, e1, e2⟩ := h3 i _ _ hs hi
  have sf : Same Hf (fun a => if a ∈ R i then H a else Hf a) := fun a o e => by
    have z : a ∉ R i := fun z => by rw [(h5 i a z).2.1] at e; cases e
    simp only [if_neg z]; exact e
  refine ⟨_, R i, v, by rw [hs, e1], e2, fun a ha => if_neg ha, fun a ha => (h5 i a ha).2.1, sf, ⟨⟨h1.f.trans sf, h1.h, fun a o e => ?_, fun a o e1 e2 n => ?_⟩, by rw [List.length_set, h2], fun j => if j = i then [] else R j, fun j o s a b' => ?_, fun j k hjk a ha hb => ?_, fun j a ha => ?_⟩⟩
  · by_cases z : a ∈ R i
    · simp only [if_pos z] at e; exact e
    · simp only [if_neg z] at e; exact h1.s a o e
  · have z : a ∉ R i := fun z => by rw [(h5 i a z).1] at e2; cases e2
    simp only [if_neg z]; exact h1.d a o e1 e2 n
  · rcases set_get b' with ⟨f1, f2⟩ | ⟨f1, f2⟩
    · subst f1 f2
      simp only [if_pos]
      rw [hs] at a
      obtain rfl := Option.some.inj a
      exact ⟨v, e1, fz _ _ e2 sf⟩
    · simp only [if_neg f1]
      have q := h3 j o s a f2
      cases s with
      | any => trivial
      | dat p =>
        obtain ⟨u, u1, u2⟩ := q
        exact ⟨u, u1, p.i.mono sf u2⟩
      | @own _ io b =>
        obtain ⟨u, u1, u2⟩ := q
        exact ⟨u, u1, io.stay sf (fun _ _ => rfl) u2⟩
  · by_cases q1 : j = i
    · simp only [if_pos q1] at ha; cases ha
    · by_cases q2 : k = i
      · simp only [if_pos q2] at hb; cases hb
      · simp only [if_neg q1, if_neg q2] at ha hb
        exact h4 j k hjk a ha hb
  · by_cases q1 : j = i
    · simp only [if_pos q1] at ha; cases ha
    · simp only [if_neg q1] at ha
      obtain ⟨g1, g2, g3⟩ := h5 j a ha
      refine ⟨g1, ?_, g3⟩
      simp only [if_neg (fun z => h4 j i q1 a ha z : a ∉ R i)]
      exact g2
end
theorem EnvOk.lend {K : PySem.W.Frag} {H0f H0 Hf H : Hp} {σ : L2.St} {i : Nat} {q : Addr} (g : EnvOk K c H0f H0 Hf H σ Γ) (hΓ : Γ[i]? = some (.own (Raw.mk (Ob.cls γ) q (Ob.fl ob)))) :
    ∃ Hf1, EnvOk K c H0f H0 Hf1 H σ (Γ.set i (d ob)) ∧ ∀ Hf2 H2, Stp Hf1 H Hf2 H2 → Stp Hf H (del Hf2 q) H2 := by
  obtain ⟨Hf1, R, v, _, ⟨w1, w2, dx, fvs, w3, _⟩, hout, hin, s, g'⟩ := g.freeze' hΓ (α := γ) (x := ob) (by
    rintro R v ⟨h1, h2, dx, fvs, h3, h4⟩ sf
    refine Ob.iff.mpr ⟨_, dx, fvs, h1, ?_, h4.mono sf⟩
    simp only [h2, List.mem_singleton, if_pos]
    exact h3)
  have w2 : R = [q] := w2
  subst w2
  have hq : Hf q = none := hin q List.mem_cons_self
  refine ⟨Hf1, g', fun Hf2 H2 st => ⟨fun a o' ha => ?_, st.h, fun a o' ha => ?_, fun a o' z1 z2 n => ?_⟩⟩
  · rw [del_ne (ne_of_none ha hq)]; exact st.f a o' (s a o' ha)
  · by_cases z : a = q
    · subst z; unfold del at ha; rw [if_pos rfl] at ha; cases ha
    · rw [del_ne z] at ha; exact st.s a o' ha
  · by_cases z : a = q
    · subst z; exact if_pos rfl
    · rw [del_ne z]; exact st.d a o' (by rw [hout a (fun y => z (List.mem_singleton.mp y))]; exact z1) z2 n
theorem e_lend (i : Nat) {q : Addr} {α : Type} [Flat α] {z : α} (hΓ : Γ[i]? = some (.own (Raw.mk (Ob.cls γ) q (Ob.fl ob)))) (h : E X c (Γ.set i (d ob)) e z) : E X c Γ e z := fun _ _ σ Hf H g Q k => by
  obtain ⟨Hf1, g', st⟩ := g.lend hΓ
  exact h _ _ σ Hf1 H g' Q fun v Hf2 H2 s2 r2 => k v _ H2 (st Hf2 H2 s2) (Flat.any r2)
theorem t_lend (i : Nat) {q : Addr} {z : Bool} (hΓ : Γ[i]? = some (.own (Raw.mk (Ob.cls γ) q (Ob.fl ob)))) (h : T X c (Γ.set i (d ob)) e z) : T X c Γ e z := fun _ _ σ Hf H g Q k => by
  obtain ⟨Hf1, g', st⟩ := g.lend hΓ
  exact h _ _ σ Hf1 H g' Q fun Hf2 H2 s2 => k _ H2 (st Hf2 H2 s2)
end
end Pv
namespace Pv
open Rp (rp)
open Ow (ow)
open Da (toD)
open PySem L2
section
variable {X : Cx} {c : CL} {Γ : List Sl} {W : WX} {D : En} {rest : List Stmt} {pos apos p0 : Pos} {a e : Expr} {es : List Expr}
/-! ### list(d) -/
theorem keys_rp {K : PySem.W.Frag} {H Hx : Hp} {α : Type} [Rp α] {kvs : List (List Key × V)} {bs : List Addr} (hk : IsKeys H kvs bs) : ∀ {l : List (List Int × α)} {Hf : Hp}, DR K c Hf kvs l → (∀ b ∈ bs, Hx b = H b) → RpL K c Hx (bs.map V.ref) (l.map fun kv => (⟨kv.1⟩ : Tup Int)) := by
  unfold IsKeys at hk
  induction hk with
  | nil => intro l Hf hd _; cases hd; exact .nil
  | @cons p b ps bs h t ih =>
    intro l Hf hd hx
    cases hd with
    | @cons _ q _ qs hq tq =>
      refine .cons ⟨b, _, rfl, (by rw [hx b List.mem_cons_self, h]), ?_⟩ (ih tq fun b' hb' => hx b' (List.mem_cons_of_mem _ hb'))
      rw [hq.1, kT_kV]
      exact rpl_int'
theorem e_listDt {α : Type} [Rp α] {y : Dt α} (hc : X.calm = true) (ha : E X c Γ a y) (hm : X.mg "list" = none) (hg : Gl X "list" := by rfl) (he : starEach [a] X.env = (false, eval a X.env) :: starEach [] X.env := by rfl) : E X c Γ (.Call (.Name "list" p0) [a] [] pos) (y.l.map fun kv => (⟨kv.1⟩ : Tup Int)) :=
  e_callTy (call_list_dT hc) (a_cons ha a_nil he) (fun Hf H vs s r Q k => by
    obtain ⟨v, rfl, q, od, kvs, rfl, h3, h4⟩ := pkl1 r
    refine ⟨q, kvs, rfl, .inr ⟨od, s _ _ h3⟩, fun p bs hp hk => ?_⟩
    have hfp := s.free hp
    have tupb : ∀ b ∈ bs, ∃ xs, H b = some (.tup xs) := by
      intro b hb
      obtain ⟨i, hi⟩ := List.mem_iff_getElem?.mp hb
      obtain ⟨kv, _, h⟩ := paired_get' hk hi
      exact ⟨_, h⟩
    refine k _ (upd (fun b => if b ∈ bs then H b else Hf b) p (.lst (bs.map V.ref))) _ ⟨fun a o z => ?_, same_new hp, fun a o z => ?_, fun a o z1 z2 n => ?_⟩ ⟨p, bs.map V.ref, rfl, .inl (.inl upd_same), keys_rp hk h4 fun b hb => ?_⟩
    · rw [upd_ne (ne_of_none z hfp)]
      by_cases g : a ∈ bs
      · simp only [if_pos g]; exact s _ _ z
      · simp only [if_neg g]; exact z
    · by_cases g : a = p
      · subst g; rw [upd_same] at z ⊢; exact z
      · rw [upd_ne g] at z ⊢
        by_cases g2 : a ∈ bs
        · simp only [if_pos g2] at z; exact z
        · simp only [if_neg g2] at z; exact s _ _ z
    · rw [upd_ne (ne_of_none z2 hp)]
      by_cases g2 : a ∈ bs
      · obtain ⟨xs, h⟩ := tupb a g2
        rw [h] at z2; obtain rfl := Option.some.inj z2; exact n.elim
      · simp only [if_neg g2]; exact z1
    · have : b ≠ p := fun z => by obtain ⟨xs, h⟩ := tupb b hb; rw [z, hp] at h; cases h
      rw [upd_ne this]; simp only [if_pos hb]) hg hm (by decide +kernel) (by decide) (by decide) he
/-! ### C() with defaults -/
structure Mq0 (P : Program) (w : World) (K : PySem.W.Frag) (mg : Str → Option Value) (base : Heap) (c : CL) (γ : Type) [Ob γ] (x : Str) (k : Nat) (ob : γ) : Prop where
  ex : ∃ (f : Addr) (fd : FuncData) (ps : List Str) (R : List Pk → γ → Prop) (ds : List Value) (dvs : List V) (as : List Pk), Mk K (c (Ob.cls γ)) f ∧ FnOk P w K mg base CX0 k f fd ps (spI K c R) ∧ mg x = some (.ref (c (Ob.cls γ))) ∧ Binds K fd ps ds ∧ L2.Vals dvs ds ∧ (∀ Hf, PkL K c Hf dvs as) ∧ R as ob
theorem e_make0N {γ : Type} [Ob γ] {ob : γ} {x : Str} {k : Nat} (M : Mq0 X.prog X.w X.K X.mg X.base c γ x k ob) (hr : Room (k + 1) X.A) (hg : Gl X x := by rfl) (hdb : (x == ("__debug__" : Str)) = false := by decide) : EN X c Γ (.Call (.Name x p0) [] [] pos) ob := fun _ _ σ Hf H g Q q => by
  obtain ⟨f, fd, ps, R, ds, dvs, as, mk, F, hm, hb, vd, hp, hR⟩ := M
  refine ⟨_, pe_make0 mk F hr hg hm hb vd pass0 hdb, fun y dx ny ndx nyx => ?_⟩
  have e0 : ∀ a, a ≠ y → upd (upd H dx (.own y)) y (.ins (c (Ob.cls γ)) dx []) a = upd H dx (.own y) a := fun a h => upd_ne h
  rw [List.nil_append]
  refine ⟨Hf, y, dx, dvs, as, ob, rfl, (g.same.trans (same_new ndx)).trans (same_new (by rw [upd_ne nyx.symm]; exact ny)), hp Hf, hR, g.same.free ny, upd_same, fun Hf2 H2 s2 r2 => ⟨rfl, q y Hf2 H2 ⟨s2.f, fun a o h => ?_, s2.s, fun a o h1 h2 n => ?_⟩ ny r2⟩⟩
  · refine s2.h a o ?_
    rw [del_ne (ne_of_none h ny), e0 _ (ne_of_none h ny), upd_ne (ne_of_none h ndx)]
    exact h
  · refine s2.d a o h1 ?_ n
    rw [del_ne (ne_of_none h2 ny), e0 _ (ne_of_none h2 ny), upd_ne (ne_of_none h2 ndx)]
    exact h2
/-! ### several owned objects -/
structure Bag : Type 1 where
  l : List (Addr × NewO)
instance : Ow Bag where
  ow := fun K c Hf H R v b => R = b.l.map Prod.fst ∧ (b.l.map Prod.fst).Nodup ∧ ∀ q ∈ b.l, ∃ dx fvs, H q.1 = some (.ins (c q.2.cls) dx fvs) ∧ FR K c Hf fvs q.2.fs
  stay := fun s h ⟨h1, h2, h3⟩ => ⟨h1, h2, fun q hq => by
    obtain ⟨dx, fvs, z1, z2⟩ := h3 q hq
    exact ⟨dx, fvs, by rw [h q.1 (by rw [h1]; exact List.mem_map_of_mem hq)]; exact z1, z2.mono s⟩⟩
  here := fun ⟨h1, h2, h3⟩ a ha => by
    rw [h1] at ha
    obtain ⟨q, hq, rfl⟩ := List.mem_map.mp ha
    obtain ⟨dx, fvs, z1, _⟩ := h3 q hq
    exact ⟨_, z1, trivial⟩
inductive NwL (K : PySem.W.Frag) (c : CL) (Hf H : Hp) : List Addr → List NewO → Prop
  | nil : NwL K c Hf H [] []
  | cons {p : Addr} {n : NewO} {ps : List Addr} {ns : List NewO} (h : NewAt K c Hf H p n) (t : NwL K c Hf H ps ns) : NwL K c Hf H (p :: ps) (n :: ns)
theorem NewAt.step {K : PySem.W.Frag} {Hf H Hf' H' : Hp} {p : Addr} {n : NewO} (s : Stp Hf H Hf' H') (h : NewAt K c Hf H p n) : NewAt K c Hf' H' p n := by
  obtain ⟨h1, dx, fvs, h2, h3⟩ := h
  exact ⟨s.d p _ h1 h2 trivial, dx, fvs, s.h _ _ h2, h3.mono s.f⟩
theorem NwL.step {K : PySem.W.Frag} {Hf H Hf' H' : Hp} {ps : List Addr} {ns : List NewO} (s : Stp Hf H Hf' H') (h : NwL K c Hf H ps ns) : NwL K c Hf' H' ps ns := by
  induction h with
  | nil => exact .nil
  | cons h t ih => exact .cons (h.step s) ih
theorem NwL.len {K : PySem.W.Frag} {Hf H : Hp} {ps : List Addr} {ns : List NewO} (h : NwL K c Hf H ps ns) : ps.length = ns.length := by
  induction h with
  | nil => rfl
  | cons h t ih => rw [List.length_cons, List.length_cons, ih]
theorem NwL.mem {K : PySem.W.Frag} {Hf H : Hp} {ps : List Addr} {ns : List NewO} (h : NwL K c Hf H ps ns) : ∀ p ∈ ps, ∃ n, NewAt K c Hf H p n := by
  induction h with
  | nil => intro p hp; cases hp
  | @cons p0 n _ _ h t ih =>
    intro p hp
    rcases List.mem_cons.mp hp with z | z
    · rw [z]; exact ⟨n, h⟩
    · exact ih p z
theorem NwL.zip {K : PySem.W.Frag} {Hf H : Hp} {ps : List Addr} {ns : List NewO} (h : NwL K c Hf H ps ns) : ∀ q ∈ ps.zip ns, NewAt K c Hf H q.1 q.2 := by
  induction h with
  | nil => intro q hq; cases hq
  | cons h t ih =>
    intro q hq
    rcases List.mem_cons.mp hq with z | z
    · rw [z]; exact h
    · exact ih q z
/-- items that are new objects -/
def ALN (X : Cx) (c : CL) (Γ : List Sl) (es : List Expr) (ns : List NewO) : Prop :=
  ∀ (H0f H0 : Hp) (σ : L2.St) (Hf H : Hp), EnvOk X.K c H0f H0 Hf H σ Γ → ∀ Q : List V → Hp → Prop, (∀ ps Hf' H', Stp Hf H Hf' H' → (∀ p ∈ ps, H p = none) → ps.Nodup → NwL X.K c Hf' H' ps ns → Q (ps.map V.ref) H') → wA X es σ H Q
theorem aln_nil : ALN X c Γ [] [] := fun _ _ σ Hf H g Q k => ⟨_, pa_nil, k [] _ _ (Stp.refl g.same) (fun _ h => nomatch h) List.nodup_nil .nil⟩
theorem aln_cons {γ : Type} [Ob γ] {ob : γ} {ns : List NewO} (h : EN X c Γ e ob) (hr : ALN X c Γ es ns) (hs : starEach (e :: es) X.env = (false, eval e X.env) :: starEach es X.env := by rfl) : ALN X c Γ (e :: es) (⟨Ob.cls γ, Ob.fl ob⟩ :: ns) := fun _ _ σ Hf H g Q k =>
  ⟨_, pa_cons pe_w pa_w hs, h _ _ σ Hf H g _ fun p Hf1 H1 s1 hp n => hr _ _ σ Hf1 H1 (g.step s1) _ fun ps Hf2 H2 s2 hps hnd hpr => k (p :: ps) Hf2 H2 (s1.trans s2) (fun q hq => by
    rcases List.mem_cons.mp hq with z | z
    · rw [z]; exact hp
    · exact s1.h.free (hps q z)) (List.nodup_cons.mpr ⟨fun z => (by obtain ⟨_, dx, fvs, h2, _⟩ := n; rw [hps p z] at h2; cases h2), hnd⟩) (.cons (n.step s2) hpr)⟩
theorem EnvOk.bag {K : PySem.W.Frag} {H0f H0 Hf H Hf' H' : Hp} {σ : L2.St} {j : Nat} {pk : Pk} {ps : List Addr} {ns : List NewO} (g : EnvOk K c H0f H0 Hf H σ Γ) (s : Stp Hf H Hf' H') (hj : Γ[j]? = some (.dat pk)) (hps : ∀ p ∈ ps, H p = none) (hnd : ps.Nodup) (hpr : NwL K c Hf' H' ps ns) : EnvOk K c H0f H0 Hf' H' σ (Γ.set j (.own (Bag.mk (ps.zip ns)))) := by
  have g1 := g.step s
  obtain ⟨e1, e2, R, e3, e4, e5⟩ := g
  have hlt : j < Γ.length := (List.getElem?_eq_some_iff.mp hj).1
  have hs : σ[j]? = some σ[j] := List.getElem?_eq_getElem (by omega)
  obtain ⟨v, v1, _⟩ := e3 j _ _ hs hj
  have hmap : (ps.zip ns).map Prod.fst = ps := by
    have hl := hpr.len
    exact List.map_fst_zip (by omega)
  have hnew := hpr.zip
  have hR : ∀ l, ∀ a ∈ R l, a ∉ ps := fun l a ha z => by
    obtain ⟨_, _, o', q, _⟩ := e5 l a ha
    rw [hps a z] at q; cases q
  refine ⟨g1.stp, by rw [List.length_set]; exact e2, fun l => if l = j then ps else R l, fun l o' s' a b => ?_, fun l m hlm a ha hb => ?_, fun l a ha => ?_⟩
  · rcases set_get b with ⟨f1, f2⟩ | ⟨f1, f2⟩
    · subst f1 f2
      rw [hs] at a
      obtain rfl := Option.some.inj a
      simp only [if_pos]
      exact ⟨v, v1, hmap.symm, by rw [hmap]; exact hnd, fun q hq => (hnew q hq).2⟩
    · simp only [if_neg f1]
      have q := e3 l o' s' a f2
      cases s' with
      | any => trivial
      | dat pk' =>
        obtain ⟨u, u1, u2⟩ := q
        exact ⟨u, u1, pk'.i.mono s.f u2⟩
      | @own _ io b' =>
        obtain ⟨u, u1, u2⟩ := q
        refine ⟨u, u1, io.stay s.f (fun a ha => ?_) u2⟩
        obtain ⟨_, _, o2, q3, _⟩ := e5 l a ha
        rw [q3, s.h _ _ q3]
  · by_cases q1 : l = j
    · by_cases q2 : m = j
      · exact hlm (q1.trans q2.symm)
      · simp only [if_pos q1, if_neg q2] at ha hb
        exact hR m a hb ha
    · by_cases q2 : m = j
      · simp only [if_neg q1, if_pos q2] at ha hb
        exact hR l a ha hb
      · simp only [if_neg q1, if_neg q2] at ha hb
        exact e4 l m hlm a ha hb
  · by_cases q1 : l = j
    · simp only [if_pos q1] at ha
      obtain ⟨n, z1, dx, fvs, z2, _⟩ := hpr.mem a ha
      exact ⟨e1.h.free (hps a ha), z1, _, z2, trivial⟩
    · simp only [if_neg q1] at ha
      obtain ⟨z1, z2, o2, z3, z4⟩ := e5 l a ha
      exact ⟨z1, s.d a o2 z2 z3 z4, o2, s.h _ _ z3, z4⟩
/-- one object out of the bag into the slot i -/
theorem EnvOk.pick {K : PySem.W.Frag} {H0f H0 Hf H : Hp} {σ : L2.St} {i j : Nat} {q : Addr × NewO} {b : List (Addr × NewO)} (g : EnvOk K c H0f H0 Hf H σ Γ) (hij : i ≠ j) (hj : Γ[j]? = some (.own (Bag.mk (q :: b)))) : EnvOk K c H0f H0 Hf H (σ.set i (some (.ref q.1))) ((Γ.set j (.own (Bag.mk b))).set i (.own (Raw.mk q.2.cls q.1 q.2.fs))) := by
  obtain ⟨e1, e2, R, e3, e4, e5⟩ := g
  have hlt : j < Γ.length := (List.getElem?_eq_some_iff.mp hj).1
  have hs : σ[j]? = some σ[j] := List.getElem?_eq_getElem (by omega)
  obtain ⟨v, v1, v2, v3, v4⟩ := e3 j _ _ hs hj
  have v2 : R j = q.1 :: b.map Prod.fst := v2
  have v3 : (q.1 :: b.map Prod.fst).Nodup := v3
  have hn := List.nodup_cons.mp v3
  have hq : q.1 ∈ R j := by rw [v2]; exact List.mem_cons_self
  have sub : ∀ a ∈ b.map Prod.fst, a ∈ R j := fun a ha => by rw [v2]; exact List.mem_cons_of_mem _ ha
  refine ⟨e1, by rw [List.length_set, List.length_set, List.length_set]; exact e2, fun l => if l = i then [q.1] else if l = j then b.map Prod.fst else R l, fun l o' s' a b' => ?_, fun l m hlm a ha hb => ?_, fun l a ha => ?_⟩
  · rcases set_get b' with ⟨f1, f2⟩ | ⟨f1, f2⟩
    · subst f1 f2
      simp only [if_pos]
      rcases set_get a with ⟨z1, z2⟩ | ⟨z1, z2⟩
      · subst z2
        obtain ⟨dx, fvs, w1, w2⟩ := v4 q List.mem_cons_self
        exact ⟨.ref q.1, rfl, rfl, rfl, dx, fvs, w1, w2⟩
      · exact absurd rfl z1
    · rcases set_get a with ⟨z1, z2⟩ | ⟨z1, z2⟩
      · exact absurd z1 f1
      · rcases set_get f2 with ⟨g1, g2⟩ | ⟨g1, g2⟩
        · subst g1 g2
          rw [hs] at z2
          obtain rfl := Option.some.inj z2
          simp only [if_neg f1, if_pos]
          exact ⟨v, v1, rfl, hn.2, fun p hp => v4 p (List.mem_cons_of_mem _ hp)⟩
        · simp only [if_neg f1, if_neg g1]
          exact e3 l o' s' z2 g2
  · have key : ∀ l, ∀ a, a ∈ (if l = i then [q.1] else if l = j then b.map Prod.fst else R l) → (l = i ∧ a = q.1) ∨ (l ≠ i ∧ l = j ∧ a ∈ b.map Prod.fst) ∨ (l ≠ i ∧ l ≠ j ∧ a ∈ R l) := fun l a h => by
      by_cases g1 : l = i
      · simp only [if_pos g1] at h; exact .inl ⟨g1, List.mem_singleton.mp h⟩
      · by_cases g2 : l = j
        · simp only [if_neg g1, if_pos g2] at h; exact .inr (.inl ⟨g1, g2, h⟩)
        · simp only [if_neg g1, if_neg g2] at h; exact .inr (.inr ⟨g1, g2, h⟩)
    rcases key l a ha with ⟨x1, x2⟩ | ⟨x1, x2, x3⟩ | ⟨x1, x2, x3⟩ <;> rcases key m a hb with ⟨y1, y2⟩ | ⟨y1, y2, y3⟩ | ⟨y1, y2, y3⟩
    · exact hlm (x1.trans y1.symm)
    · exact hn.1 (x2 ▸ y3)
    · exact e4 j m (fun z => y2 z.symm) q.1 hq (x2 ▸ y3)
    · exact hn.1 (y2 ▸ x3)
    · exact hlm (x2.trans y2.symm)
    · exact e4 j m (fun z => y2 z.symm) a (sub a x3) y3
    · exact e4 l j x2 a x3 (y2 ▸ hq)
    · exact e4 l j x2 a x3 (sub a y3)
    · exact e4 l m hlm a x3 y3
  · by_cases g1 : l = i
    · simp only [if_pos g1] at ha; rw [List.mem_singleton.mp ha]; exact e5 j _ hq
    · by_cases g2 : l = j
      · simp only [if_neg g1, if_pos g2] at ha; exact e5 j a (sub a ha)
      · simp only [if_neg g1, if_neg g2] at ha; exact e5 l a ha
/-- for x in [e, ..]: new objects, one a turn; the others wait in slot j -/
theorem ss_forN (i j : Nat) {x : Str} {p1 p2 : Pos} {body : List Stmt} {ns : List NewO} {pk : Pk} (F : List Sl) (hp : PassesOwn (model X.prog X.w) X.A X.env X.xe) (hc : X.calm = true) (hNd : X.N.Nodup) (hij : i ≠ j) (hl : ns.length ≤ 1000) (h : ALN X c Γ es ns) (h0 : Le Γ F) (hj : F[j]? = some (.dat pk)) (hi : F[i]? = some .any)
    (hs : ∀ (k : Nat) (n : NewO) (q : Addr) (b : List (Addr × NewO)), ns[k]? = some n → Ss X c W ((F.set j (.own (Bag.mk b))).set i (.own (Raw.mk n.cls q n.fs))) body { nx := fun Γ' => Le Γ' (F.set j (.own (Bag.mk b))), rt := D.rt, ct := fun Γ' => Le Γ' (F.set j (.own (Bag.mk b))), ex := D.ex, rn := D.rn, ro := D.ro })
    (hd : ∀ b, Ss X c W (F.set j (.own (Bag.mk b))) rest D) (hN : X.N[i]? = some x := by rfl) (hx : Loc X.env.scope x := by first | exact .inl rfl | exact .inr rfl) (hfn : X.fn x = true ∨ X.env.scope.names.lookup x = some .local := by first | exact .inl rfl | exact .inr rfl)
    (hf : ∀ y, foldedSetIterable (.List es p2) X.env y = pure y := by intro _; rfl) : Ss X c W Γ (.For (.Name x p1) (.List es p2) body [] pos :: rest) D := fun H0f H0 σ Hf H g DD k => by
  refine ⟨_, pss_cons (ps_for hp hc (pi_list (pe_lst pa_w)) (pg_name hNd hN hx hfn) pss_w hf) pss_w, h _ _ σ Hf H (g.le h0 |> fun _ => g) _ fun ps Hf1 H1 s1 hps hnd hpr => ⟨by rw [List.length_map, hpr.len]; exact Nat.le_of_lt (small1000 hl), fun l hlf => ?_⟩⟩
  have hlen : ps.length = ns.length := hpr.len
  have s2 := Stp.new (o := .lst (ps.map V.ref)) s1.s hlf
  have s12 := s1.trans s2
  have g2 : EnvOk X.K c H0f H0 _ _ σ (F.set j (.own (Bag.mk (ps.zip ns)))) := (g.le h0).bag s12 hj hps hnd (hpr.step s2)
  have zlen : (ps.zip ns).length = ns.length := by rw [List.length_zip]; omega
  refine ⟨l, rfl, ⟨_, SqL.of upd_same⟩, fun t m σ2 H2 => m = ns.length - t ∧ t ≤ ns.length ∧ ∃ Hf2, Same (upd Hf1 l (.lst (ps.map V.ref))) Hf2 ∧ EnvOk X.K c H0f H0 Hf2 H2 σ2 (F.set j (.own (Bag.mk ((ps.zip ns).drop t)))), ⟨ns.length, rfl, Nat.zero_le _, _, Same.refl _, g2⟩, ?_⟩
  rintro t m σ2 H2 ⟨rfl, htl, Hf2, sm, g3⟩
  have hlist : H2 l = some (.lst (ps.map V.ref)) := g3.same _ _ (sm _ _ upd_same)
  by_cases hlt : t < ns.length
  · have htp : t < ps.length := by omega
    have hz : (ps.zip ns)[t]? = some (ps[t], ns[t]) := by rw [List.getElem?_eq_getElem (by omega), List.getElem_zip]
    have hdrop : (ps.zip ns).drop t = (ps[t], ns[t]) :: (ps.zip ns).drop (t + 1) := by
      rw [List.drop_eq_getElem_cons (by omega), List.getElem_zip]
    refine .inr ⟨⟨_, _, SqL.of hlist, by rw [List.getElem?_map, List.getElem?_eq_getElem htp]; rfl⟩, fun σ3 H3 => (t + 1) ≤ ns.length ∧ ∃ Hf3, Same (upd Hf1 l (.lst (ps.map V.ref))) Hf3 ∧ EnvOk X.K c H0f H0 Hf3 H3 σ3 (F.set j (.own (Bag.mk ((ps.zip ns).drop (t + 1))))), fun σ3 H3 h3 => ⟨ns.length - (t + 1), by omega, rfl, h3⟩, fun y H3 hy => ?_⟩
    obtain ⟨rfl, hy2⟩ := hy
    have ey : V.ref ps[t] = y := by
      have z := hy2 _ (SqL.of hlist)
      rw [List.getElem?_map, List.getElem?_eq_getElem htp] at z
      exact Option.some.inj z
    subst ey
    have hFlen : j < F.length := (List.getElem?_eq_some_iff.mp hj).1
    have hjt : (F.set j (.own (Bag.mk ((ps.zip ns).drop t))))[j]? = some (.own (Bag.mk ((ps[t], ns[t]) :: (ps.zip ns).drop (t + 1)))) := by rw [List.getElem?_set_self hFlen, hdrop]
    have g4 := g3.pick (i := i) hij hjt
    rw [List.set_set] at g4
    refine hs t ns[t] ps[t] _ (List.getElem?_eq_getElem hlt) _ _ _ Hf2 H3 g4 _ ⟨fun Γ' σ' Hf' H' q s g' => ?_, fun _ _ _ _ q => q.elim, fun Γ' σ' Hf' H' q s g' => ?_, fun p Γ' v σ' Hf' H' q s g' r => ?_, fun x cls dd σ' Γ' Hf' H' q s g' r => ?_, fun p n Γ' σ' Hf' H' q s g' => ?_, fun b Γ' v R σ' Hf' H' q s g' => ?_⟩
    · exact ⟨hlt, Hf', sm.trans s, g'.le q⟩
    · exact ⟨hlt, Hf', sm.trans s, g'.le q⟩
    · exact k.rt p Γ' v σ' Hf' H' q ((s12.f.trans sm).trans s) g' r
    · exact k.ex x cls dd σ' Γ' Hf' H' q ((s12.f.trans sm).trans s) g' r
    · exact k.rn p n Γ' σ' Hf' H' q ((s12.f.trans sm).trans s) g'
    · exact k.ro b Γ' v R σ' Hf' H' q ((s12.f.trans sm).trans s) g'
  · exact .inl ⟨⟨_, SqL.of hlist, by rw [List.length_map]; omega⟩, hd _ _ _ σ2 Hf2 H2 g3 DD (k.mono (s12.f.trans sm))⟩
end
end Pv
namespace Pv
open Rp (rp)
open Ow (ow)
open Da (toD)
open PySem L2
/-- where an object stands -/
structure Adr where
  p : Addr
instance : Rp Adr := ⟨fun _ _ _ v a => v = .ref a.p, fun _ h => h⟩
/-- values that do not lean on objects of own classes -/
class Away (α : Type) extends Rp α where
  away : ∀ {K c H v a q}, (∀ o, H q = some o → ∃ C dx fs, o = .ins C dx fs) → rp K c H v a → rp K c (del H q) v a
instance : Away Int := ⟨fun _ h => h⟩
instance : Away Bool := ⟨fun _ h => h⟩
theorem del_tup {H : Hp} {q a : Addr} {o : HO} (hq : ∀ o, H q = some o → ∃ C dx fs, o = .ins C dx fs) (h : H a = some o) (hn : ∀ C dx fs, o ≠ .ins C dx fs) : del H q a = some o := by
  have e : a ≠ q := fun z => by
    subst z
    obtain ⟨C, dx, fs, e⟩ := hq o h
    exact hn C dx fs e
  rw [del_ne e]; exact h
instance {α : Type} [Away α] : Away (Dt α) where
  away := fun {K c H v a q} hq ⟨p, od, kvs, h1, h2, h3⟩ => ⟨p, od, kvs, h1, del_tup hq h2 (fun _ _ _ z => nomatch z), paired_imp (fun x y h => ⟨h.1, Away.away hq h.2⟩) h3⟩
/-- fields of that kind -/
inductive AwayF : List (Str × Pk) → Prop
  | nil : AwayF []
  | cons {n : Str} {α : Type} [Away α] {a : α} {fs : List (Str × Pk)} (t : AwayF fs) : AwayF ((n, ⟨a⟩) :: fs)
theorem AwayF.fr {K : PySem.W.Frag} {c : CL} {H : Hp} {q : Addr} {fs : List (Str × Pk)} (w : AwayF fs) (hq : ∀ o, H q = some o → ∃ C dx fs, o = .ins C dx fs) : ∀ {vs : List (Str × V)}, FR K c H vs fs → FR K c (del H q) vs fs := by
  induction w with
  | nil => intro vs h; cases h; exact .nil
  | cons t ih =>
    intro vs h
    cases h with
    | cons h t' => exact .cons (Away.away hq h) (ih t')
section
variable {X : Cx} {c : CL} {Γ : List Sl} {W : WX} {D : En} {rest : List Stmt} {pos apos p0 : Pos} {γ : Type} [Ob γ] {ob ob2 : γ} {o e : Expr} {es : List Expr}
/-- y = x, x an owned object: y is where it stands -/
theorem ss_alias (i j : Nat) {x y : Str} {p1 p2 : Pos} {r : Raw} (hNd : X.N.Nodup) (hΓ : Γ[i]? = some (.own r)) (hr : Ss X c W (Γ.set j (d (Adr.mk r.p))) rest D) (hN : X.N[i]? = some x := by rfl) (hN2 : X.N[j]? = some y := by rfl)
    (hv : Vis X.env.scope x := by first | exact Or.inl rfl | exact Or.inr (Or.inl rfl) | exact Or.inr (Or.inr rfl)) (hd : (x == ("__debug__" : Str)) = false := by decide) (hcd : (x == ("__classdict__" : Str)) = false := by decide) (hx : Loc X.env.scope y := by first | exact .inl rfl | exact .inr rfl)
    (hs : swapsWith (.Name x p1) (some (.Name y p2)) pos.line X.env = pure false := by rfl) (hf : X.fn y = true ∨ X.env.scope.names.lookup y = some .local := by first | exact .inl rfl | exact .inr rfl) : Ss X c W Γ (.Assign [.Name y p2] (.Name x p1) pos :: rest) D := fun _ _ σ Hf H g DD k => by
  obtain ⟨R, v2, e1, ⟨rfl, rfl, _⟩, _, _⟩ := g.own hΓ
  exact ⟨_, pss_cons (ps_set hNd hN2 hx (pe_var hN hv hd hcd) hs hf) pss_w, _, e1, hr _ _ _ Hf H (g.set j (show rp X.K c Hf (.ref r.p) (Adr.mk r.p) from rfl)) DD k⟩
theorem EnvOk.alias {K : PySem.W.Frag} {H0f H0 Hf H : Hp} {σ : L2.St} {j : Nat} {q : Addr} (g : EnvOk K c H0f H0 Hf H σ Γ) (hj : Γ[j]? = some (d (Adr.mk q))) (h : rp K c Hf (.ref q) ob) : EnvOk K c H0f H0 Hf H σ (Γ.set j (d ob)) := by
  obtain ⟨e1, e2, R, e3, e4, e5⟩ := g
  have hlt : j < Γ.length := (List.getElem?_eq_some_iff.mp hj).1
  have hs : σ[j]? = some σ[j] := List.getElem?_eq_getElem (by omega)
  obtain ⟨v, v1, v2⟩ := e3 j _ _ hs hj
  have v2 : v = .ref q := v2
  refine ⟨e1, by rw [List.length_set]; exact e2, R, fun l o' s' a b => ?_, e4, e5⟩
  rcases set_get b with ⟨f1, f2⟩ | ⟨f1, f2⟩
  · subst f1 f2
    rw [hs] at a
    obtain rfl := Option.some.inj a
    exact ⟨v, v1, by rw [v2]; exact h⟩
  · exact e3 l o' s' a f2
/-- an owned object lent, with another name of it -/
theorem EnvOk.lendA {K : PySem.W.Frag} {H0f H0 Hf H : Hp} {σ : L2.St} {i j : Nat} {q : Addr} (g : EnvOk K c H0f H0 Hf H σ Γ) (hΓ : Γ[i]? = some (.own (Raw.mk (Ob.cls γ) q (Ob.fl ob)))) (hij : i ≠ j) (hj : Γ[j]? = some (d (Adr.mk q))) :
    ∃ Hf1, EnvOk K c H0f H0 Hf1 H σ ((Γ.set i (d ob)).set j (d ob)) ∧ ∀ Hf2 H2, Stp Hf1 H Hf2 H2 → Stp Hf H (del Hf2 q) H2 := by
  obtain ⟨Hf1, g', st⟩ := g.lend hΓ
  refine ⟨Hf1, g'.alias (by rw [List.getElem?_set_ne hij]; exact hj) ?_, st⟩
  obtain ⟨R, v2, w1, ⟨rfl, _⟩, _, _⟩ := g.own hΓ
  obtain ⟨e1, e2, R, e3, _⟩ := g'
  have hlt : i < Γ.length := (List.getElem?_eq_some_iff.mp hΓ).1
  obtain ⟨v, e4, e5⟩ := e3 i _ (d ob) w1 (by rw [List.getElem?_set_self hlt])
  rw [← Option.some.inj e4] at e5
  exact e5
theorem t_lendA (i j : Nat) {q : Addr} {z : Bool} (hΓ : Γ[i]? = some (.own (Raw.mk (Ob.cls γ) q (Ob.fl ob)))) (hij : i ≠ j) (hj : Γ[j]? = some (d (Adr.mk q))) (h : T X c ((Γ.set i (d ob)).set j (d ob)) e z) : T X c Γ e z := fun _ _ σ Hf H g Q k => by
  obtain ⟨Hf1, g', st⟩ := g.lendA hΓ hij hj
  exact h _ _ σ Hf1 H g' Q fun Hf2 H2 s2 => k _ H2 (st Hf2 H2 s2)
theorem paired_set {α β : Type} {F : α → β → Prop} {a : α} {b : β} : ∀ {l₁ : List α} {l₂ : List β} (_ : Paired F l₁ l₂) (k : Nat), F a b → Paired F (l₁.set k a) (l₂.set k b)
  | _, _, .nil, _, _ => .nil
  | _, _, .cons r t, 0, h => .cons h t
  | _, _, .cons r t, k + 1, h => .cons r (paired_set t k h)
/-- xs[i] = e, xs an owned list -/
theorem ss_setIx (i : Nat) {x : Str} {ix : Expr} {p1 p2 : Pos} {α : Type} [Rp α] {xs : List α} {k : Nat} {v : α} (hΓ : Γ[i]? = some (Pv.o xs)) (he : E X c Γ e v) (hi : E X c Γ ix (k : Int)) (hk : k < xs.length) (hr : Ss X c W (Γ.set i (Pv.o (xs.set k v))) rest D) (hN : X.N[i]? = some x := by rfl)
    (hv : Vis X.env.scope x := by first | exact Or.inl rfl | exact Or.inr (Or.inl rfl) | exact Or.inr (Or.inr rfl)) (hd : (x == ("__debug__" : Str)) = false := by decide) (hcd : (x == ("__classdict__" : Str)) = false := by decide)
    (hs : swapsWithSole [.Subscript (.Name x p1) ix p2] e pos.line X.env = pure false := by rfl) (hw : swappedStores [.Subscript (.Name x p1) ix p2] e X.env = pure none := by rfl) (h1 : (assignEach [.Subscript (.Name x p1) ix p2] X.env).map (·.2) = [assign (.Subscript (.Name x p1) ix p2) X.env] := by rfl)
    (ha : ∀ v, assign (.Subscript (.Name x p1) ix p2) X.env v = (do
      let ov ← holding [v] (eval (.Name x p1) X.env)
      let iv ← holding [v, ov] (eval ix X.env)
      standAt p2
      holding [v, ov, iv] (setItem ov iv v)
      release [v, ov, iv] []) := by intro _; rfl) : Ss X c W Γ (.Assign [.Subscript (.Name x p1) ix p2] e pos :: rest) D := fun _ _ σ Hf H g DD kk => by
  refine ⟨_, pss_cons (ps_asg pe_w (pg_sub (pe_var hN hv hd hcd) pe_w set_list ha) hs hw h1) pss_w, he _ _ σ Hf H g _ fun u Hf1 H1 s1 r1 => ?_⟩
  obtain ⟨_, _, e1, ⟨p, vs, rfl, _, _, _⟩, _⟩ := (g.step s1).own hΓ
  refine ⟨.ref p, e1, hi _ _ σ Hf1 H1 (g.step s1) _ fun w Hf2 H2 s2 r2 => ?_⟩
  have g2 := (g.step s1).step s2
  obtain ⟨R, v2, e1', ⟨p', vs', rfl, rfl, e3', e4'⟩, hR, up⟩ := g2.own hΓ
  rw [e1] at e1'
  cases e1'
  have r2' : w = .int (k : Int) := r2
  refine ⟨p, vs', (k : Int), k, rfl, r2', e3', ?_, ?_⟩
  · have hl := e4'.len
    unfold ixN
    rw [if_pos (Int.natCast_nonneg k), if_pos (by rw [hl]; exact Int.ofNat_lt.mpr hk)]
    rfl
  · refine hr _ _ σ Hf2 _ (up (OwL α) _ ⟨xs.set k v⟩ [p] _ (fun a o' ha hn => ?_) (fun a ha => .inl ha) ⟨p, vs'.set k u, rfl, rfl, upd_same, ?_⟩) DD (kk.mono (s1.f.trans s2.f))
    · rw [upd_ne fun z => hn (by rw [z]; exact List.mem_cons_self)]; exact ha
    · exact paired_set e4' k (Rp.mono s2.f r1)
theorem EnvOk.lendG {K : PySem.W.Frag} {H0f H0 Hf H : Hp} {σ : L2.St} {i : Nat} {q : Addr} (g : EnvOk K c H0f H0 Hf H σ Γ) (hΓ : Γ[i]? = some (.own (Raw.mk (Ob.cls γ) q (Ob.fl ob)))) :
    ∃ Hf1, EnvOk K c H0f H0 Hf1 H σ (Γ.set i (d ob)) ∧ σ[i]? = some (some (.ref q)) ∧ rp K c Hf1 (.ref q) ob ∧ ∀ G Hf2 H2, Stp Hf1 G Hf2 H2 → Stp Hf G (del Hf2 q) H2 := by
  obtain ⟨Hf1, R, v, e1, ⟨w1, w2, dx, fvs, w3, _⟩, hout, hin, s, g'⟩ := g.freeze' hΓ (α := γ) (x := ob) (by
    rintro R v ⟨h1, h2, dx, fvs, h3, h4⟩ sf
    refine Ob.iff.mpr ⟨_, dx, fvs, h1, ?_, h4.mono sf⟩
    simp only [h2, List.mem_singleton, if_pos]
    exact h3)
  have w2 : R = [q] := w2
  subst w2
  have w1 : v = .ref q := w1
  subst w1
  have hq : Hf q = none := hin q List.mem_cons_self
  have hr : rp K c Hf1 (.ref q) ob := by
    obtain ⟨_, z2, R', z3, _⟩ := g'
    have hlt : i < Γ.length := (List.getElem?_eq_some_iff.mp hΓ).1
    obtain ⟨v, e4, e5⟩ := z3 i _ (d ob) e1 (by rw [List.getElem?_set_self hlt])
    rw [← Option.some.inj e4] at e5
    exact e5
  refine ⟨Hf1, g', e1, hr, fun G Hf2 H2 st => ⟨fun a o' ha => ?_, st.h, fun a o' ha => ?_, fun a o' z1 z2 n => ?_⟩⟩
  · rw [del_ne (ne_of_none ha hq)]; exact st.f a o' (s a o' ha)
  · by_cases z : a = q
    · subst z; unfold del at ha; rw [if_pos rfl] at ha; cases ha
    · rw [del_ne z] at ha; exact st.s a o' ha
  · by_cases z : a = q
    · subst z; exact if_pos rfl
    · rw [del_ne z]; exact st.d a o' (by rw [hout a (fun y => z (List.mem_singleton.mp y))]; exact z1) z2 n
/-- x op= y, both objects that the def owns -/
theorem ss_augOL (i j : Nat) {op : Operator} {x y : Str} {p1 p2 : Pos} {k : Nat} {m : Str} {R : List Pk → γ → γ → Prop} {ob' : γ} {p q : Addr} (M : MtM X.prog X.w X.K X.mg X.base c γ m k R) (hm : m = PySem.dunderI op.info.2) (hr : Room k X.A) (hc : PySem.W.selfFirst X.K (c (Ob.cls γ)) = true) (hNd : X.N.Nodup) (hij : i ≠ j)
    (hΓ : Γ[i]? = some (.own (Raw.mk (Ob.cls γ) p (Ob.fl ob)))) (hΓ2 : Γ[j]? = some (.own (Raw.mk (Ob.cls γ) q (Ob.fl ob2)))) (hR : R [⟨ob2⟩] ob ob') (aw : AwayF (Ob.fl ob')) (hrest : Ss X c W (Γ.set i (.own (Raw.mk (Ob.cls γ) p (Ob.fl ob')))) rest D) (hN : X.N[i]? = some x := by rfl) (hN2 : X.N[j]? = some y := by rfl)
    (hv : Vis X.env.scope y := by first | exact Or.inl rfl | exact Or.inr (Or.inl rfl) | exact Or.inr (Or.inr rfl)) (hd : (y == ("__debug__" : Str)) = false := by decide) (hcd : (y == ("__classdict__" : Str)) = false := by decide)
    (hx : Loc X.env.scope x := by first | exact .inl rfl | exact .inr rfl) (hf : X.fn x = true ∨ X.env.scope.names.lookup x = some .local := by first | exact .inl rfl | exact .inr rfl) : Ss X c W Γ (.AugAssign (.Name x p1) op (.Name y p2) pos :: rest) D := fun _ _ σ Hf H g DD kk => by
  obtain ⟨f, fd, ps, F, mt, hbi⟩ := M
  subst hm
  obtain ⟨_, v0, w1, ⟨w2, _⟩, _, _⟩ := g.own hΓ
  subst w2
  obtain ⟨Hf1, g', ej, rj, stG⟩ := g.lendG hΓ2
  obtain ⟨R1, v1, w1', ⟨w2', w3', dx, fvs, w4, w5⟩, w6, _⟩ := g'.own (show (Γ.set j (Pv.d ob2))[i]? = _ from by rw [List.getElem?_set_ne (fun z => hij z.symm)]; exact hΓ)
  subst w3'
  refine ⟨_, pss_cons (ps_aug hNd hN hx (pe_var hN2 hv hd hcd) (iop_own (op := op) F hbi pass0 hr hc mt.at_ mt.fn) hf) pss_w, _, w1, _, ej, ?_⟩
  refine ⟨p, dx, fvs, rfl, w4, Hf1, p, [.ref q], [⟨ob2⟩], ob, ob', rfl, g'.same, .cons rj .nil, hR, ⟨(w6 p List.mem_cons_self).2, dx, fvs, w4, w5⟩, fun Hf2 H2 s2 n2 => ?_⟩
  have e1 : σ.set i (some (.ref p)) = σ := by
    apply List.ext_getElem?
    intro l
    by_cases hl : l = i
    · subst hl
      rw [w1, List.getElem?_set_self (List.getElem?_eq_some_iff.mp w1).1]
    · rw [List.getElem?_set_ne (fun z => hl z.symm)]
  show wSs X rest DD (σ.set i (some (.ref p))) H2
  rw [e1]
  have hq2 : ∀ o', Hf2 q = some o' → ∃ C dx fs, o' = .ins C dx fs := fun o' ho => by
    obtain ⟨q', dx2, fv2, z1, z2, _⟩ := Ob.iff.mp rj
    cases z1
    rw [s2.f _ _ z2] at ho
    cases ho
    exact ⟨_, _, _, rfl⟩
  have n3 : NewAt X.K c (del Hf2 q) H2 p ⟨Ob.cls γ, Ob.fl ob'⟩ := by
    obtain ⟨h1, dx3, fv3, h2, h3⟩ := n2
    refine ⟨?_, dx3, fv3, h2, aw.fr hq2 h3⟩
    unfold del
    by_cases z : p = q
    · rw [if_pos z]
    · rw [if_neg z]; exact h1
  have st3 := stG _ Hf2 H2 s2
  exact hrest _ _ σ (del Hf2 q) H2 (g.chg hΓ (r' := Raw.mk (Ob.cls γ) p (Ob.fl ob')) rfl st3 n3) DD (kk.mono st3.f)
theorem en_lend (i : Nat) {γ2 : Type} [Ob γ2] {z : γ2} {q : Addr} (hΓ : Γ[i]? = some (.own (Raw.mk (Ob.cls γ) q (Ob.fl ob)))) (aw : AwayF (Ob.fl z)) (h : EN X c (Γ.set i (d ob)) e z) : EN X c Γ e z := fun _ _ σ Hf H g Q k => by
  obtain ⟨Hf1, g', ej, rj, stG⟩ := g.lendG hΓ
  refine h _ _ σ Hf1 H g' Q fun p Hf2 H2 s2 hp n2 => k p (del Hf2 q) H2 (stG _ _ _ s2) hp ?_
  have hq2 : ∀ o', Hf2 q = some o' → ∃ C dx fs, o' = .ins C dx fs := fun o' ho => by
    obtain ⟨q', dx2, fv2, z1, z2, _⟩ := Ob.iff.mp rj
    cases z1
    rw [s2.f _ _ z2] at ho
    cases ho
    exact ⟨_, _, _, rfl⟩
  obtain ⟨h1, dx3, fv3, h2, h3⟩ := n2
  refine ⟨?_, dx3, fv3, h2, aw.fr hq2 h3⟩
  unfold del
  by_cases z : p = q
  · rw [if_pos z]
  · rw [if_neg z]; exact h1
end
end Pv
/-! New things of any kind that a def owns -/
namespace Pv
open Rp (rp)
open Ow (ow)
open Da (toD)
open PySem L2
/-- e gives something new that its def owns -/
def EO (X : Cx) (c : CL) (Γ : List Sl) (e : Expr) {β : Type 1} [Ow β] (b : β) : Prop :=
  ∀ (H0f H0 : Hp) (σ : L2.St) (Hf H : Hp), EnvOk X.K c H0f H0 Hf H σ Γ → ∀ Q : VK, (∀ v R Hf' H', Stp Hf H Hf' H' → (∀ a ∈ R, H a = none ∧ Hf' a = none) → ow X.K c Hf' H' R v b → Q v H') → wE X e σ H Q
section
variable {X : Cx} {c : CL} {Γ : List Sl} {W : WX} {D : En} {rest : List Stmt} {pos apos p0 : Pos} {γ : Type} [Ob γ] {ob : γ} {o e : Expr} {es : List Expr} {β : Type 1} [Ow β] {b : β}
theorem EO.is {b' : β} (h : EO X c Γ e b) (q : b = b') : EO X c Γ e b' := q ▸ h
theorem EnvOk.adopt2 {K : PySem.W.Frag} {H0f H0 Hf H Hf' H' : Hp} {σ : L2.St} (g : EnvOk K c H0f H0 Hf H σ Γ) (i : Nat) {v : V} {R' : List Addr} (s : Stp Hf H Hf' H') (hR : ∀ a ∈ R', H a = none ∧ Hf' a = none) (h : ow K c Hf' H' R' v b) : EnvOk K c H0f H0 Hf' H' (σ.set i (some v)) (Γ.set i (.own b)) := by
  obtain ⟨h1, h2, R, h3, h4, h5⟩ := g
  have hn : ∀ j, ∀ a ∈ R j, a ∉ R' := fun j a ha z => by
    obtain ⟨_, _, o, e, _⟩ := h5 j a ha
    rw [(hR a z).1] at e; cases e
  refine ⟨h1.trans s, by rw [List.length_set, List.length_set, h2], fun j => if j = i then R' else R j, fun j o' s' a b' => ?_, fun j k hjk a ha hb => ?_, fun j a ha => ?_⟩
  · rcases set_get a with ⟨e1, e2⟩ | ⟨e1, e2⟩
    · rcases set_get b' with ⟨f1, f2⟩ | ⟨f1, f2⟩
      · subst e2 f2
        simp only [if_pos e1]
        exact ⟨v, rfl, h⟩
      · exact absurd e1 f1
    · rcases set_get b' with ⟨f1, f2⟩ | ⟨f1, f2⟩
      · exact absurd f1 e1
      · simp only [if_neg e1]
        have q := h3 j o' s' e2 f2
        cases s' with
        | any => trivial
        | dat p =>
          obtain ⟨w, q1, q2⟩ := q
          exact ⟨w, q1, p.i.mono s.f q2⟩
        | @own _ io b =>
          obtain ⟨w, e1, e2⟩ := q
          refine ⟨w, e1, io.stay s.f (fun a ha => ?_) e2⟩
          obtain ⟨_, _, o, g, _⟩ := h5 j a ha
          rw [g, s.h _ _ g]
  · by_cases q1 : j = i
    · by_cases q2 : k = i
      · exact hjk (q1.trans q2.symm)
      · simp only [if_pos q1, if_neg q2] at ha hb
        exact hn k a hb ha
    · by_cases q2 : k = i
      · simp only [if_neg q1, if_pos q2] at ha hb
        exact hn j a ha hb
      · simp only [if_neg q1, if_neg q2] at ha hb
        exact h4 j k hjk a ha hb
  · by_cases q1 : j = i
    · simp only [if_pos q1] at ha
      exact ⟨h1.h.free (hR a ha).1, (hR a ha).2, Ow.here h a ha⟩
    · simp only [if_neg q1] at ha
      obtain ⟨g1, g2, o', g3, g4⟩ := h5 j a ha
      exact ⟨g1, s.d a o' g2 g3 g4, o', s.h a o' g3, g4⟩
/-- x = e, e something new -/
theorem ss_setO (i : Nat) {x : Str} {pos' : Pos} (hN : X.N.Nodup) (h : EO X c Γ e b) (hr : Ss X c W (Γ.set i (.own b)) rest D) (hi : X.N[i]? = some x := by rfl) (hx : Loc X.env.scope x := by first | exact .inl rfl | exact .inr rfl)
    (hs : swapsWith e (some (.Name x pos')) pos.line X.env = pure false := by rfl) (hf : X.fn x = true ∨ X.env.scope.names.lookup x = some .local := by first | exact .inl rfl | exact .inr rfl) : Ss X c W Γ (.Assign [.Name x pos'] e pos :: rest) D := fun _ _ σ Hf H g DD k =>
  ⟨_, pss_cons (ps_set hN hi hx pe_w hs hf) pss_w, h _ _ σ Hf H g _ fun v R Hf1 H1 s1 hR ho => hr _ _ _ Hf1 H1 (g.adopt2 i s1 hR ho) DD (k.mono s1.f)⟩
/-- return e, e something new -/
theorem ss_retE (h : EO X c Γ e b) (hr : D.ro ⟨b⟩ Γ) : Ss X c W Γ (.Return (some e) pos :: rest) D := fun _ _ σ Hf H g DD k =>
  ⟨_, pss_cons (ps_ret pe_w) pss_never, h _ _ σ Hf H g _ fun v R Hf1 H1 s1 hR ho => k.ro ⟨b⟩ Γ v R σ Hf1 H1 hr s1.f (g.step s1) (fun a ha => ⟨g.stp.h.free (hR a ha).1, (hR a ha).2⟩) ho⟩
/-- return x, x something that the def owns -/
theorem ss_retOwn (i : Nat) {x : Str} {p1 : Pos} (hΓ : Γ[i]? = some (.own b)) (hr : D.ro ⟨b⟩ Γ) (hN : X.N[i]? = some x := by rfl)
    (hv : Vis X.env.scope x := by first | exact Or.inl rfl | exact Or.inr (Or.inl rfl) | exact Or.inr (Or.inr rfl)) (hd : (x == ("__debug__" : Str)) = false := by decide) (hcd : (x == ("__classdict__" : Str)) = false := by decide) : Ss X c W Γ (.Return (some (.Name x p1)) pos :: rest) D := fun _ _ σ Hf H g DD k => by
  obtain ⟨R, v2, e1, h1, hR, up⟩ := g.own hΓ
  exact ⟨_, pss_cons (ps_ret (pe_var hN hv hd hcd)) pss_never, _, e1, k.ro ⟨b⟩ _ v2 R σ Hf H hr (Same.refl _) g hR h1⟩
/-! what gives something new -/
def fspO (K : PySem.W.Frag) (c : CL) {β : Type 1} [Ow β] (R : List Pk → β → Prop) : Sp := fun vs H Q _ => ∃ (Hf : Hp) (ps : List Pk) (b : β), Same Hf H ∧ PkL K c Hf vs ps ∧ R ps b ∧ ∀ v Rg Hf' H', Stp Hf H Hf' H' → (∀ a ∈ Rg, H a = none ∧ Hf' a = none) → ow K c Hf' H' Rg v b → Q v H'
theorem def_okO {P : Program} {w : World} {K : PySem.W.Frag} {mg : Str → Option Value} {base : Heap} {x qual : Str} {st : Stmt} {f : Addr} {fd : FuncData} {N ps : List Str} {k : Nat} {R : List Pk → β → Prop} (F : Fun K x qual st f fd) (S : FnScope N ps (defScope st)) (hl : ∀ as r, R as r → as.length = ps.length) (hN : ps.length ≤ N.length)
    (hb : ∀ (cdv : Value) (A : Around) (outer : List Env) (s : Shared) (H : Hp) (E : XK) (as : List Pk) (ob : β), Room k (A.deeper (PyProof.Rows.envOfC qual (defScope st) s.heap.objs.size f cdv)) → R as ob →
      Ss (cxOf CX0 P w K mg base N qual (defScope st) f cdv A outer s H E).nox c E1 (slots as N.length) (defBody st) { nx := fun _ => False, rt := fun _ _ => False, ro := fun n _ => n = ⟨ob⟩ }) : FnOk P w K mg base CX0 (k + 1) f fd ps (fspO K c R) := by
  refine F.ok S (fun vs H Q E ⟨Hf, as, r, h1, h2, h3, h4⟩ => by rw [h2.len, hl _ _ h3]) fun cdv A outer s H vs Q E hr ⟨Hf, as, ob, h1, h2, h3, h4⟩ => ?_
  refine hb cdv A outer s H E as ob hr h3 Hf H (L2.start N vs) Hf H (env_start h1 h2 (by rw [hl _ _ h3]; exact hN)) _ ⟨fun _ _ _ _ q => q.elim, fun _ _ _ _ q => q.elim, fun _ _ _ _ q => q.elim, fun _ _ _ _ _ _ q => q.elim, fun _ _ _ _ _ _ _ q => q.elim, fun _ _ _ _ _ _ q => q.elim, fun b Γ' v R σ' Hf' H' q s g z1 z2 => ?_⟩
  have q : b = ⟨ob⟩ := q
  subst q
  exact h4 v R _ _ g.stp z1 z2
structure DfO (P : Program) (w : World) (K : PySem.W.Frag) (mg : Str → Option Value) (base : Heap) (c : CL) (x : Str) (k : Nat) {β : Type 1} [Ow β] (R : List Pk → β → Prop) : Prop where
  ex : ∃ (f : Addr) (fd : FuncData) (ps : List Str), FnOk P w K mg base CX0 k f fd ps (fspO K c R) ∧ mg x = some (.ref f) ∧ PySem.W.keepIn K (.ref f) = true ∧ Binds K fd ps []
structure MtO (P : Program) (w : World) (K : PySem.W.Frag) (mg : Str → Option Value) (base : Heap) (c : CL) (cls : String) (m : Str) (k : Nat) {β : Type 1} [Ow β] (R : List Pk → β → Prop) : Prop where
  ex : ∃ (f : Addr) (fd : FuncData) (ps : List Str), FnOk P w K mg base CX0 k f fd ps (fspO K c R) ∧ Meth K (c cls) m f ∧ PySem.W.fnIn K f = true ∧ Binds K fd ps []
theorem eo_call {x : Str} {k : Nat} {R : List Pk → β → Prop} {as : List Pk} (h : DfO X.prog X.w X.K X.mg X.base c x k R) (hr : Room k X.A) (ha : As X c Γ (e :: es) as) (hR : R as b) (hg : Gl X x := by rfl) (hdb : (x == ("__debug__" : Str)) = false := by decide)
    (he : starEach (e :: es) X.env = (false, eval e X.env) :: starEach es X.env := by rfl) (hpl : (backTo pos (starEach es X.env)).any (·.1) = false := by rfl) : EO X c Γ (.Call (.Name x p0) (e :: es) [] pos) b := fun _ _ σ Hf H g Q q => by
  obtain ⟨f, fd, ps, hF, hm, hk, hb⟩ := h
  refine ⟨_, pe_call hF hr hg hm hk hb .nil pass0 pa_w hdb he hpl, ha _ _ σ Hf H g _ fun vs Hf1 H1 s1 r1 => ?_⟩
  rw [List.append_nil]
  exact ⟨Hf1, as, b, s1.s, r1, hR, fun v Rg Hf2 H2 s2 z r2 => q v Rg Hf2 H2 (s1.trans s2) (fun a ha => ⟨s1.h.free (z a ha).1, (z a ha).2⟩) r2⟩
theorem eo_meth {m : Str} {k : Nat} {R : List Pk → β → Prop} {as : List Pk} {pl : Sem Bool} (T : Kl X.K c γ) (M : MtO X.prog X.w X.K X.mg X.base c (Ob.cls γ) m k R) (hr : Room k X.A) (h : E X c Γ o ob) (ha : As X c Γ (e :: es) as) (hR : R (⟨ob⟩ :: as) b) (hn : (Ob.fl ob).lookup m = none)
    (hst : starEach (e :: es) X.env = (false, eval e X.env) :: starEach es X.env := by rfl) (hpl : (backTo pos (starEach es X.env)).any (·.1) = false := by rfl)
    (ht : eval (.Call (.Attribute o m apos) (e :: es) [] pos) X.env = (do
      let ov ← eval o X.env
      standAt apos.atName
      let (f, first) ← holding [ov] (getMethod ov m pl)
      callWith pos f first (backTo pos (starEach (e :: es) X.env)) (backToKw pos (keywordEach [] X.env))) := by rfl) : EO X c Γ (.Call (.Attribute o m apos) (e :: es) [] pos) b := fun _ _ σ Hf H g Q q => by
  obtain ⟨f, fd, ps, F, mt, _, hb⟩ := M
  refine ⟨_, pe_meth pe_w T.cl mt F hr hb .nil pass0 pa_w hst hpl ht, h _ _ σ Hf H g _ fun v Hf1 H1 s1 r1 => ?_⟩
  obtain ⟨p, dx, fvs, rfl, h1, h2⟩ := Ob.iff.mp r1
  refine ⟨p, dx, fvs, rfl, s1.s _ _ h1, h2.no hn, ha _ _ σ Hf1 H1 (g.step s1) _ fun vs Hf2 H2 s2 r2 => ?_⟩
  rw [List.append_nil]
  have s12 := s1.trans s2
  exact ⟨Hf2, ⟨ob⟩ :: as, b, s2.s, .cons (Rp.mono s2.f r1) r2, hR, fun w Rg Hf3 H3 s3 z r3 => q w Rg Hf3 H3 (s12.trans s3) (fun a ha => ⟨s12.h.free (z a ha).1, (z a ha).2⟩) r3⟩
theorem eo_meth0 {m : Str} {k : Nat} {R : List Pk → β → Prop} {pl : Sem Bool} (T : Kl X.K c γ) (M : MtO X.prog X.w X.K X.mg X.base c (Ob.cls γ) m k R) (hr : Room k X.A) (h : E X c Γ o ob) (hR : R [⟨ob⟩] b) (hn : (Ob.fl ob).lookup m = none)
    (ht : eval (.Call (.Attribute o m apos) [] [] pos) X.env = (do
      let ov ← eval o X.env
      standAt apos.atName
      let (f, first) ← holding [ov] (getMethod ov m pl)
      callWith pos f first (backTo pos (starEach [] X.env)) (backToKw pos (keywordEach [] X.env))) := by rfl) : EO X c Γ (.Call (.Attribute o m apos) [] [] pos) b := fun _ _ σ Hf H g Q q => by
  obtain ⟨f, fd, ps, F, mt, _, hb⟩ := M
  refine ⟨_, pe_meth0 pe_w T.cl mt F hr hb .nil pass0 ht, h _ _ σ Hf H g _ fun v Hf1 H1 s1 r1 => ?_⟩
  obtain ⟨p, dx, fvs, rfl, h1, h2⟩ := Ob.iff.mp r1
  exact ⟨p, dx, fvs, rfl, s1.s _ _ h1, h2.no hn, Hf1, [⟨ob⟩], b, s1.s, .cons r1 .nil, hR, fun w Rg Hf3 H3 s3 z r3 => q w Rg Hf3 H3 (s1.trans s3) (fun a ha => ⟨s1.h.free (z a ha).1, (z a ha).2⟩) r3⟩
/-! lists -/
theorem EO.l {α : Type} [Rp α] {xs : List α} (h : EO X c Γ e (OwL.mk xs)) : E X c Γ e xs := fun _ _ σ Hf H g Q k =>
  h _ _ σ Hf H g Q fun v R Hf' H' s hR ⟨p, vs, e1, e2, e3, e4⟩ => by
    subst e1 e2
    obtain ⟨n1, n2⟩ := hR p List.mem_cons_self
    refine k _ (upd Hf' p (.lst vs)) H' ⟨s.f.trans (same_new n2), s.h, fun a o e => ?_, fun a o e1 e2 n => ?_⟩ ⟨p, vs, rfl, .inl (.inl upd_same), rpl_upd n2 e4⟩
    · by_cases q : a = p
      · subst q; rw [upd_same] at e; rw [e3]; exact e
      · rw [upd_ne q] at e; exact s.s a o e
    · rw [upd_ne (ne_of_none e2 n1)]; exact s.d a o e1 e2 n
theorem eo_lst {α : Type} [Rp α] {as : List α} (h : AL X c Γ es as) (hl : as.length ≤ 1000 := by exact Nat.le_of_ble_eq_true rfl) : EO X c Γ (.List es pos) (OwL.mk as) := fun _ _ σ Hf H g Q k =>
  ⟨_, pe_lst pa_w, h _ _ σ Hf H g _ fun vs Hf1 H1 s1 r1 => ⟨by rw [r1.len]; exact Nat.le_of_lt (small1000 hl), fun p hp => k _ [p] Hf1 _ (s1.trans ⟨Same.refl _, same_new hp, s1.s.trans (same_new hp), fun _ _ z _ _ => z⟩) (fun a ha => by rw [List.mem_singleton.mp ha]; exact ⟨s1.h.free hp, s1.s.free hp⟩) ⟨p, vs, rfl, rfl, upd_same, r1⟩⟩⟩
theorem eo_listc {α : Type} [Rp α] {as : List α} {a : Expr} (ha : E X c Γ a as) (hm : X.mg "list" = none) (hg : Gl X "list" := by rfl) (he : starEach [a] X.env = (false, eval a X.env) :: starEach [] X.env := by rfl) : EO X c Γ (.Call (.Name "list" p0) [a] [] pos) (OwL.mk as) := fun _ _ σ Hf H g Q k =>
  ⟨_, pe_callTy call_list_of hg hm (by decide +kernel) pa_w (by decide) (by decide) he, (a_cons ha a_nil he) _ _ σ Hf H g _ fun vs Hf1 H1 s1 r => by
    obtain ⟨v, rfl, q, ys, rfl, h2, h3⟩ := pkl1 r
    exact ⟨q, ys, rfl, .inl (s1.s.seq h2), fun l hl => k _ [l] Hf1 _ (s1.trans ⟨Same.refl _, same_new hl, s1.s.trans (same_new hl), fun _ _ z _ _ => z⟩) (fun a ha => by rw [List.mem_singleton.mp ha]; exact ⟨s1.h.free hl, s1.s.free hl⟩) ⟨l, ys, rfl, rfl, upd_same, h3⟩⟩⟩
end
section
variable {X : Cx} {c : CL} {Γ : List Sl} {α β : Type} [Rp α] [Rp β] {xs : List α} {tg iter elt : Expr} {ifs : List Expr} {scope : Scope} {vs ts : List Nat} {p : α → Bool} {f : α → β} {gf : α → List Sl → List Sl}
theorem tLcO_ok (hi : I X c Γ tg iter xs) (hts : ∀ j ∈ ts, j ∈ vs) (hl : xs.length < 1000000) (hg : ∀ x, x ∈ xs → Blk X scope fun Y => G Y c tg x ts (gf x))
    (ht : ∀ x, x ∈ xs → Blk X scope fun Y => Ts Y c (gf x (wipeG Γ vs)) ifs (p x)) (he : ∀ x, x ∈ xs → p x = true → Blk X scope fun Y => E Y c (gf x (wipeG Γ vs)) elt (f x))
    {H0f H0 : Hp} {σ : L2.St} {Hf H : Hp} (g : EnvOk X.K c H0f H0 Hf H σ Γ) {Q : VK} (k : ∀ v R Hf' H', Stp Hf H Hf' H' → (∀ a ∈ R, H a = none ∧ Hf' a = none) → ow X.K c Hf' H' R v (OwL.mk ((xs.filter p).map f)) → Q v H') :
    tLc (wI X tg iter) (bG X scope tg) (bTs X scope ifs) (bE X scope elt) vs σ H Q := by
  refine hi _ _ σ Hf H g _ fun J Hf1 H1 s1 wk => fun D hD => ?_
  have hD1 : Hf1 D = none := s1.s.free hD
  refine ⟨fun i m H2 => m = xs.length - i ∧ i ≤ xs.length ∧ ∃ Hf2 us, Stp Hf1 H1 Hf2 H2 ∧ Hf2 D = none ∧ H2 D = some (.lst us) ∧ RpL X.K c Hf2 us (((xs.take i).filter p).map f),
    ⟨xs.length, rfl, Nat.zero_le _, Hf1, [], ⟨Same.refl _, same_new hD, s1.s.trans (same_new hD), fun _ _ z _ _ => z⟩, hD1, upd_same, .nil⟩, ?_⟩
  rintro i m H2 ⟨rfl, hil, Hf2, us, s2, hD2, hu, ru⟩
  by_cases hlt : i < xs.length
  · refine .inr ⟨wk.go i H2 hlt (s2.f.trans s2.s), fun H3 => (i + 1) ≤ xs.length ∧ ∃ Hf3 us, Stp Hf1 H1 Hf3 H3 ∧ Hf3 D = none ∧ H3 D = some (.lst us) ∧ RpL X.K c Hf3 us (((xs.take (i + 1)).filter p).map f), fun H3 h3 => ⟨xs.length - (i + 1), by omega, rfl, h3⟩, fun x H3 y => ?_⟩
    obtain ⟨Hf3, s3, a, ha, ra⟩ := wk.yld i Hf2 H2 x H3 s2.f s2.s hlt y
    have hm : a ∈ xs := List.mem_of_getElem? ha
    have g1 := (g.step s1).step (s2.trans s3)
    intro bs bH bC bcl bfp
    refine hg a hm bs bH bC bcl bfp _ _ _ _ Hf3 H3 (g1.wipe vs) x ra _ fun σ2 g2' w2 => ?_
    have g2 := g2' _ _ _ (g1.wipe vs)
    refine ⟨(wipe_ext hts w2).trans wipe_wipe, fun cs cH cC ccl cfp => ht a hm cs cH cC ccl cfp _ _ σ2 Hf3 H3 g2 _ fun Hf4 H4 s4 => ?_⟩
    have s24 := s2.trans (s3.trans s4)
    have e1 : xs.take (i + 1) = xs.take i ++ [a] := take_succ' ha
    cases hp : p a with
    | false =>
      rw [if_neg Bool.false_ne_true]
      refine ⟨hlt, Hf4, us, s24, s4.d _ _ (s3.d _ _ hD2 hu trivial) (s3.h _ _ hu) trivial, s4.h _ _ (s3.h _ _ hu), ?_⟩
      rw [e1, List.filter_append, List.filter_cons_of_neg (by rw [hp]; exact Bool.false_ne_true), List.filter_nil, List.append_nil]
      exact ru.mono (s3.f.trans s4.f)
    | true =>
      rw [if_pos rfl]
      refine fun es eH eC ecl efp => he a hm hp es eH eC ecl efp _ _ σ2 Hf4 H4 (g2.step s4) _ fun w Hf5 H5 s5 r5 => ?_
      have hD4 : H4 D = some (.lst us) := s4.h _ _ (s3.h _ _ hu)
      have hDf4 : Hf4 D = none := s4.d _ _ (s3.d _ _ hD2 hu trivial) (s3.h _ _ hu) trivial
      have hDf5 : Hf5 D = none := s5.d _ _ hDf4 hD4 trivial
      have s25 := s24.trans s5
      have hus : us.length ≤ i := by
        rw [ru.len, List.length_map]
        exact Nat.le_trans (List.length_filter_le _ _) (by rw [List.length_take]; exact Nat.min_le_left _ _)
      refine ⟨us, s5.h _ _ hD4, Nat.lt_of_le_of_lt hus (Nat.lt_of_lt_of_le (Nat.lt_trans hlt hl) (by decide)), hlt, Hf5, us ++ [w], ⟨s25.f, fun b o e => ?_, fun b o e => ?_, s25.d⟩, hDf5, upd_same, ?_⟩
      · rw [upd_ne (ne_of_none e hD)]; exact s25.h b o e
      · rw [upd_ne (ne_of_none e hDf5)]; exact s25.s b o e
      · rw [e1, List.filter_append, List.filter_cons_of_pos hp, List.filter_nil, List.map_append]
        exact paired_append (ru.mono ((s3.f.trans s4.f).trans s5.f)) (.cons r5 .nil)
  · have e : i = xs.length := by omega
    subst e
    refine .inl ⟨wk.stop H2 (s2.f.trans s2.s), ?_⟩
    rw [List.take_length] at ru
    have s02 := s1.trans s2
    exact k _ [D] Hf2 H2 s02 (fun a ha => by rw [List.mem_singleton.mp ha]; exact ⟨s1.h.free hD, hD2⟩) ⟨D, us, rfl, rfl, hu, ru⟩
theorem eo_lc {own : List (Str × Nat)} {pos : Pos} (hc : X.calm = true) (hN : X.N.Nodup) (ok : blkC X.N X.env.scope scope own = true) (hv : vs = own.map (·.2)) (hi : I X c Γ tg iter xs) (hts : ∀ j ∈ ts, j ∈ vs) (hl : xs.length < 1000000) (hg : ∀ x, x ∈ xs → Blk X scope fun Y => G Y c tg x ts (gf x))
    (ht : ∀ x, x ∈ xs → Blk X scope fun Y => Ts Y c (gf x (wipeG Γ vs)) ifs (p x)) (he : ∀ x, x ∈ xs → p x = true → Blk X scope fun Y => E Y c (gf x (wipeG Γ vs)) elt (f x)) (hs : ∀ x, foldedSetIterable iter X.env x = pure x := by intro _; rfl) :
    EO X c Γ (.ListComp elt [⟨tg, iter, ifs, 0⟩] scope pos) (OwL.mk ((xs.filter p).map f)) := fun _ _ σ Hf H g Q k => by
  subst hv
  exact ⟨_, pe_lc hc hN pi_w (blkOk_by ok) pg_b pts_b pe_b hs, tLcO_ok hi hts hl hg ht he g k⟩
end
/-! lists out of a lent object -/
instance {α : Type} [Away α] : Away (Tup α) where
  away := fun {K c H v a q} hq ⟨p, vs, h1, h2, h3⟩ => ⟨p, vs, h1, del_tup hq h2 (fun _ _ _ z => nomatch z), paired_imp (fun _ _ h => Away.away hq h) h3⟩
section
variable {X : Cx} {c : CL} {Γ : List Sl} {γ : Type} [Ob γ] {ob : γ} {e : Expr}
theorem eo_lend (i : Nat) {α : Type} [Away α] {xs : List α} {q : Addr} (hΓ : Γ[i]? = some (.own (Raw.mk (Ob.cls γ) q (Ob.fl ob)))) (h : EO X c (Γ.set i (d ob)) e (OwL.mk xs)) : EO X c Γ e (OwL.mk xs) := fun _ _ σ Hf H g Q k => by
  obtain ⟨Hf1, g', ej, rj, stG⟩ := g.lendG hΓ
  refine h _ _ σ Hf1 H g' Q fun v R Hf2 H2 s2 hR ⟨p, vs, e1, e2, e3, e4⟩ => k v R (del Hf2 q) H2 (stG _ _ _ s2) (fun a ha => ⟨(hR a ha).1, ?_⟩) ⟨p, vs, e1, e2, e3, ?_⟩
  · unfold del
    by_cases z : a = q
    · rw [if_pos z]
    · rw [if_neg z]; exact (hR a ha).2
  · have hq2 : ∀ o', Hf2 q = some o' → ∃ C dx fs, o' = .ins C dx fs := fun o' ho => by
      obtain ⟨q', dx2, fv2, z1, z2, _⟩ := Ob.iff.mp rj
      cases z1
      rw [s2.f _ _ z2] at ho
      cases ho
      exact ⟨_, _, _, rfl⟩
    exact paired_imp (fun _ _ h => Away.away hq2 h) e4
end
end Pv
/-! Ranges as values, walks over a tuple field, star defs, classmethods, tuple slices, truth -/
namespace Pv
open Rp (rp)
open Ow (ow)
open Da (toD)
open PySem L2 PySem.Spec PyProof.Rows
/-! ### ranges as values -/
structure Rg where
  lo : Int
  hi : Int
instance : Rp Rg := ⟨fun _ _ H v r => ∃ p, v = .ref p ∧ H p = some (.rng r.lo r.hi), fun e ⟨p, h1, h2⟩ => ⟨p, h1, e _ _ h2⟩⟩
section
variable {X : Cx}
theorem cr_range1 : CallR X (.type "range") (fun vs H Q => ∃ j, vs = [V.int j] ∧ ∀ p, H p = none → Q (.ref p) (upd H p (.rng 0 j))) := by
  intro pins s σ H vs us Q I r h
  obtain ⟨j, rfl, q⟩ := h
  obtain ⟨u1, rfl, rj⟩ := vals1 r
  obtain ⟨u, rfl⟩ := rj
  refine call_range_1 ⟨.ref s.heap.objs.size, upd H s.heap.objs.size (.rng 0 j), I.laid (t' := s.toks + 2) (fun b o e => Heap.get?_push_of_some _ e) (Nat.le_refl _) ?_, rfl, q _ (I.hok.fresh (Nat.le_refl _))⟩
  exact ⟨_, _, _, Heap.get?_push_size _ rfl⟩
theorem pi_rngV {tg l : Expr} {tl : TE} (hl : PE X l tl) : PI X tg l (fun σ H R => tl σ H fun x H1 => ∃ p lo hi, x = V.ref p ∧ H1 p = some (.rng lo hi) ∧ (-(2 ^ 62) ≤ lo ∧ lo < 2 ^ 62 ∧ -(2 ^ 62) ≤ hi ∧ hi < 2 ^ 62) ∧ R (Itr lo (hi - lo).toNat) H1) := by
  refine ⟨fun pins s σ H R I h => ?_⟩
  refine thn (hl.run pins s σ H _ I h) fun v s1 ⟨x, H1, I1, r1, q1⟩ => ?_
  obtain ⟨p, lo, hi, e, hp, ⟨h1, h2, h3, h4⟩, q⟩ := q1
  subst e
  cases r1
  obtain ⟨t, u, v, ho⟩ := I1.hok p _ hp
  refine wpAny_pyIter_range (show IsRange s1.heap p lo hi 1 t u v from ho) (small_one h1 h2 h3 h4) ?_
  refine ⟨s1.heap.objs.size, [s1.heap.objs.size], _, _, H1, rfl, I1.kept (t' := s1.toks) fun b o e => Heap.get?_push_of_some _ e, turn_range _ lo (hi - lo).toNat, ?_, fun b hb => ?_, q⟩
  · have e1 : lo + ((0 : Nat) : Int) * 1 = lo := by simp
    have e2 : (((hi - lo).toNat : Nat) : Int) - ((0 : Nat) : Int) = Builtin.Range.rangeSize lo hi 1 := by rw [rangeSize_one]; split <;> omega
    show IsRangeIter _ _ (lo + ((0 : Nat) : Int) * 1) ((((hi - lo).toNat : Nat) : Int) - ((0 : Nat) : Int)) 1
    rw [e1, e2]
    exact Heap.get?_push_size _ rfl
  · have e : b = s1.heap.objs.size := by simpa using hb
    subst e
    exact I1.fpOk (Nat.le_refl _) (I1.hok.fresh (Nat.le_refl _))
end
section
variable {X : Cx} {c : CL} {Γ : List Sl} {a b e : Expr} {pos p0 : Pos}
theorem e_rng1 {j : Int} (ha : E X c Γ a j) (hm : X.mg "range" = none) (hg : Gl X "range" := by rfl) (he : starEach [a] X.env = (false, eval a X.env) :: starEach [] X.env := by rfl) : E X c Γ (.Call (.Name "range" p0) [a] [] pos) (Rg.mk 0 j) :=
  e_callTy cr_range1 (a_cons ha a_nil he) (fun Hf H vs s r Q k => by
    obtain ⟨v, rfl, h⟩ := pkl1 r
    exact ⟨j, by rw [show v = V.int j from h], fun p hp => k _ _ _ (Stp.new s hp) ⟨p, rfl, upd_same⟩⟩) hg hm (by decide +kernel) (by decide) (by decide) he
theorem i_rngV {tg : Expr} {r : Rg} (h : E X c Γ a r) (h1 : -4611686018427387904 ≤ r.lo ∧ r.lo < 4611686018427387904) (h2 : -4611686018427387904 ≤ r.hi ∧ r.hi < 4611686018427387904) : I X c Γ tg a (rng r.lo r.hi) := fun _ _ σ Hf H g R k =>
  ⟨_, pi_rngV pe_w, h _ _ σ Hf H g _ fun v Hf1 H1 s1 r1 => by
    obtain ⟨p, rfl, hp⟩ := r1
    exact ⟨p, r.lo, r.hi, rfl, s1.s _ _ hp, ⟨by omega, by omega, by omega, by omega⟩, k _ Hf1 H1 s1 wk_rng⟩⟩
/-! ### truth -/
theorem t_tupTr {α : Type} [Rp α] {t : Tup α} (h : E X c Γ e t) (he : ∀ whole, isTrue e X.env whole = (do let v ← whole; standAt e.pos; holding [v] (truthy v)) := by intro _; rfl) : T X c Γ e (!t.l.isEmpty) := fun _ _ σ Hf H g Q k =>
  ⟨_, pt_truth pe_w he, h _ _ σ Hf H g _ fun v Hf1 H1 s1 r1 => by
    obtain ⟨p, vs, rfl, h2, h3⟩ := r1
    refine ⟨!t.l.isEmpty, .inr (.inl ⟨vs, sqT_of (s1.s _ _ h2), ?_⟩), k _ H1 s1⟩
    have z := h3.len
    cases vs <;> cases h : t.l <;> rw [h] at z <;> first | rfl | (simp at z)⟩
theorem t_lstTr {α : Type} [Rp α] {t : List α} (h : E X c Γ e t) (he : ∀ whole, isTrue e X.env whole = (do let v ← whole; standAt e.pos; holding [v] (truthy v)) := by intro _; rfl) : T X c Γ e (!t.isEmpty) := fun _ _ σ Hf H g Q k =>
  ⟨_, pt_truth pe_w he, h _ _ σ Hf H g _ fun v Hf1 H1 s1 r1 => by
    obtain ⟨p, vs, rfl, h2, h3⟩ := r1
    refine ⟨!t.isEmpty, .inl ⟨vs, s1.s.seq h2, ?_⟩, k _ H1 s1⟩
    cases h3 <;> rfl⟩
/-! ### t[lo:hi] -/
def cutL {α : Type} (xs : List α) (lo hi : Option Int) : List α := (xs.drop (HT.sIx xs.length 0 lo)).take (HT.sIx xs.length xs.length hi - HT.sIx xs.length 0 lo)
/-- a slice's end -/
def Po (X : Cx) (c : CL) (Γ : List Sl) (o : Option Expr) (i : Option Int) : Prop := match o, i with
  | none, none => True
  | some e, some i => E X c Γ e i
  | _, _ => False
theorem paired_drop {α β : Type} {F : α → β → Prop} : ∀ {l₁ : List α} {l₂ : List β} (n : Nat), Paired F l₁ l₂ → Paired F (l₁.drop n) (l₂.drop n)
  | _, _, 0, h => h
  | _, _, n + 1, .nil => .nil
  | _, _, n + 1, .cons r t => paired_drop n t
theorem paired_take {α β : Type} {F : α → β → Prop} : ∀ {l₁ : List α} {l₂ : List β} (n : Nat), Paired F l₁ l₂ → Paired F (l₁.take n) (l₂.take n)
  | _, _, 0, h => .nil
  | _, _, n + 1, .nil => .nil
  | _, _, n + 1, .cons r t => .cons r (paired_take n t)
theorem rpl_cut {K : PySem.W.Frag} {H : Hp} {α : Type} [Rp α] {vs : List V} {as : List α} {lo hi : Option Int} (r : RpL K c H vs as) : RpL K c H (cutV vs lo hi) (cutL as lo hi) := by
  unfold cutV cutL
  rw [r.len]
  exact paired_take _ (paired_drop _ r)
theorem e_slT {α : Type} [Rp α] {t : Tup α} {l u : Option Expr} {lo hi : Option Int} {p2 : Pos} (h : E X c Γ e t) (hl : Po X c Γ l lo) (hu : Po X c Γ u hi) (hw : ¬ (HT.sIx t.l.length 0 lo = 0 ∧ HT.sIx t.l.length t.l.length hi = t.l.length)) : E X c Γ (.Subscript e (.Slice l u none p2) pos) (⟨cutL t.l lo hi⟩ : Tup α) := fun _ _ σ Hf H g Q k => by
  have key : ∀ {Hf1 H1 : Hp} {v : V} (_ : Stp Hf H Hf1 H1) (_ : rp X.K c Hf1 v t), rSlT X.K v lo hi H1 Q := fun {Hf1 H1 v} s1 r1 => by
    obtain ⟨p, vs, rfl, h2, h3⟩ := r1
    refine ⟨p, vs, rfl, sqT_of (s1.s _ _ h2), by rw [h3.len]; exact hw, fun q hq => k _ _ _ (s1.trans (Stp.new s1.s hq)) ⟨q, _, rfl, upd_same, rpl_upd (s1.s.free hq) (rpl_cut h3)⟩⟩
  cases l with
  | none =>
    cases lo with
    | some _ => exact hl.elim
    | none =>
      cases u with
      | none =>
        cases hi with
        | some _ => exact hu.elim
        | none => exact ⟨_, pe_slice sl_tup pe_w po_none po_none, h _ _ σ Hf H g _ fun v Hf1 H1 s1 r1 => key s1 r1⟩
      | some eu =>
        cases hi with
        | none => exact hu.elim
        | some j => exact ⟨_, pe_slice sl_tup pe_w po_none (po_some pe_w), h _ _ σ Hf H g _ fun v Hf1 H1 s1 r1 => (show E X c Γ eu j from hu) _ _ σ Hf1 H1 (g.step s1) _ fun w Hf2 H2 s2 r2 => ⟨j, r2, key (s1.trans s2) (Rp.mono s2.f r1)⟩⟩
  | some el =>
    cases lo with
    | none => exact hl.elim
    | some i =>
      cases u with
      | none =>
        cases hi with
        | some _ => exact hu.elim
        | none => exact ⟨_, pe_slice sl_tup pe_w (po_some pe_w) po_none, h _ _ σ Hf H g _ fun v Hf1 H1 s1 r1 => (show E X c Γ el i from hl) _ _ σ Hf1 H1 (g.step s1) _ fun w Hf2 H2 s2 r2 => ⟨i, r2, key (s1.trans s2) (Rp.mono s2.f r1)⟩⟩
      | some eu =>
        cases hi with
        | none => exact hu.elim
        | some j => exact ⟨_, pe_slice sl_tup pe_w (po_some pe_w) (po_some pe_w), h _ _ σ Hf H g _ fun v Hf1 H1 s1 r1 => (show E X c Γ el i from hl) _ _ σ Hf1 H1 (g.step s1) _ fun w Hf2 H2 s2 r2 => ⟨i, r2, (show E X c Γ eu j from hu) _ _ σ Hf2 H2 ((g.step s1).step s2) _ fun w3 Hf3 H3 s3 r3 => ⟨j, r3, key ((s1.trans s2).trans s3) (Rp.mono (s2.f.trans s3.f) r1)⟩⟩⟩
end
/-! ### an own object walked by a tuple field -/
def itT (it d : Addr) : HO := .ext fun h => h.IsTupleIter it d 0
theorem itT_ok {P : Program} {w : World} {H : Hp} {h : Heap} {it d : Addr} (e : h.IsTupleIter it d 0) : ObjOk P w H h it (itT it d) := by
  obtain ⟨o, e1, e2⟩ := id e
  exact ⟨e, ⟨o, e1⟩, fun h1 h2 q k => by
    obtain ⟨o, e1, e2⟩ := q
    exact ⟨o, k o e1, e2⟩⟩
def rIterT (K : PySem.W.Frag) (m : Nat) : List V → Hp → VK → Prop := fun xs H Q => ∃ (d : Addr) (zs : List V), xs = [.ref d] ∧ SqT K H d zs ∧ ∀ it, H it = none → m ≤ it → Q (.ref it) (upd H it (itT it d))
theorem call_iterT {X : Cx} : CallR X (.builtin "iter") (rIterT X.K X.s_0.heap.objs.size) := by
  intro pins s σ H xs us Q I r h
  obtain ⟨d, zs, rfl, hd, q⟩ := h
  obtain ⟨u, rfl, ru⟩ := vals1 r
  cases ru
  obtain ⟨its, rv, p, hz⟩ := I.tuple hd
  refine Calls.call_function_entry (by decide +kernel) (by decide +kernel) PySem.W.kdk_entry_iter (PySem.W.kdk_args_iter _) ?_
  unfold Builtin.«iter»
  refine wpAny_bind (m := someArgs "iter" 1 2 _) (wpAny_of_eq (a := [Value.ref d]) (by first | rfl | kernel_rfl!) ?_)
  show wpAny _ _ (pyIter (.ref d) >>= _) _ _ _
  refine wpAny_bind (wpAny_pyIter_tuple (show s.heap.IsTuple d its.toArray from p) (wpAny_pure ⟨_, rfl, ?_⟩))
  have hn : H s.heap.objs.size = none := I.hok.fresh (Nat.le_refl _)
  refine ⟨.ref s.heap.objs.size, _, I.laid (t' := s.toks) (fun b u e => Heap.get?_push_of_some _ e) (Nat.le_refl _) (itT_ok ?_), rfl, q _ hn I.sz⟩
  exact ⟨_, Heap.get?_push_size _ rfl, rfl, rfl⟩
structure ItFt (X : Cx) (C : Addr) (fld : Str) (f : Addr) : Prop where
  ex : ∃ (fd : FuncData) (N ps : List Str) (x qual : Str) (st : Stmt), Fun X.K x qual st f fd ∧ FnScope N ps (defScope st) ∧ Binds X.K fd ps [] ∧ ps.length = 1 ∧
    ∀ Y : Cx, Y.K = X.K → Y.mg = X.mg → Y.N = N → Y.env.scope = defScope st → Y.calm = true → PSs Y (defBody st) (tRet (tCB (rIterT Y.K Y.s_0.heap.objs.size) (tCons (tFld Y.K (tVar 0) fld) tNil)))
  it : PySem.W.findIn X.K (.ref C) "__iter__" = some (some (.ref f))
  itF : PySem.W.isFn X.K (.ref f) = true
  cl : Cls X.K C
  na : NoAttr X.K C fld
def rOwnT (K : PySem.W.Frag) (C : Addr) (fld : Str) : V → Hp → (It → Hp → Prop) → Prop := fun v H R => ∃ a dx fs d zs, v = .ref a ∧ H a = some (.ins C dx fs) ∧ fs.lookup fld = some (.ref d) ∧ SqT K H d zs ∧ R (Itt K d) H
theorem ownI_tup {X : Cx} {C f : Addr} {fld : Str} (T : ItFt X C fld f) : OwnI X 1 (rOwnT X.K C fld) := by
  intro A pins σ H s tg v u R sb I rv h
  obtain ⟨a, dx, fs, d, zs, rfl, ha, hl, hd, hR⟩ := h
  cases rv
  obtain ⟨mA, J, _⟩ := ins_get I.hok ha
  obtain ⟨odA, J, _⟩ := J.look
  obtain ⟨m, hF⟩ := I.fr
  obtain ⟨fd, N, ps, x, qual, st, F, S, hb, h1, hps⟩ := T.ex
  refine PySem.W.owit_iter hF I.ok.mod.kin J T.it T.itF ?_
  have e0 : Env0 X.prog X.w X.K X.mg X.base A X.stack s H := { I.env0 with frames := by rw [sb.fr]; exact I.env0.frames }
  refine wpAny_call (codeAny_mono (run_body (CI := CX0) (k := 0) (N := N) (E := E0) (Q := fun v H' => ∃ it, v = .ref it ∧ H it = none ∧ s.heap.objs.size ≤ it ∧ H' = upd H it (itT it d)) F S sb.room e0 hb (vs := [.ref a]) (.cons rfl .nil) (by rw [h1]; rfl) fun cdv hr => ⟨_, hps _ rfl rfl rfl rfl rfl, ?_⟩) fun r s' hq => ?_)
  · refine ⟨.ref a, ?_, a, C, dx, fs, .ref d, rfl, ha, T.cl, T.na, hl, d, zs, rfl, hd, fun it n1 n2 => ⟨it, rfl, n1, n2, rfl⟩⟩
    unfold L2.start; rfl
  · cases r with
    | error e => exact hq.elim
    | ok fl =>
      cases fl with
      | next => exact hq.elim
      | brk => exact hq.elim
      | cont => exact hq.elim
      | ret u =>
        obtain ⟨v, H', I', rv, it, rfl, n1, n2, rfl⟩ := I.after hq
        cases rv
        have hk : s'.heap.IsTupleIter it d 0 := (I'.hok it _ upd_same).1
        have fp := ItX.inv_fp I' (a := it) upd_same (Nat.le_trans I.sz n2)
        have I2 := ItX.inv_drop I' (a := it) upd_same
        rw [ItX.dropH_upd n1] at I2 fp
        obtain ⟨oi, ei, ci, di⟩ := id hk
        unfold PySem.W.OwitIt
        refine wpAny_bind (((PySem.W.Looks.ld ei).andThen .now : PySem.W.Looks _ _ (typeOf (.ref it)) oi.cls).here ?_)
        rw [ci]
        show wpAny _ _ (typeLookup (.type "tuple_iterator") (Str.ofString "__next__")) _ _ _
        rw [show typeLookup (.type "tuple_iterator") (Str.ofString "__next__") = _ from PySem.F.slot_tuple_iterator_next.lookup]
        exact wpAny_pure ⟨it, [it], _, _, H, rfl, I2, turn_tuple d it, hk, fun b hb => by rw [List.mem_singleton.mp hb]; exact fp, hR⟩
/-- a class whose objects are walked by the tuple in the field fld -/
structure ItBt (K : PySem.W.Frag) (mg : Str → Option Value) (c : CL) (γ α : Type) [Ob γ] [Rp α] (fld : Str) (get : γ → Tup α) : Prop where
  ex : ∃ f : Addr, ∀ X : Cx, X.K = K → X.mg = mg → ItFt X (c (Ob.cls γ)) fld f
  at_ : ∀ b : γ, (Ob.fl b).lookup fld = some ⟨get b⟩
section
variable {X : Cx} {c : CL} {Γ : List Sl} {γ α : Type} [Ob γ] [Rp α] {ob : γ} {fld : Str} {get : γ → Tup α} {a e b : Expr} {es : List Expr} {pos p0 : Pos}
theorem own_wkT (B : ItBt X.K X.mg c γ α fld get) {Hf H : Hp} {v : V} (s : Same Hf H) (h : rp X.K c Hf v ob) {R : It → Hp → Prop} (k : ∀ J Hf' H', Stp Hf H Hf' H' → Wk X.K c Hf' J (get ob).l → R J H') : rOwnT X.K (c (Ob.cls γ)) fld v H R := by
  obtain ⟨p, dx, fvs, rfl, h1, h2⟩ := Ob.iff.mp h
  obtain ⟨w, h3, q, vs, h4, h5, h6⟩ := h2.get (B.at_ ob)
  exact ⟨p, dx, fvs, q, vs, rfl, s _ _ h1, by rw [h3, h4], sqT_of (s _ _ h5), k _ Hf H (Stp.refl s) (wk_tup (sqT_of h5) h6)⟩
theorem i_ownT {tg : Expr} (B : ItBt X.K X.mg c γ α fld get) (hr : Room 1 X.A) (h : E X c Γ a ob) : I X c Γ tg a (get ob).l := fun _ _ σ Hf H g R k => by
  obtain ⟨f, hF⟩ := B.ex
  exact ⟨_, pi_own pe_w (ownI_tup (hF X rfl rfl)) hr, h _ _ σ Hf H g _ fun v Hf1 H1 s1 r1 => own_wkT B s1.s r1 fun J Hf2 H2 s2 w => k J Hf2 H2 (s1.trans s2) w⟩
theorem e_listOT {k : Nat} {R : List Pk → Pk → Prop} (B : ItBt X.K X.mg c γ α fld get) (M : Mt X.prog X.w X.K X.mg X.base c (Ob.cls γ) "__len__" k R) (hr : Room (1 + k + 3) X.A) (hc : X.calm = true) (ha : E X c Γ a ob) (hR : R [⟨ob⟩] ⟨((get ob).l.length : Int)⟩) (hl : (get ob).l.length < 1000000)
    (hm : X.mg "list" = none) (hg : Gl X "list" := by rfl) (he : starEach [a] X.env = (false, eval a X.env) :: starEach [] X.env := by rfl) : E X c Γ (.Call (.Name "list" p0) [a] [] pos) (get ob).l := by
  obtain ⟨f, hF⟩ := B.ex
  obtain ⟨f2, fd, ps, F, mt, hfn, hbi⟩ := M
  refine e_callTy (call_listO (ob := ob) (L := ((get ob).l.length : Int)) (ownI_tup (hF X rfl rfl)) F hbi mt.at_ mt.fn hr hc ⟨fun Hf H v s h => ?_, fun Hf H v s h R k => own_wkT B s h k, fun Hf H v s h Q q => ?_, by omega, by omega⟩ hl) (a_cons ha a_nil he) (fun Hf H vs s r Q q => ?_) hg hm (by decide +kernel) (by decide) (by decide) he
  · obtain ⟨p, dx, fvs, rfl, h1, h2⟩ := Ob.iff.mp h
    exact ⟨p, dx, fvs, rfl, s _ _ h1⟩
  · exact ⟨Hf, [⟨ob⟩], ⟨((get ob).l.length : Int)⟩, s, .cons h .nil, hR, fun w Hf' H' st r => by rw [show w = _ from r]; exact q Hf' H' st⟩
  · obtain ⟨v, rfl, hv⟩ := pkl1 r
    exact ⟨v, Hf, rfl, s, hv, q⟩
end
/-! ### defs with *args; classmethods -/
section
variable {X : Cx} {CX : CXT} {k i : Nat} {f : Addr} {sp : Sp} {EE : XK} {x : Str} {e o : Expr} {es : List Expr} {t : TA} {p pos apos p0 : Pos}
theorem pe_callR (F : FnR X.prog X.w X.K X.mg X.base CX k f sp) (hr : Room k X.A) (hk : PySem.W.keepIn X.K (.ref f) = true) (hg : Gl X x) (hm : X.mg x = some (.ref f)) (hx : Passes CX X EE) (ha : PA X (e :: es) t) (hd : (x == ("__debug__" : Str)) = false := by decide)
    (he : starEach (e :: es) X.env = (false, eval e X.env) :: starEach es X.env := by rfl) (hpl : (backTo pos (starEach es X.env)).any (·.1) = false := by rfl) :
    PE X (.Call (.Name x p) (e :: es) [] pos) (fun σ H Q => t σ H fun vs H1 => sp vs H1 Q EE) := by
  refine ⟨fun pins s σ H Q I h => ?_⟩
  refine wpAny_Call_Name_kw (ld_glob I hg hm ?_ hd)
  refine PySem.W.callWith_K (h₀ := X.base) I.ok.mod.kin hk (thn (ha.run pos pins s σ H _ I h) fun us s1 ⟨vs, H1, I1, r, q⟩ => ⟨I1.kIn, ?_⟩) he hpl
  exact wpAny_call (run_fnR F hr hx I1 r q)
theorem pe_callR0 (F : FnR X.prog X.w X.K X.mg X.base CX k f sp) (hr : Room k X.A) (hk : PySem.W.keepIn X.K (.ref f) = true) (hg : Gl X x) (hm : X.mg x = some (.ref f)) (hx : Passes CX X EE) (hd : (x == ("__debug__" : Str)) = false := by decide) :
    PE X (.Call (.Name x p) [] [] pos) (fun σ H Q => sp [] H Q EE) := by
  refine ⟨fun pins s σ H Q I h => ?_⟩
  refine wpAny_Call_Name_kw (ld_glob I hg hm ?_ hd)
  exact PySem.W.callWith_K0 I.kIn hk (wpAny_call (run_fnR F hr hx I .nil h))
/-- x(e, ..), x a local that holds a class -/
theorem pe_makeV {C : Addr} {fd : FuncData} {ps : List Str} (M : Mk X.K C f) (F : FnOk X.prog X.w X.K X.mg X.base CX k f fd ps sp) (hr : Room (k + 1) X.A) (hb : Binds X.K fd ps []) (hx : Passes CX X EE) (hN : X.N[i]? = some x) (hv : Vis X.env.scope x)
    (ha : PA X (e :: es) t) (hd : (x == ("__debug__" : Str)) = false := by decide) (hcd : (x == ("__classdict__" : Str)) = false := by decide) (he : starEach (e :: es) X.env = (false, eval e X.env) :: starEach es X.env := by rfl) (hpl : (backTo pos (starEach es X.env)).any (·.1) = false := by rfl) :
    PE X (.Call (.Name x p) (e :: es) [] pos) (fun σ H Q => σ[i]? = some (some (.ref C)) ∧ tMake C sp [] EE t σ H Q) := by
  refine ⟨fun pins s σ H Q I h => ?_⟩
  obtain ⟨hs, h⟩ := h
  refine wpAny_Call_Name_kw (thn ((pe_var (pos := p) (i := i) hN hv hd hcd).run pins s σ H (fun v H1 => v = .ref C ∧ H1 = H) I ⟨.ref C, hs, rfl, rfl⟩) fun u s1 ⟨v, H1, I1, r1, ev, eH⟩ => ?_)
  subst ev
  rw [eH] at I1
  cases r1
  refine PySem.W.callWith_K (h₀ := X.base) I1.ok.mod.kin M.kp (thn (ha.run pos pins s1 σ H _ I1 h) fun us s2 ⟨vs, H2, I2, r, q⟩ => ⟨I2.kIn, ?_⟩) he hpl
  exact run_make M F hr hb .nil hx I2 r q
end
/-- a class as a value -/
structure Cl where
  n : String
instance : Rp Cl := ⟨fun _ c _ v a => v = .ref (c a.n), fun _ h => h⟩
section
variable {X : Cx} {c : CL} {Γ : List Sl} {γ : Type} [Ob γ] {ob : γ} {e : Expr} {es : List Expr} {pos apos p0 : Pos}
/-- cls(e, ..), cls a local -/
theorem e_makeV (i : Nat) {x : Str} {y : Str} {k : Nat} {R : List Pk → γ → Prop} {as : List Pk} (M : Mq X.prog X.w X.K X.mg X.base c γ y k R) (hr : Room (k + 1) X.A) (hΓ : Γ[i]? = some (d (Cl.mk (Ob.cls γ)))) (ha : As X c Γ (e :: es) as) (hR : R as ob) (hN : X.N[i]? = some x := by rfl)
    (hv : Vis X.env.scope x := by first | exact Or.inl rfl | exact Or.inr (Or.inl rfl) | exact Or.inr (Or.inr rfl)) (hd : (x == ("__debug__" : Str)) = false := by decide) (hcd : (x == ("__classdict__" : Str)) = false := by decide)
    (he : starEach (e :: es) X.env = (false, eval e X.env) :: starEach es X.env := by rfl) (hpl : (backTo pos (starEach es X.env)).any (·.1) = false := by rfl) : EN X c Γ (.Call (.Name x p0) (e :: es) [] pos) ob := fun _ _ σ Hf H g Q q => by
  obtain ⟨f, fd, ps, mk, F, hm, hb⟩ := M
  have hsl : σ[i]? = some (some (.ref (c (Ob.cls γ)))) := by
    obtain ⟨_, h2, R, h3, _⟩ := g
    have hlt : i < Γ.length := (List.getElem?_eq_some_iff.mp hΓ).1
    have hs : σ[i]? = some σ[i] := List.getElem?_eq_getElem (by omega)
    obtain ⟨w, e1, e2⟩ := h3 i _ _ hs hΓ
    rw [hs, e1]
    exact congrArg (fun z => some (some z)) e2
  refine ⟨_, pe_makeV mk F hr hb pass0 hN hv pa_w hd hcd he hpl, hsl, ha _ _ σ Hf H g _ fun vs Hf1 H1 s1 r1 => fun y dx ny ndx nyx => ?_⟩
  rw [List.append_nil]
  have e0 : ∀ a, a ≠ y → upd (upd H1 dx (.own y)) y (.ins (c (Ob.cls γ)) dx []) a = upd H1 dx (.own y) a := fun a h => upd_ne h
  refine ⟨Hf1, y, dx, vs, as, ob, rfl, (s1.s.trans (same_new ndx)).trans (same_new (by rw [upd_ne nyx.symm]; exact ny)), r1, hR, s1.s.free ny, upd_same, fun Hf2 H2 s2 r2 => ⟨rfl, q y Hf2 H2 (s1.trans ⟨s2.f, fun a o h => ?_, s2.s, fun a o h1 h2 n => ?_⟩) (s1.h.free ny) r2⟩⟩
  · refine s2.h a o ?_
    rw [del_ne (ne_of_none h ny), e0 _ (ne_of_none h ny), upd_ne (ne_of_none h ndx)]
    exact h
  · refine s2.d a o h1 ?_ n
    rw [del_ne (ne_of_none h2 ny), e0 _ (ne_of_none h2 ny), upd_ne (ne_of_none h2 ndx)]
    exact h2
/-- C.m(e, ..), m a classmethod that gives a new object -/
structure MtC (P : Program) (w : World) (K : PySem.W.Frag) (mg : Str → Option Value) (base : Heap) (c : CL) (cls : String) (m : Str) (k : Nat) {γ : Type} [Ob γ] (R : List Pk → γ → Prop) : Prop where
  ex : ∃ (mc : Value) (p g : Addr), ClX.CRead K (c cls) mc ∧ ClX.CMet K (c cls) mc m p g ∧ FnR P w K mg base CX0 k g (fspN K c R)
theorem e_methC {y m : Str} {k : Nat} {cls : String} {R : List Pk → γ → Prop} {as : List Pk} {pl : Sem Bool} {p1 : Pos} (M : MtC X.prog X.w X.K X.mg X.base c cls m k R) (hr : Room k X.A) (hmy : X.mg y = some (.ref (c cls))) (ha : As X c Γ (e :: es) as) (hR : R (⟨Cl.mk cls⟩ :: as) ob) (hg : Gl X y := by rfl) (hdb : (y == ("__debug__" : Str)) = false := by decide)
    (hst : starEach (e :: es) X.env = (false, eval e X.env) :: starEach es X.env := by rfl) (hpl : (backTo pos (starEach es X.env)).any (·.1) = false := by rfl)
    (ht : eval (.Call (.Attribute (.Name y p1) m apos) (e :: es) [] pos) X.env = (do
      let ov ← eval (.Name y p1) X.env
      standAt apos.atName
      let (f, first) ← holding [ov] (getMethod ov m pl)
      callWith pos f first (backTo pos (starEach (e :: es) X.env)) (backToKw pos (keywordEach [] X.env))) := by rfl) : EN X c Γ (.Call (.Attribute (.Name y p1) m apos) (e :: es) [] pos) ob := fun _ _ σ Hf H g Q q => by
  obtain ⟨mc, p, f, rd, cm, F⟩ := M
  refine ⟨_, ClX.pe_cmeth (pe_glob (v := .ref (c cls)) hg hmy rfl hdb) rd cm F hr pass0 pa_w hst hpl ht, rfl, ha _ _ σ Hf H g _ fun vs Hf1 H1 s1 r1 => ?_⟩
  exact ⟨Hf1, ⟨Cl.mk cls⟩ :: as, ob, s1.s, .cons rfl r1, hR, fun p' Hf2 H2 s2 n1 n2 => q p' Hf2 H2 (s1.trans s2) (s1.h.free n1) n2⟩
/-- x(e, ..), x a def with *args that gives a new object -/
structure DfS (P : Program) (w : World) (K : PySem.W.Frag) (mg : Str → Option Value) (base : Heap) (c : CL) (x : Str) (k : Nat) {γ : Type} [Ob γ] (R : List Pk → γ → Prop) : Prop where
  ex : ∃ f : Addr, FnR P w K mg base CX0 k f (fspN K c R) ∧ mg x = some (.ref f) ∧ PySem.W.keepIn K (.ref f) = true
theorem e_callS {x : Str} {k : Nat} {R : List Pk → γ → Prop} {as : List Pk} (M : DfS X.prog X.w X.K X.mg X.base c x k R) (hr : Room k X.A) (ha : As X c Γ (e :: es) as) (hR : R as ob) (hg : Gl X x := by rfl) (hdb : (x == ("__debug__" : Str)) = false := by decide)
    (he : starEach (e :: es) X.env = (false, eval e X.env) :: starEach es X.env := by rfl) (hpl : (backTo pos (starEach es X.env)).any (·.1) = false := by rfl) : EN X c Γ (.Call (.Name x p0) (e :: es) [] pos) ob := fun _ _ σ Hf H g Q q => by
  obtain ⟨f, F, hm, hk⟩ := M
  refine ⟨_, pe_callR F hr hk hg hm pass0 pa_w hdb he hpl, ha _ _ σ Hf H g _ fun vs Hf1 H1 s1 r1 => ?_⟩
  exact ⟨Hf1, as, ob, s1.s, r1, hR, fun p' Hf2 H2 s2 n1 n2 => q p' Hf2 H2 (s1.trans s2) (s1.h.free n1) n2⟩
theorem e_callS0 {x : Str} {k : Nat} {R : List Pk → γ → Prop} (M : DfS X.prog X.w X.K X.mg X.base c x k R) (hr : Room k X.A) (hR : R [] ob) (hg : Gl X x := by rfl) (hdb : (x == ("__debug__" : Str)) = false := by decide) : EN X c Γ (.Call (.Name x p0) [] [] pos) ob := fun _ _ σ Hf H g Q q => by
  obtain ⟨f, F, hm, hk⟩ := M
  exact ⟨_, pe_callR0 F hr hk hg hm pass0 hdb, Hf, [], ob, g.same, .nil, hR, fun p' Hf2 H2 s2 n1 n2 => q p' Hf2 H2 s2 n1 n2⟩
end
end Pv
namespace Pv
open Rp (rp)
open Ow (ow)
open Da (toD)
open PySem L2
/-- what the top says of a class of objects -/
structure Clf (K : PySem.W.Frag) (mg : Str → Option Value) (c : CL) (γ : Type) [Ob γ] : Prop where
  kl : Kl K c γ
  at_ : mg (Ob.cls γ : Str) = some (.ref (c (Ob.cls γ)))
  kt : Kt K (c (Ob.cls γ))
  kO : PySem.W.kitOne K (.ref (c (Ob.cls γ))) (.ref (c (Ob.cls γ))) = some true
  sf : PySem.W.selfFirst K (c (Ob.cls γ)) = true
  nf : PySem.W.notFirst K (c (Ob.cls γ)) (.ref (c (Ob.cls γ))) = true
section
variable {X : Cx} {c : CL} {Γ : List Sl} {W : WX} {D : En} {rest : List Stmt} {pos p0 : Pos} {a b e : Expr} {es : List Expr} {α : Type} [Rp α]
theorem e_lenW {t : TupW α} (ha : E X c Γ a t) (hm : X.mg "len" = none) (hg : Gl X "len" := by rfl) (he : starEach [a] X.env = (false, eval a X.env) :: starEach [] X.env := by rfl) : E X c Γ (.Call (.Name "len" p0) [a] [] pos) (t.l.length : Int) :=
  e_callB call_len_seq (a_cons ha a_nil he) (fun Hf H vs s r Q k => by
    obtain ⟨v, rfl, q, ys, rfl, h2, h3⟩ := pkl1 r
    exact ⟨q, ys, rfl, .inr (sqT_same s h2), k _ _ _ (Stp.refl s) (by rw [h3.len]; rfl)⟩) hg hm PySem.boot_len (by decide) (by decide) he
theorem ss_ifP {cnd : Expr} {x y : List Stmt} (J : List Sl → Prop) {z : Bool} (ht : T X c Γ cnd z) (h1 : z = true → Ss X c W Γ x { D with nx := J }) (h2 : z = false → Ss X c W Γ y { D with nx := J }) (hr : ∀ Γ', J Γ' → Ss X c W Γ' rest D) : Ss X c W Γ (.If cnd x y pos :: rest) D :=
  ss_if ht (fun h => ss_mono (h1 h) (fun _ l => hr _ l) (fun _ q => q) (fun _ q => q) (fun _ _ q => q) (fun _ _ q => q)) (fun h => ss_mono (h2 h) (fun _ l => hr _ l) (fun _ q => q) (fun _ q => q) (fun _ _ q => q) (fun _ _ q => q))
/-- an if that changes one slot to a value that can be told in one word -/
theorem ss_ifS (i : Nat) {cnd : Expr} {x y : List Stmt} {z : Bool} {β : Type} [Rp β] (v : β) (ht : T X c Γ cnd z) (h1 : z = true → Ss X c W Γ x { D with nx := fun Γ' => Le Γ' (Γ.set i (d v)) }) (h2 : z = false → Ss X c W Γ y { D with nx := fun Γ' => Le Γ' (Γ.set i (d v)) }) (hr : Ss X c W (Γ.set i (d v)) rest D) : Ss X c W Γ (.If cnd x y pos :: rest) D :=
  ss_ifJ (Γ.set i (d v)) ht h1 h2 hr
end
theorem flat_len {α β : Type} {f : α → List β} {b : Nat} (h : ∀ x, (f x).length ≤ b) : ∀ xs : List α, (xs.flatMap f).length ≤ xs.length * b
  | [] => by simp
  | x :: r => by
    rw [List.flatMap_cons, List.length_append, List.length_cons, Nat.succ_mul]
    have := flat_len h r
    have := h x
    omega
theorem flat_take {α β : Type} {f : α → List β} {xs : List α} {i : Nat} {x : α} (h : xs[i]? = some x) : (xs.take (i + 1)).flatMap f = (xs.take i).flatMap f ++ f x := by
  rw [take_succ' h, List.flatMap_append, List.flatMap_cons, List.flatMap_nil, List.append_nil]
theorem rng0_len (m : Int) : (rng 0 m).length = m.toNat := by unfold rng; rw [List.length_map, List.length_range]; simp
theorem rng_mem {lo hi x : Int} : x ∈ rng lo hi ↔ lo ≤ x ∧ x < hi := by
  unfold rng
  rw [List.mem_map]
  constructor
  · rintro ⟨n, h, rfl⟩
    have := List.mem_range.mp h
    omega
  · intro h
    exact ⟨(x - lo).toNat, List.mem_range.mpr (by omega), by omega⟩
theorem filt_true {α : Type} {xs : List α} : (xs.filter fun _ => true) = xs := List.filter_eq_self.mpr fun _ _ => rfl
/-- the first place -/
theorem getD_of {α : Type} {xs : List α} {i : Nat} {x z : α} (h : xs[i]? = some x) : xs.getD i z = x := by rw [List.getD_eq_getElem?_getD, h]; rfl
/-! list(range(..)) -/
section
variable {X : Cx} {c : CL} {Γ : List Sl} {pos p0 p1 p2 : Pos} {a b : Expr}
theorem rgV_rng (a b : Int) : rgV a b = (rng a b).map V.int := by
  unfold rgV rng
  rw [List.map_map]; rfl
theorem e_listR {n : Int} (ha : E X c Γ a n) (hb : -1000000 ≤ n ∧ n ≤ 1000000) (hm : X.mg "list" = none) (hm2 : X.mg "range" = none) (hc : X.calm = true := by rfl) (hg : Gl X "list" := by rfl) (hg2 : Gl X "range" := by rfl)
    (na : starEach [a] X.env = (false, eval a X.env) :: starEach [] X.env := by rfl) (na2 : starEach [.Call (.Name "range" p1) [a] [] p2] X.env = (false, eval (.Call (.Name "range" p1) [a] [] p2) X.env) :: starEach [] X.env := by rfl) : E X c Γ (.Call (.Name "list" p0) [.Call (.Name "range" p1) [a] [] p2] [] pos) (rng 0 n) := fun _ _ σ Hf H g Q k =>
  ⟨_, pe_listRg hc hg hm (prg_1 hg2 hm2 pe_w na) na2, ha _ _ σ Hf H g _ fun v Hf1 H1 s1 r1 => ⟨n, r1, ⟨by omega, by omega, by omega, by omega, by omega⟩, fun q hq => k _ _ _ (s1.trans (Stp.new s1.s hq)) ⟨q, _, rfl, .inl (.inl upd_same), by rw [rgV_rng]; exact rpl_int'⟩⟩⟩
theorem e_listR2 {m n : Int} (ha : E X c Γ a m) (hb' : E X c Γ b n) (hb : -1000000 ≤ m ∧ m ≤ 1000000 ∧ -1000000 ≤ n ∧ n ≤ 1000000) (hm : X.mg "list" = none) (hm2 : X.mg "range" = none) (hc : X.calm = true := by rfl) (hg : Gl X "list" := by rfl) (hg2 : Gl X "range" := by rfl)
    (na : starEach [a, b] X.env = (false, eval a X.env) :: starEach [b] X.env := by rfl) (nb : starEach [b] X.env = (false, eval b X.env) :: starEach [] X.env := by rfl) (na2 : starEach [.Call (.Name "range" p1) [a, b] [] p2] X.env = (false, eval (.Call (.Name "range" p1) [a, b] [] p2) X.env) :: starEach [] X.env := by rfl) : E X c Γ (.Call (.Name "list" p0) [.Call (.Name "range" p1) [a, b] [] p2] [] pos) (rng m n) := fun _ _ σ Hf H g Q k =>
  ⟨_, pe_listRg hc hg hm (prg_2 hg2 hm2 pe_w pe_w na nb (by rw [nb]; rfl)) na2, ha _ _ σ Hf H g _ fun v Hf1 H1 s1 r1 => hb' _ _ σ Hf1 H1 (g.step s1) _ fun u Hf2 H2 s2 r2 => ⟨m, n, r1, r2, ⟨by omega, by omega, by omega, by omega, by omega⟩, fun q hq => k _ _ _ ((s1.trans s2).trans (Stp.new s2.s hq)) ⟨q, _, rfl, .inl (.inl upd_same), by rw [rgV_rng]; exact rpl_int'⟩⟩⟩
end
end Pv
set_option maxHeartbeats 0
/-! An exception's own __init__ that calls super().__init__(..) -/
namespace Pv
open Rp (rp)
open Ow (ow)
open Da (toD)
open PySem L2 PySem.Spec PyProof.Rows
/-- a def within a class that says super() -/
structure XScope (N P : List Str) (sc : Scope) : Prop where
  kind : sc.kind = .function
  co : sc.isCoroutine = false
  gen : sc.isGenerator = false
  nd : N.Nodup
  pre : N.take P.length = P
  par : ∀ x ∈ P, sc.names.lookup x = some .local
  nocell : ∀ y ∈ sc.names, y.2 ≠ .cell
  free : ∀ y ∈ sc.names, y.2 = .free → y.1 = "__class__"
  sup : sc.names.lookup ("super" : Str) = some .globalImplicit
  cls : sc.names.lookup ("__class__" : Str) = some .free
abbrev xenv (qual : Str) (scope : Scope) (L f cda cc : Addr) : Env := PySem.W.ksEnv qual scope L f (.ref cda) cc
def xcx (P : Program) (w : World) (K : PySem.W.Frag) (mg : Str → Option Value) (base : Heap) (N : List Str) (qual : Str) (scope : Scope) (f cda cc : Addr) (A : Around) (outer : List Env) (s : Shared) (H : Hp) : Cx where
  prog := P
  w := w
  K := K
  mg := mg
  base := base
  A := A.deeper (xenv qual scope s.heap.objs.size f cda cc)
  N := N
  s_0 := s
  H_0 := H
  env := xenv qual scope s.heap.objs.size f cda cc
  outer := outer
  stack := xenv qual scope s.heap.objs.size f cda cc :: outer
  ex := []
  calm := true
  fn := fun x => !(x == ("__class__" : Str))
  pn := []
  xe := fun _ _ => False
theorem lookup_mem : ∀ {l : List (Str × Value)} {x : Str} {u : Value}, (l.map (·.1)).Nodup → (x, u) ∈ l → l.lookup x = some u
  | [], _, _, _, h => by cases h
  | (y, v) :: r, x, u, nd, h => by
    rw [List.lookup_cons]
    rw [List.map_cons, List.nodup_cons] at nd
    rcases List.mem_cons.mp h with e | e
    · cases e; simp
    · have hne : x ≠ y := fun z => nd.1 (by rw [← z]; exact List.mem_map_of_mem (f := (·.1)) e)
      have : (x == y) = false := by simpa using hne
      rw [this]
      exact lookup_mem nd.2 e
theorem lookup_rev {ps : List Str} {us : List Value} (nd : ps.Nodup) (hl : us.length = ps.length) {i : Nat} {x : Str} {u : Value} (hx : ps[i]? = some x) (hu : us[i]? = some u) : (ps.zip us).reverse.lookup x = some u := by
  refine lookup_mem ?_ ?_
  · rw [List.map_reverse, List.map_fst_zip (by omega)]
    exact (List.reverse_perm ps).nodup_iff.mpr nd
  · rw [List.mem_reverse]
    refine List.mem_iff_getElem?.mpr ⟨i, ?_⟩
    rw [List.getElem?_zip_eq_some]
    exact ⟨hx, hu⟩
section
variable {P : Program} {w : World} {K : PySem.W.Frag} {mg : Str → Option Value} {base : Heap} {N ps : List Str} {qual : Str} {scope : Scope} {f cda cc : Addr} {A : Around} {outer : List Env} {s : Shared} {H : Hp}
theorem inv_startX {us : List Value} {vs : List V} {h1 : Heap} {tk : Nat} (S : XScope N ps scope) (hd : A.handled = none) (e0 : Env0 P w K mg base A outer s H) (hl : vs.length = ps.length) (r : Vals vs us) {v0 : Value} (hcc : base.get? cc = some ⟨.type "cell", none, .cell (some v0), #[]⟩)
    (hns : h1.Ns s.heap.objs.size fun x => (ps.zip us).reverse.lookup x) (hk : ∀ b o, s.heap.get? b = some o → h1.get? b = some o) :
    L2.Inv (xcx P w K mg base N qual scope f cda cc A outer s H) [] (L2.start N vs) H { s with heap := h1, toks := tk } := by
  have hpl : ps.length ≤ N.length := by have := congrArg List.length S.pre; rw [List.length_take] at this; omega
  have noA : ∀ b : Addr, b ∉ (xcx P w K mg base N qual scope f cda cc A outer s H).ex := fun b z => absurd (show b ∈ ([] : List Addr) from z) (by simp)
  have ce : ∀ {x : Str} {d : Addr}, (xenv qual scope s.heap.objs.size f cda cc).cells.lookup x = some d → x = "__class__" ∧ d = cc := fun {x d} h => by
    have h : ([(("__class__" : Str), cc)] : List (Str × Addr)).lookup x = some d := h
    rw [List.lookup_cons] at h
    cases e : (x == ("__class__" : Str)) with
    | true => rw [e] at h; exact ⟨by simpa using e, (Option.some.inj h).symm⟩
    | false => rw [e] at h; cases h
  refine ⟨⟨e0.mod, S.kind, rfl, rfl, Nat.le_refl _, fun y z c h1 h2 => ?_, fun y hy => ?_, fun y c q h => ?_, fun _ => hd, Around.frames_deeper e0.frames, .inr ⟨rfl, rfl⟩, fun b z => absurd z (noA b), e0.bs, e0.bsz, fun b _ _ => noA b, fun b z => absurd z (noA b), e0.funs, e0.frf⟩,
    rfl, e0.bare, Un.kept hk, ⟨_, hns, fun i y v h1 h2 h3 => ?_⟩, fun y c h => ?_, e0.hok.fresh (Nat.le_refl _), fun y c h => ?_, fun p hp => absurd (show p ∈ ([] : List (Addr × Obj)) from hp) (by simp), e0.hok.kept hk, ?_⟩
  · rw [(ce h1).1, (ce h2).1]
  · have hy : scope.names.lookup y = some .cell ∨ scope.names.lookup y = some .free := hy
    rcases hy with hy | hy
    · exact absurd rfl (S.nocell _ (PySem.mem_of_lookup hy))
    · have : y = "__class__" := S.free _ (PySem.mem_of_lookup hy) rfl
      subst this
      exact ⟨cc, rfl⟩
  · have := (ce h).1
    subst this
    have q : (!(("__class__" : Str) == ("__class__" : Str))) = true := q
    exact absurd q (by decide)
  · have hi : i < vs.length := by
      unfold L2.start at h2
      by_cases hi : i < vs.length
      · exact hi
      · rw [List.getElem?_append_right (by simpa using hi)] at h2
        rw [List.getElem?_replicate] at h2
        split at h2 <;> cases h2
    have ha : vs[i]? = some v := by
      unfold L2.start at h2
      rw [List.getElem?_append_left (by simpa using hi), List.getElem?_map] at h2
      cases e : vs[i]? with
      | none => rw [e] at h2; cases h2
      | some a => rw [e] at h2; cases h2; rfl
    obtain ⟨u, hu, rv⟩ := r.get ha
    have hp : ps[i]? = some y := by
      rw [← S.pre, List.getElem?_take_of_lt (by omega)]; exact h1
    have ndP : ps.Nodup := by rw [← S.pre]; exact S.nd.sublist (List.take_sublist _ _)
    exact ⟨u, rv, .inl ⟨S.par y (List.mem_of_getElem? hp), lookup_rev ndP (by rw [← r.length]; exact hl) hp hu⟩⟩
  · rw [(ce h).2]
    exact ⟨some v0, _, hk _ _ ((e0.bs _ _ hcc).1), rfl⟩
  · rw [(ce h).2]
    exact (e0.bs _ _ hcc).2
  · unfold L2.start
    show _ = N.length
    rw [List.length_append, List.length_map, List.length_replicate]
    omega
end
/-- ValueError.__init__ of an exception, bound -/
abbrev mw (e : Addr) : Obj := PySem.W.kxs_mw "ValueError.__init__" e
section
open PySem.W PySem.Calls
variable {prog : Program} {w : World} {A : Around} {E : Value → Shared → Prop} {h : Heap} {g : Array GenState} {d : Drawn} {t : Nat} {os : OsState}
theorem call_mw {nm q : Str} {C N : Addr} {bs bm : List Value} {hdct : Bool} {sn : List Str} {sub : List Value} {ab : Bool} {col : Option Bool} {dd : Option Addr} {k0 k1 k2 k3 k5 : Option Value} {u e t0 : Addr} {rest : List Value} {Q : Value → Shared → Prop}
    (hC : h.get? C = some (excClassObj nm q C N bs bm hdct sn sub ab col dd k0 k1 k2 k3 k5 "ValueError.__new__")) (he : h.get? e = some (HandSPX.excO C t0)) (hu : h.get? u = some (mw e)) (hrest : rest.length ≤ sizeLine)
    (hq : ∀ h' t1, (∀ b o, b ≠ e → h.get? b = some o → h'.get? b = some o) → h'.get? e = some (HandSPX.excO C t1) → Q .none ⟨h', g, d, t, os⟩) :
    wpAny (model prog w) A (call (.ref u) rest) Q E ⟨h, g, d, t, os⟩ := by
  refine wpAny_call (codeAny_of_tree ?_)
  show wpAny _ A.in1 (callAny (.ref u) ⟨rest, []⟩) _ _ _
  simp only [callAny]
  refine wpAny_bind (wpAny_load hu ?_)
  simp only [kxs_mw, show (Value.type "method-wrapper" == Value.type "method" || Value.type "method-wrapper" == Value.type "builtin_function_or_method" || Value.type "method-wrapper" == Value.type "method-wrapper") = true by decide, if_true]
  refine KFB.if_so (by decide) ?_
  refine wpAny_bind (check_bound_init F.excBase_ValueError.toExcCallFacts hC he rfl ?_)
  refine wpAny_bind (wpAny_pure (wpAny_pure ?_))
  refine ⟨plainId_quiet F.excBase_ValueError.init.plain _, codeAny_builtin F.excBase_ValueError.initEntry ?_⟩
  exact exc_init_tree (cls := .ref C) (t0 := t0) (dv := none) (c2 := .none) (c3 := .none) (b4 := .bool false) he hrest fun h' k e' t' => hq h' _ k e'
end
/-- what the written part says of the exception's class and of its __init__ -/
structure SupC (P : Program) (K : PySem.W.Frag) (mg : Str → Option Value) (C D cc cda : Addr) : Prop where
  oex : OexC K C
  cell : K.lookup cc = some ⟨.type "cell", none, .cell (some (.ref D)), #[]⟩
  clsD : ∃ cd, PySem.W.clsIn K D = some cd
  sub : PySem.W.mroIn K C (.ref D) = some true
  sup : mg "super" = none
  code : ∃ (ccl : Value) (cdd : Option Addr) (vs : Array Value) (ccs : Array (Option Value)) (file : Str) (tf : Tok), K.lookup cda = some ⟨ccl, cdd, .fields vs, ccs⟩ ∧ vs[2]? = some (.str file tf) ∧ ((P.main.file : Str) == file) = true
  htop : (P.main.scope.names.lookup ("super" : Str)).isSome = false
  opq : PySem.W.nsIn K cStatics "thirdparty.any" = some none
  isV : PySem.W.subIn K (.ref C) (.type "ValueError") = some true
  along : PySem.W.ks_superIn K C D "__init__" = some (some (.builtin "ValueError.__init__"))
section
open PySem.W
variable {X : Cx} {qual : Str} {scope : Scope} {L f cda cc C D e : Addr} {pins : List (Addr × Obj)} {σ : L2.St} {H : Hp} {s : Shared} {fd : FuncData} {body : List Stmt} {a : Expr} {as : List Expr} {ta : TA} {p0 p1 p2 p3 p4 : Pos} {ar : Arg} {N P : List Str}
theorem super_stmt (T : SupC X.prog X.K X.mg C D cc cda) (he : X.env = xenv qual scope L f cda cc) (S : XScope N P scope) {oc : Value} {od : Option Addr} {osl : Array (Option Value)} (hf : X.K.lookup f = some ⟨oc, od, .func fd, osl⟩) (hp : (fd.params.posonlyargs ++ fd.params.args).head? = some ar) (h0 : X.N[0]? = some ar.arg) (hka : scope.names.lookup ar.arg = some .local)
    (I : L2.Inv X pins σ H s) (hs0 : σ[0]? = some (some (.ref e))) (hE : H e = some (exo e C none)) (ha : PA X (a :: as) ta) {Qn : Hp → Prop} (hq : ta σ H fun vs H' => vs.length ≤ 1000 ∧ H' e = some (exo e C none) ∧ Qn H')
    (hint : interactive X.env = false := by rfl) (hsw : swapsWith (.Call (.Attribute (.Call (.Name "super" p0) [] [] p1) "__init__" p2) (a :: as) [] p3) none p4.line X.env = pure false := by rfl)
    (hst : starEach (a :: as) X.env = (false, eval a X.env) :: starEach as X.env := by rfl) (hpl : (backTo p3 (starEach as X.env)).any (·.1) = false := by rfl) {pl : Sem Bool}
    (hev : eval (.Call (.Attribute (.Call (.Name "super" p0) [] [] p1) "__init__" p2) (a :: as) [] p3) X.env = (do
      let ov ← attributeBase (.Call (.Name "super" p0) [] [] p1) "__init__" X.env (eval (.Call (.Name "super" p0) [] [] p1) X.env)
      standAt p2.atName
      let (f, first) ← holding [ov] (getMethod ov "__init__" pl)
      callWith p3 f first (backTo p3 (starEach (a :: as) X.env)) []) := by rfl) :
    PySem.wpAt (model X.prog X.w) X.A (.func body X.env) (exec (.Expr (.Call (.Attribute (.Call (.Name "super" p0) [] [] p1) "__init__" p2) (a :: as) [] p3) p4) X.env) (fun fl s' => fl = .next ∧ ∃ H', L2.Inv X pins σ H' s' ∧ Qn H') X.xe s := by
  obtain ⟨ccl, cdd, vs, ccs, file, tf, hcode, hvs, hfile⟩ := T.code
  obtain ⟨cdD, hD⟩ := T.clsD
  obtain ⟨nm, q, Nn, bs, bm, sn, sub, ab, col, dd, k0, k1, k2, k3, k5, hC, hbm⟩ := T.oex.cls
  have kn : X.K.In s.heap := I.kIn
  have hkind : X.env.scope.kind = .function := I.ok.kind
  obtain ⟨oD, hD1, hD2⟩ : ∃ oD, X.K.lookup D = some oD ∧ oD.data = .cls cdD := by
    unfold PySem.W.clsIn at hD
    split at hD
    · rename_i c d cd' sl ho
      cases hD
      exact ⟨_, ho, rfl⟩
    · cases hD
  have hks : X.env.kindOf "super" = some .globalImplicit := by rw [he]; exact S.sup
  have hkc : X.env.kindOf "__class__" = some .free := by rw [he]; exact S.cls
  have hkl : X.env.kindOf ar.arg = some .local := by rw [he]; exact hka
  obtain ⟨m, hns, hloc⟩ := I.loc
  have hself : m ar.arg = some (.ref e) := by
    obtain ⟨u, ru, lk⟩ := hloc 0 ar.arg (.ref e) h0 hs0 (by rw [he]; exact .inl hka)
    have ru : u = .ref e := ru
    subst ru
    rcases lk with ⟨_, q⟩ | ⟨q, _⟩
    · exact q
    · rw [hkl] at q; rcases q with q | q <;> cases q
  have cellv : s.heap.get? cc = some ⟨.type "cell", none, .cell (some (.ref D)), #[]⟩ := kn _ _ T.cell
  refine ks_wpAt_Expr_any ?_ hint hsw
  refine ks_wpAt_MethodCall (pl := pl) ?_ hev
  refine ks_wpAt_super_base (env := X.env) (cc := cda) hks hkc rfl (by rw [he]) (kn _ _ hf) rfl hp (by rw [he]) (kn _ _ hcode) rfl hvs hfile T.htop ?_
  obtain ⟨mb, hb1, hb2⟩ := I.mod.blt
  refine ks_loadName_global hkind hks (Calls.loadGlobal_builtin (by rw [I.ok.glob]; exact I.mod.glob.keeps I.bk) T.sup (by rw [I.ok.blt]; exact hb1.keeps I.bk) ((hb2 _ (by decide)).trans (show bootBuiltins "super" = some (.type "super") by decide +kernel)) ⟨rfl, ?_⟩)
  refine wpAny_loadName_free hkind hkc (c := cc) (by rw [he]; rfl) ⟨_, cellv, rfl⟩ ?_
  refine wpAny_loadName_local hkind hkl hns hself ?_
  obtain ⟨t0, ho⟩ := exo_at I.hok hE
  obtain ⟨hp', g, dr, tk, os⟩ := s
  refine ks_wpAny_isType_cls (kn _ _ hD1) hD2 ⟨rfl, ?_⟩
  refine ks_wpAny_call_super (kn _ _ hD1) hD2 ho rfl (fun c z => by cases z) (PySem.W.looks_mroIn kn T.sub) (fun h1 e1 k1 => ?_)
  -- the super object stands
  have I1 : L2.Inv X pins σ H ⟨h1, g, dr, tk, os⟩ := I.kept (t' := tk) k1
  have hcl : PySem.W.clsIn X.K C = some { name := nm, bases := bs, mro := .ref C :: bm, ns := Nn, qualname := q, hasDict := true, slotNames := sn, subclasses := sub, abstract := ab, collection := col, hasDel := false } := by unfold PySem.W.clsIn; rw [hC] <;> rfl
  have hal := T.along
  unfold PySem.W.ks_superIn at hal
  rw [hcl] at hal
  have hne : e ≠ C := fun z => by
    have z2 := kn _ _ hC
    rw [← z, ho] at z2
    cases z2
  obtain ⟨t1, ho1⟩ := exo_at I1.hok hE
  have hI : PySem.W.Looks (model X.prog X.w) h1 (isInstance (.ref e) (.type "ValueError")) true := (show PySem.W.InstAt h1 e _ C none from ⟨ho1, rfl, rfl, trivial⟩).type.andThen (looks_subIn I1.kIn T.isV)
  refine kxs_getMethod kxs_ValueError e1 (looks_opaque I1.kIn T.opq) (l₀ := .ref C :: bm) ?_ rfl I1.kIn hal hI hne rfl ?_
  · exact fun A Q E s k q => wpAny_bind ((looks_clsIn I1.kIn hcl) A _ E s k (wpAny_pure q))
  -- the bound __init__ stands
  have I2 := ClX.pin_new (h' := h1.push (mw e)) (a := h1.objs.size) (t' := tk + 1) I1 (fun b u z => Heap.get?_push_of_some _ z) (Nat.le_refl _) (Heap.get?_push_at rfl rfl) (fun v z => by cases z)
  rw [hst]
  refine kxs_callWith (i := "ValueError.__init__") (x := e) (by show (false || (backTo p3 (starEach as X.env)).any (·.1)) = false; rw [hpl]; rfl) ?_
  have hr := ha.run p3 _ _ σ H _ I2 hq
  rw [hst] at hr
  refine PySem.Calls.evalArgs_plain (thn hr fun us s3 ⟨vs3, H3, I3, r3, hz, hE3, q3⟩ => ?_)
  have hu := ClX.pin_at I3
  refine ⟨hu, ?_⟩
  obtain ⟨t3, ho3⟩ := exo_at I3.hok hE3
  obtain ⟨hp3, g3, dr3, tk3, os3⟩ := s3
  rw [List.nil_append]
  have hus : us.length ≤ sizeLine := by rw [← r3.length, sizeLine_eq]; omega
  refine call_mw (I3.kIn _ _ hC) ho3 hu hus (fun h4 t4 k4 e4 => ⟨rfl, H3, ?_, q3⟩)
  have J := (ClX.unpin I3).write (t' := tk3) (x := e) (e := e) (o := exo e C none) (by rw [hE3]; exact True.intro) (.inl rfl) k4 ⟨_, e4⟩ (exo_ok e4)
  have eu : upd H3 e (exo e C none) = H3 := by
    funext b
    by_cases hb : b = e
    · rw [hb, upd_same, hE3]
    · rw [upd_ne hb]
  rw [eu] at J
  exact J
end
end Pv
set_option maxHeartbeats 0
/-! The __init__ of an exception, and raising one -/
namespace Pv
open Rp (rp)
open Ow (ow)
open Da (toD)
open PySem L2
/-- a def within a class body that says super(), as the written part has it -/
structure FunX (K : PySem.W.Frag) (x qual : Str) (st : Stmt) (f cda cc : Addr) (fd : FuncData) : Prop where
  ex : ∃ oc od kV doc pm an ct osl, fd = PySem.W.ksFn x qual (defArgs st) (defBody st) (defScope st) .none kV doc pm an (.ref cda) ct cc ∧ K.lookup f = some ⟨oc, od, .func fd, osl⟩ ∧ PySem.W.codeIn K (.ref cda) qual = true
/-- what an exception's __init__ does: with the arguments ws it writes its fields -/
def spE (C : Addr) (Pr : Hp → List V → Prop) (fls : List Str) : Sp := fun vs H Q _ => ∃ a ws, vs = .ref a :: ws ∧ ws.length = fls.length ∧ Pr H ws ∧ H a = some (exo a C none) ∧
  ∀ d H', H d = none → d ≠ a → H' a = some (exo a C (some d)) → H' d = some (exd d (fls.zip ws).reverse) → (∀ b, b ≠ a → b ≠ d → H' b = H b) → Q .non H'
section
variable {P : Program} {w : World} {K : PySem.W.Frag} {mg : Str → Option Value} {base : Heap}
theorem fn_exc {x qual : Str} {st : Stmt} {f cda cc : Addr} {fd : FuncData} {N ps fls : List Str} {k : Nat} {C D : Addr} {Pr : Hp → List V → Prop} {a : Expr} {as : List Expr} {rest : List Stmt} {p0 p1 p2 p3 p4 : Pos} {ar : Arg} (F : FunX K x qual st f cda cc fd) (S : XScope N ps (defScope st)) (T : SupC P K mg C D cc cda)
    (hl : fls.length + 1 = ps.length) (hN : ps.length ≤ N.length) (hd : defBody st = .Expr (.Call (.Attribute (.Call (.Name "super" p0) [] [] p1) "__init__" p2) (a :: as) [] p3) p4 :: rest) (hp : ((defArgs st).posonlyargs ++ (defArgs st).args).head? = some ar) (h0 : N[0]? = some ar.arg)
    (hka : (defScope st).names.lookup ar.arg = some .local)
    (hb : ∀ (A : Around) (outer : List Env) (s : Shared) (H : Hp) (e : Addr) (ws : List V), ws.length = fls.length → Pr H ws → H e = some (exo e C none) →
      ∃ ta, PA (xcx P w K mg base N qual (defScope st) f cda cc A outer s H) (a :: as) ta ∧ ta (L2.start N (.ref e :: ws)) H fun vs H' => vs.length ≤ 1000 ∧ H' e = some (exo e C none) ∧ H' = H)
    (hr : ∀ (A : Around) (outer : List Env) (s : Shared) (H : Hp) (e : Addr) (ws : List V), ws.length = fls.length → Pr H ws → H e = some (exo e C none) →
      ∀ DD : Ends, (∀ σ' d H', H d = none → d ≠ e → H' e = some (exo e C (some d)) → H' d = some (exd d (fls.zip ws).reverse) → (∀ b, b ≠ e → b ≠ d → H' b = H b) → DD.nx σ' H') → wSs (xcx P w K mg base N qual (defScope st) f cda cc A outer s H) rest DD (L2.start N (.ref e :: ws)) H)
    (hint : ∀ L, interactive (xenv qual (defScope st) L f cda cc) = false := by intro _; rfl) (hsw : ∀ L, swapsWith (.Call (.Attribute (.Call (.Name "super" p0) [] [] p1) "__init__" p2) (a :: as) [] p3) none p4.line (xenv qual (defScope st) L f cda cc) = pure false := by intro _; rfl)
    (hst : ∀ L, starEach (a :: as) (xenv qual (defScope st) L f cda cc) = (false, eval a (xenv qual (defScope st) L f cda cc)) :: starEach as (xenv qual (defScope st) L f cda cc) := by intro _; rfl) (hpl : ∀ L, (backTo p3 (starEach as (xenv qual (defScope st) L f cda cc))).any (·.1) = false := by intro _; rfl) {pl : Addr → Sem Bool}
    (hev : ∀ L, eval (.Call (.Attribute (.Call (.Name "super" p0) [] [] p1) "__init__" p2) (a :: as) [] p3) (xenv qual (defScope st) L f cda cc) = (do
      let ov ← attributeBase (.Call (.Name "super" p0) [] [] p1) "__init__" (xenv qual (defScope st) L f cda cc) (eval (.Call (.Name "super" p0) [] [] p1) (xenv qual (defScope st) L f cda cc))
      standAt p2.atName
      let (g, first) ← holding [ov] (getMethod ov "__init__" (pl L))
      callWith p3 g first (backTo p3 (starEach (a :: as) (xenv qual (defScope st) L f cda cc))) []) := by intro _; rfl)
    (hco : (defScope st).isCoroutine = false := by rfl) (hgn : (defScope st).isGenerator = false := by rfl) : FnOk P w K mg base CX0 (k + 1) f fd ps (spE C Pr fls) := by
  obtain ⟨oc, od, kV, doc, pm, an, ct, osl, rfl, hK, hcd⟩ := F.ex
  refine ⟨fun vs H Q E ⟨a, ws, h1, h2, _⟩ => by rw [h1, List.length_cons, h2, hl], fun A outer s H args us vs Q E hr0 e0 hbd r ⟨e, ws, h1, h2, h3, h4, h5⟩ => ?_⟩
  subst h1
  have KX := PySem.W.Frag.In.keeps e0.mod.kin fun b o e => (e0.bs b o e).left
  have lim := Heap.NoLimit.keeps e0.mod.nolimit fun b o e => (e0.bs b o e).left
  have hlen : (V.ref e :: ws).length = ps.length := by rw [List.length_cons, h2, hl]
  refine ks_codeAny_call_defAt (Room.depth hr0) (KX f _ hK) rfl lim (PySem.W.codeRec_of KX hcd) rfl hbd S.nocell (fun y hy => S.par _ (List.of_mem_zip hy).1) (fun h₀ hns hk => ?_) S.co S.gen S.kind
  have I := inv_startX (qual := qual) (f := f) (cda := cda) (tk := s.toks + (ps.zip us).length) S hr0.hd e0 hlen r (e0.mod.kin _ _ T.cell) hns hk
  obtain ⟨ta, h6, h7⟩ := hb A outer s H e ws h2 h3 h4
  have hs0 : (L2.start N (.ref e :: ws))[0]? = some (some (V.ref e)) := rfl
  have z := super_stmt (X := xcx P w K mg base N qual (defScope st) f cda cc A outer s H) (body := defBody st) (fd := PySem.W.ksFn x qual (defArgs st) (defBody st) (defScope st) .none kV doc pm an (.ref cda) ct cc) T rfl S hK hp h0 hka I hs0 h4 h6 (Qn := fun H' => H' = H) h7 (hint _) (hsw _) (hst _) (hpl _) (pl := pl _) (hev _)
  have ee : callEnv (PySem.W.ksFn x qual (defArgs st) (defBody st) (defScope st) .none kV doc pm an (.ref cda) ct cc) s.heap.objs.size f = xenv qual (defScope st) s.heap.objs.size f cda cc := rfl
  rw [ee]
  rw [hd] at z ⊢
  refine ks_wpAt_execs_cons (wpAt_mono z ?_ ?_)
  · rintro fl s1 ⟨rfl, H1, I1, rfl⟩
    obtain ⟨t, h8, h9⟩ := hr A outer s H1 e ws h2 h3 h4 { nx := fun _ H' => Q .non H', rt := fun _ _ => False } (fun σ' d H' a b c d e => h5 _ _ a b c d e)
    refine wpAt_of_wpAny (wpAny_mono (h8.run [] _ _ _ _ I1 h9) ?_ ?_)
    · intro fl s2 hs
      cases fl with
      | next =>
        obtain ⟨σ', H', J, q⟩ := hs
        exact ⟨.non, H', J.os, J.bare, J.base, J.hok, rfl, q⟩
      | brk => obtain ⟨_, _, _, q⟩ := hs; exact q.elim
      | cont => obtain ⟨_, _, _, q⟩ := hs; exact q.elim
      | ret u => obtain ⟨_, _, _, _, _, q⟩ := hs; exact q.elim
    · intro e s2 q
      exact False.elim q
  · intro e s2 q
    exact False.elim q
end
end Pv
set_option maxHeartbeats 0
namespace Pv
open Rp (rp)
open Ow (ow)
open Da (toD)
open PySem L2
/-! ### f-strings of texts and ints -/
inductive FS (X : Cx) (σ : L2.St) (H : Hp) : List Expr → Nat → Prop
  | nil : FS X σ H [] 0
  | txt {y : Str} {k : Nat} {p : Pos} {es : List Expr} {n : Nat} (h : y.length ≤ 1000) (r : FS X σ H es n) : FS X σ H (.Constant (.str y) k p :: es) (1000 + n)
  | int {e : Expr} {t : TE} {i : Int} {p : Pos} {es : List Expr} {n : Nat} (he : PE X e t) (ht : ∀ Q : VK, Q (.int i) H → t σ H Q) (hi : i.natAbs.log2 < 1920) (r : FS X σ H es n) : FS X σ H (.FormattedValue e (-1) none p :: es) (1921 + n)
theorem FS.go {X : Cx} {σ : L2.St} {H : Hp} {es : List Expr} {n : Nat} (h : FS X σ H es n) : ∃ ts, PJ X es ts ∧ ∀ (acc : Str) (Q : Str → Hp → Prop), acc.length + n ≤ sizeLine → (∀ out, Q out H) → tJs ts acc σ H Q := by
  induction h with
  | nil => exact ⟨[], .nil, fun acc Q _ q => q acc⟩
  | @txt y k p es n h r ih =>
    obtain ⟨ts, i1, i2⟩ := ih
    refine ⟨_, .cons pe_str i1, fun acc Q hl q => ⟨y, rfl, ?_, i2 _ Q ?_ q⟩⟩
    · rw [Str.length_append]; omega
    · rw [Str.length_append]; omega
  | @int e t i p es n he ht hi r ih =>
    obtain ⟨ts, i1, i2⟩ := ih
    refine ⟨_, .cons (pe_fmt he) i1, fun acc Q hl q => ht _ (.inr ⟨i, rfl, hi, _, rfl, ?_, i2 _ Q ?_ q⟩)⟩
    · have := PyProof.Rows.int_text_len_1921 hi
      rw [Str.length_append]; omega
    · have := PyProof.Rows.int_text_len_1921 hi
      rw [Str.length_append]; omega
theorem fs_arg {X : Cx} {σ : L2.St} {H : Hp} {v1 v2 : Expr} {vs : List Expr} {n : Nat} {pos : Pos} (h : FS X σ H (v1 :: v2 :: vs) n) (hn : n ≤ sizeLine) (he : starEach [Expr.JoinedStr (v1 :: v2 :: vs) pos] X.env = (false, eval (Expr.JoinedStr (v1 :: v2 :: vs) pos) X.env) :: starEach [] X.env := by rfl) :
    ∃ ta, PA X [.JoinedStr (v1 :: v2 :: vs) pos] ta ∧ ∀ Q : List V → Hp → Prop, (∀ u, Q [u] H) → ta σ H Q := by
  obtain ⟨ts, h1, h2⟩ := h.go
  exact ⟨_, pa_cons (pe_joined h1) pa_nil he, fun Q q => h2 Str.empty _ (by rw [show Str.empty.length = 0 from rfl]; omega) fun out => q _⟩
/-! ### self.f = x in an exception's __init__ -/
section
variable {X : Cx} {σ : L2.St} {H : Hp} {DD : Ends} {rest : List Stmt} {sx x fl : Str} {p1 p2 p3 pos : Pos} {a C : Addr} {v : V}
theorem ost1 (i : Nat) (hs0 : σ[0]? = some (some (.ref a))) (hsi : σ[i]? = some (some v)) (T : OexC X.K C) (hno : PySem.W.findIn X.K (.ref C) fl = some none) (hE : H a = some (exo a C none))
    (k : ∀ d, H d = none → d ≠ a → wSs X rest DD σ (upd (upd H d (exd d [(fl, v)])) a (exo a C (some d)))) (hN0 : X.N[0]? = some sx := by rfl) (hNi : X.N[i]? = some x := by rfl)
    (hv0 : Vis X.env.scope sx := by first | exact Or.inl rfl | exact Or.inr (Or.inl rfl) | exact Or.inr (Or.inr rfl)) (hvi : Vis X.env.scope x := by first | exact Or.inl rfl | exact Or.inr (Or.inl rfl) | exact Or.inr (Or.inr rfl))
    (hd0 : (sx == ("__debug__" : Str)) = false := by decide) (hc0 : (sx == ("__classdict__" : Str)) = false := by decide) (hdi : (x == ("__debug__" : Str)) = false := by decide) (hci : (x == ("__classdict__" : Str)) = false := by decide)
    (hs : swapsWith (.Name x p3) (some ((Expr.Name sx p1).Attribute fl p2)) pos.line X.env = pure false := by rfl) :
    wSs X (.Assign [.Attribute (.Name sx p1) fl p2] (.Name x p3) pos :: rest) DD σ H :=
  ⟨_, pss_cons (ps_ost (pe_var hN0 hv0 hd0 hc0) (pe_var hNi hvi hdi hci) hs) pss_w, v, hsi, .ref a, hs0, a, C, rfl, T, hno, .inl ⟨hE, k⟩⟩
theorem ost2 (i : Nat) {dx : Addr} {fs : List (Str × V)} (hs0 : σ[0]? = some (some (.ref a))) (hsi : σ[i]? = some (some v)) (T : OexC X.K C) (hno : PySem.W.findIn X.K (.ref C) fl = some none) (hE : H a = some (exo a C (some dx))) (hD : H dx = some (exd dx fs)) (hl : fs.length ≤ 900)
    (k : wSs X rest DD σ (upd H dx (exd dx ((fl, v) :: fs)))) (hN0 : X.N[0]? = some sx := by rfl) (hNi : X.N[i]? = some x := by rfl)
    (hv0 : Vis X.env.scope sx := by first | exact Or.inl rfl | exact Or.inr (Or.inl rfl) | exact Or.inr (Or.inr rfl)) (hvi : Vis X.env.scope x := by first | exact Or.inl rfl | exact Or.inr (Or.inl rfl) | exact Or.inr (Or.inr rfl))
    (hd0 : (sx == ("__debug__" : Str)) = false := by decide) (hc0 : (sx == ("__classdict__" : Str)) = false := by decide) (hdi : (x == ("__debug__" : Str)) = false := by decide) (hci : (x == ("__classdict__" : Str)) = false := by decide)
    (hs : swapsWith (.Name x p3) (some ((Expr.Name sx p1).Attribute fl p2)) pos.line X.env = pure false := by rfl) :
    wSs X (.Assign [.Attribute (.Name sx p1) fl p2] (.Name x p3) pos :: rest) DD σ H :=
  ⟨_, pss_cons (ps_ost (pe_var hN0 hv0 hd0 hc0) (pe_var hNi hvi hdi hci) hs) pss_w, v, hsi, .ref a, hs0, a, C, rfl, T, hno, .inr ⟨dx, fs, hE, hD, hl, k⟩⟩
end
end Pv
set_option maxHeartbeats 0
/-! An exception made where nothing is handled: its context is None -/
namespace Pv
open Rp (rp)
open Ow (ow)
open Da (toD)
open PySem L2
section
variable {X : Cx} {pins : List (Addr × Obj)} {σ : L2.St} {H1 H2 : Hp} {Q : XK} {hp hp2 h2 : Heap} {g1 g2 : Array GenState} {d1 d2 : Drawn} {t1 t2 : Nat} {os1 os2 : OsState} {a C dx : Addr} {fs : List (Str × V)}
theorem mk_endN (T : Raises X (.ref C)) (I1 : L2.Inv X pins σ H1 ⟨hp, g1, d1, t1, os1⟩) (ha : hp.objs.size ≤ a) (k : ∀ b o, hp.get? b = some o → hp2.get? b = some o) (un : Un (frs X.stack) [] (upd H1 a (exo a C none)) H2 hp2 h2) (hok : HOk X.prog X.w H2 h2) (ho : os2 = os1) (hb : PyProof.Rows.AllBare g2)
    (ea : H2 a = some (exo a C (some dx))) (ed : H2 dx = some (exd dx fs)) (hd1 : H1 dx = none) (q : Q (.ref C) (some dx) (upd (L2.del H2 a) dx (.xd fs))) : L2N.MkP X pins σ Q (.ref a) ⟨h2, g2, d2, t2, os2⟩ := by
  obtain ⟨t0, G, J, kG, ge, hoe, na⟩ := mk_end0 (d1 := d1) (d2 := d2) (t1 := t1) (t2 := t2) I1 ha k un hok ho hb ea ed hd1
  exact ⟨a, _, _, ⟨G, g2, d2, t2, os2⟩, _, .ref C, some dx, rfl, J, kG, ge, hoe, ⟨rfl, rfl, fun vs e => by cases e; rfl⟩, rfl, rfl, na, rfl, hb, T, q⟩
theorem pmk_oexN {e : Expr} {es : List Expr} {ta : TA} {p pos : Pos} {CX : CXT} {x : Str} {fI : Addr} {k : Nat} {fd : FuncData} {ps : List Str} {sp : Sp} (T : OexC X.K C) (iC : PySem.W.findIn X.K (.ref C) "__init__" = some (some (.ref fI))) (tI : PySem.W.typeIn X.K (.ref fI) = some (.type "function"))
    (F1 : FnOk X.prog X.w X.K X.mg X.base CX k fI fd ps sp) (hr : Room (k + 1) X.A) (hb : Binds X.K fd ps []) (hx : Passes CX X (fun _ _ _ => False)) (hg : Gl X x) (hm : X.mg x = some (.ref C)) (ha : PA X (e :: es) ta) (hdb : (x == ("__debug__" : Str)) = false)
    (he : starEach (e :: es) X.env = (false, eval e X.env) :: starEach es X.env) (hpl : (backTo pos (starEach es X.env)).any (·.1) = false) : L2N.PMk X (.Call (.Name x p) (e :: es) [] pos) (tMkO C sp [] ta) := fun pins s σ H Q I h => by
  obtain ⟨nm, q, N, bs, bm, sn, sub, ab, col, dd, k0, k1, k2, k3, k5, hC, hbm⟩ := T.cls
  refine wpAny_Call_Name_kw (ld_glob (hd := hdb) I hg hm ?_)
  refine PySem.W.callWith_K I.ok.mod.kin T.kC (thn (ha.run pos pins s σ H _ I h) fun us s1 ⟨vs, H1, I1, r1, hz, q1⟩ => ⟨I1.kIn, ?_⟩) he hpl
  obtain ⟨hp, g, dr, tk, os⟩ := s1
  have hsz := Nat.le_succ hp.objs.size
  have hn := I1.hok.fresh hsz
  have hq := q1 (hp.objs.size + 1) hn
  rw [List.append_nil] at hq
  have kk : ∀ b o, hp.get? b = some o → ((hp.push (PySem.W.kdv_tup us)).push (HandSPX.excO C hp.objs.size)).get? b = some o := fun b o e => Heap.get?_push_of_some (HandSPX.excO C hp.objs.size) (Heap.get?_push_of_some (PySem.W.kdv_tup us) e)
  have hget : ((hp.push (PySem.W.kdv_tup us)).push (HandSPX.excO C hp.objs.size)).get? (hp.objs.size + 1) = some (HandSPX.excO C hp.objs.size) := Heap.get?_push_at (by rw [Heap.size_push]) rfl
  have I2 := Inv.laid (t' := tk) I1 kk hsz (exo_ok hget)
  have r2 : Vals (V.ref (hp.objs.size + 1) :: vs) (Value.ref (hp.objs.size + 1) :: us) := .cons rfl r1
  have hl : (Value.ref (hp.objs.size + 1) :: us).length = ps.length := by rw [← F1.len _ _ _ _ hq, ← r2.length]
  have hus : us.length ≤ sizeLine := by rw [← r1.length, sizeLine_eq]; omega
  have hbd := hb ⟨(hp.push (PySem.W.kdv_tup us)).push (HandSPX.excO C hp.objs.size), g, dr, tk, os⟩ (Value.ref (hp.objs.size + 1) :: us) I2.kIn (by rw [List.append_nil]; exact hl)
  rw [List.append_nil] at hbd
  refine wpAny_call (HandSPX.call_own F.excBase_ValueError (fun Y => HandSPX.refsVE_contains Y bm hbm) (I1.kIn C _ hC) (PySem.W.looks_findIn I1.kIn iC) (fun self => PySem.W.bind_fn I1.kIn self tI) hus
    (codeAny_mono (F1.run (X.A.under (.builtin "type.__call__" { pos := .ref C :: us })) X.stack ⟨_, g, dr, tk, os⟩ _ { pos := .ref (hp.objs.size + 1) :: us } _ _ _ _ (Room.make hr C us []) (Env0.make I2.env0 C us []) hbd r2 hq) fun r s' hq' => ?_))
  cases r with
  | error er => exact hx pins σ _ _ er s' I2 hq'
  | ok fl =>
    cases fl with
    | next => exact False.elim hq'
    | brk => exact False.elim hq'
    | cont => exact False.elim hq'
    | ret u =>
      obtain ⟨v, H2, os2, bare2, un2, hok2, rv, ev, d, fs, ea, ed, hd1, q2⟩ := hq'
      subst ev
      obtain ⟨h2, g2, d2, t2, os'⟩ := s'
      exact ⟨rv, mk_endN (raises_own T.exC T.tyC) I1 hsz kk un2 hok2 os2 bare2 ea ed hd1 q2⟩
end
end Pv
set_option maxHeartbeats 0
/-! Defs that raise, and what raises -/
namespace Pv
open Rp (rp)
open Ow (ow)
open Da (toD)
open PySem L2
/-- what a def promises that raises x -/
def fspX (K : PySem.W.Frag) (c : CL) (RX : List Pk → Xn → Prop) : Sp := fun vs H _ E => ∃ (Hf : Hp) (ps : List Pk) (x : Xn), Same Hf H ∧ PkL K c Hf vs ps ∧ RX ps x ∧ ∀ cls dd Hf' H', Stp Hf H Hf' H' → XnOk K c Hf' x cls dd → E cls dd H'
section
variable {P : Program} {w : World} {K : PySem.W.Frag} {mg : Str → Option Value} {base : Heap} {c : CL}
theorem okX {x qual : Str} {st : Stmt} {f : Addr} {fd : FuncData} {N ps : List Str} {k : Nat} {sp : Sp} (F : Fun K x qual st f fd) (S : FnScope N ps (defScope st)) (hl : ∀ vs H Q E, sp vs H Q E → vs.length = ps.length)
    (hb : ∀ (cdv : Value) (A : Around) (outer : List Env) (s : Shared) (H : Hp) (vs : List V) (Q : VK) (E : XK), Room k (A.deeper (PyProof.Rows.envOfC qual (defScope st) s.heap.objs.size f cdv)) → sp vs H Q E →
      ∃ t, PSs (cxOf (L2N.CX P w) P w K mg base N qual (defScope st) f cdv A outer s H E) (defBody st) t ∧ t { nx := fun _ H' => Q .non H', rt := Q } (L2.start N vs) H) : FnOk P w K mg base (L2N.CX P w) (k + 1) f fd ps sp := by
  obtain ⟨oc, od, kV, doc, pm, an, cdv, ct, osl, rfl, hK, hcd⟩ := F.ex
  have z := fn_of (CX := L2N.CX P w) (P := P) (w := w) (mg := mg) (base := base) (k := k) (sp := sp) (dV := .none) hK hcd S hl (hb cdv)
  exact z
/-- THE RULE for a def that raises -/
theorem def_okX {x qual : Str} {st : Stmt} {f : Addr} {fd : FuncData} {N ps : List Str} {k : Nat} {RX : List Pk → Xn → Prop} (F : Fun K x qual st f fd) (S : FnScope N ps (defScope st)) (hl : ∀ as r, RX as r → as.length = ps.length) (hN : ps.length ≤ N.length)
    (hb : ∀ (cdv : Value) (A : Around) (outer : List Env) (s : Shared) (H : Hp) (E : XK) (as : List Pk) (x : Xn), Room k (A.deeper (PyProof.Rows.envOfC qual (defScope st) s.heap.objs.size f cdv)) → RX as x →
      Ss (cxOf (L2N.CX P w) P w K mg base N qual (defScope st) f cdv A outer s H E) c (fun cls d _ H' => E cls d H') (slots as N.length) (defBody st) { nx := fun _ => False, rt := fun _ _ => False, ex := fun y _ => y = x }) : FnOk P w K mg base (L2N.CX P w) (k + 1) f fd ps (fspX K c RX) := by
  refine okX F S (fun vs H Q E ⟨Hf, as, r, h1, h2, h3, h4⟩ => by rw [h2.len, hl _ _ h3]) fun cdv A outer s H vs Q E hr ⟨Hf, as, x, h1, h2, h3, h4⟩ => ?_
  refine hb cdv A outer s H E as x hr h3 Hf H (L2.start N vs) Hf H (env_start h1 h2 (by rw [hl _ _ h3]; exact hN)) _ ⟨fun _ _ _ _ q => q.elim, fun _ _ _ _ q => q.elim, fun _ _ _ _ q => q.elim, fun _ _ _ _ _ _ q => q.elim, fun y cls dd σ' Γ' Hf' H' q s g r => ?_, fun _ _ _ _ _ _ q => q.elim, fun _ _ _ _ _ _ _ q => q.elim⟩
  have q : y = x := q
  subst q
  exact h4 cls dd _ _ g.stp r
theorem takes_def {N : List Str} {qual : Str} {scope : Scope} {f : Addr} {cdv : Value} {A : Around} {outer : List Env} {s : Shared} {H : Hp} {E : XK} : L2N.Takes (cxOf (L2N.CX P w) P w K mg base N qual scope f cdv A outer s H E) (fun cls d _ H' => E cls d H') :=
  L2N.takes_of rfl rfl rfl rfl
end
/-! ### making and raising -/
def Mkx (X : Cx) (c : CL) (Γ : List Sl) (e : Expr) (x : Xn) : Prop :=
  ∀ (H0f H0 : Hp) (σ : L2.St) (Hf H : Hp), EnvOk X.K c H0f H0 Hf H σ Γ → ∀ Q : XK, (∀ cls dd Hf' H', Stp Hf H Hf' H' → XnOk X.K c Hf' x cls dd → Q cls dd H') → ∃ t, L2N.PMk X e t ∧ t σ H Q
/-- e raises x -/
def Xp (X : Cx) (c : CL) (W : WX) (Γ : List Sl) (e : Expr) (x : Xn) : Prop :=
  ∀ (H0f H0 : Hp) (σ : L2.St) (Hf H : Hp), EnvOk X.K c H0f H0 Hf H σ Γ → (∀ cls dd Hf' H', Stp Hf H Hf' H' → XnOk X.K c Hf' x cls dd → W cls dd σ H') → ∀ Q : VK, wE X e σ H Q
section
variable {X : Cx} {c : CL} {Γ : List Sl} {W : WX} {D : En} {rest : List Stmt} {pos apos p0 : Pos} {x : Xn} {e a o : Expr} {es : List Expr}
theorem ss_raise (hm : Mkx X c Γ e x) (hc : X.calm = true) (tk : L2N.Takes X W) (hx : D.ex x Γ) : Ss X c W Γ (.Raise (some e) none pos :: rest) D := fun _ _ σ Hf H g DD k => by
  obtain ⟨t, h1, h2⟩ := hm _ _ σ Hf H g (fun cls d H' => W cls d σ H') (fun cls dd Hf' H' s r => k.ex x cls dd σ Γ Hf' H' hx s.f (g.step s) r)
  exact ⟨_, pss_cons (L2N.ps_raise hc tk h1) pss_never, h2⟩
theorem ss_setX (i : Nat) {y : Str} {pos' : Pos} (hN : X.N.Nodup) (h : Xp X c W Γ e x) (hx : D.ex x Γ) (hi : X.N[i]? = some y := by rfl) (hl : Loc X.env.scope y := by first | exact .inl rfl | exact .inr rfl)
    (hs : swapsWith e (some (.Name y pos')) pos.line X.env = pure false := by rfl) (hf : X.fn y = true ∨ X.env.scope.names.lookup y = some .local := by first | exact .inl rfl | exact .inr rfl) : Ss X c W Γ (.Assign [.Name y pos'] e pos :: rest) D := fun _ _ σ Hf H g DD k =>
  ⟨_, pss_cons (ps_set hN hi hl pe_w hs hf) pss_never, h _ _ σ Hf H g (fun cls dd Hf' H' s r => k.ex x cls dd σ Γ Hf' H' hx s.f (g.step s) r) _⟩
theorem ss_retX (h : Xp X c W Γ e x) (hx : D.ex x Γ) : Ss X c W Γ (.Return (some e) pos :: rest) D := fun _ _ σ Hf H g DD k =>
  ⟨_, pss_cons (ps_ret pe_w) pss_never, h _ _ σ Hf H g (fun cls dd Hf' H' s r => k.ex x cls dd σ Γ Hf' H' hx s.f (g.step s) r) _⟩
end
end Pv
set_option maxHeartbeats 0
/-! Calls that raise; exceptions of the program's own -/
namespace Pv
open Rp (rp)
open Ow (ow)
open Da (toD)
open PySem L2
section
variable {X : Cx} {pins : List (Addr × Obj)} {σ : L2.St} {H : Hp} {s : Shared} {CI : CXT} {C f : Addr} {fd : FuncData} {ps : List Str} {sp : Sp} {EE : L2.St → XK} {n : Nat}
theorem own_runS {A : Around} {us : List Value} {vs : List V} {Q : VK} (sb : Sub X n A) (F : FnOk X.prog X.w X.K X.mg X.base CI n f fd ps sp) (hb : Binds X.K fd ps []) (hx : PassesAt CI X σ (EE σ)) (I : L2.Inv X pins σ H s) (r : Vals vs us) (h : sp vs H Q (EE σ)) :
    wpAny (model X.prog X.w) A (call (.ref f) us) (EP X pins σ Q) X.xe s := by
  have e0 : Env0 X.prog X.w X.K X.mg X.base A X.stack s H := by
    have e := I.env0
    exact { e with frames := by rw [sb.fr]; exact e.frames }
  have hl : us.length = ps.length := by rw [← r.length]; exact F.len _ _ _ _ h
  have hb' := hb s us I.kIn (by simpa using hl)
  rw [List.append_nil] at hb'
  refine wpAny_call (codeAny_mono (F.run A X.stack s H ⟨us, []⟩ us vs Q (EE σ) sb.room e0 hb' r h) fun r s' hq => ?_)
  cases r with
  | error e => exact hx pins H s e s' I hq
  | ok fl =>
    cases fl with
    | ret w => exact I.after hq
    | next => exact False.elim hq
    | brk => exact False.elim hq
    | cont => exact False.elim hq
theorem ix_ownS {a b : Expr} {ta tb : TE} {pos : Pos} (F : FnOk X.prog X.w X.K X.mg X.base CI n f fd ps sp) (hb : Binds X.K fd ps []) (hx : ∀ σ, PassesAt CI X σ (EE σ)) (hr : Room (n + 1) X.A)
    (hs : PySem.W.findIn X.K (.ref C) "__getitem__" = some (some (.ref f))) (hfn : PySem.W.fnIn X.K f = true) (hf : PySem.W.isFn X.K (.ref f) = true) (ha : PE X a ta) (hb' : PE X b tb)
    (hsl : ∀ o i, subscripted b true o i = runValue (.builtin "lifetime.subscript" ⟨[o, i], []⟩)) : PE X (.Subscript a b pos) (fun σ H Q => tOp (rOwnI C sp (EE σ)) ta tb σ H Q) := by
  refine ⟨fun pins s σ H Q I h => ?_⟩
  refine PyProof.Rows.Subscript_ (binT ha hb' I h fun v u s2 x y H2 I2 rx ry q => ?_)
  obtain ⟨p, dx, fs, rfl, hp, h⟩ := q
  cases rx
  obtain ⟨mA, J, _⟩ := ins_get I2.hok hp
  obtain ⟨od, J, _⟩ := J.look
  obtain ⟨m, hF⟩ := I2.fr
  exact PySem.W.sub_K hF I2.ok.mod.kin J hs hfn hf (own_runS (n := n) (us := [.ref p, u]) (vs := [.ref p, y]) (Sub.in1 ⟨hr, rfl⟩) F hb (hx σ) I2 (.cons rfl (.cons ry .nil)) h) (hsl _ _)
theorem pe_methS {m : Str} {pos apos : Pos} {e o : Expr} {es : List Expr} {ta : TE} {t : TA} {pl : Sem Bool} (he : PE X o ta) (c : Cls X.K C) (hm : Meth X.K C m f) (F : FnOk X.prog X.w X.K X.mg X.base CI n f fd ps sp) (hr : Room n X.A) (hb : Binds X.K fd ps []) (hx : ∀ σ, PassesAt CI X σ (EE σ)) (ha : PA X (e :: es) t)
    (hst : starEach (e :: es) X.env = (false, eval e X.env) :: starEach es X.env) (hpl : (backTo pos (starEach es X.env)).any (·.1) = false)
    (ht : eval (.Call (.Attribute o m apos) (e :: es) [] pos) X.env = (do
      let ov ← eval o X.env
      standAt apos.atName
      let (f, first) ← holding [ov] (getMethod ov m pl)
      callWith pos f first (backTo pos (starEach (e :: es) X.env)) (backToKw pos (keywordEach [] X.env)))) :
    PE X (.Call (.Attribute o m apos) (e :: es) [] pos) (fun σ H Q => ta σ H fun x H1 => ∃ a dx fs, x = .ref a ∧ H1 a = some (.ins C dx fs) ∧ fs.lookup m = none ∧ t σ H1 fun vs H2 => sp (x :: vs) H2 Q (EE σ)) := by
  refine ⟨fun pins s σ H Q I h => ?_⟩
  refine PySem.W.methodCall_KW (thn (he.run pins s σ H _ I h) fun u s1 hu => ?_) ht
  obtain ⟨x, H1, I1, rx, a, dx, fs, rfl, ea, l, q⟩ := hu
  cases rx
  exact getmeth_ok I1 ea c hm l (PySem.W.callWith_K I.ok.mod.kin hm.kp (thn (ha.run pos pins s1 σ H1 _ I1 q) fun us s2 ⟨vs, H2, I2, r, q2⟩ => ⟨I2.kIn, run_fnS F hr hb (hx σ) I2 (Paired.cons (show RelV (V.ref a) (.ref a) from rfl) r) q2⟩) hst hpl)
end
/-- a def of the module that raises -/
structure DfX (P : Program) (w : World) (K : PySem.W.Frag) (mg : Str → Option Value) (base : Heap) (c : CL) (x : Str) (k : Nat) (RX : List Pk → Xn → Prop) : Prop where
  ex : ∃ (f : Addr) (fd : FuncData) (ps : List Str), FnOk P w K mg base (L2N.CX P w) k f fd ps (fspX K c RX) ∧ mg x = some (.ref f) ∧ PySem.W.keepIn K (.ref f) = true ∧ Binds K fd ps []
/-- a method that raises -/
structure MtX (P : Program) (w : World) (K : PySem.W.Frag) (mg : Str → Option Value) (base : Heap) (c : CL) (cls : String) (m : Str) (k : Nat) (RX : List Pk → Xn → Prop) : Prop where
  ex : ∃ (f : Addr) (fd : FuncData) (ps : List Str), FnOk P w K mg base (L2N.CX P w) k f fd ps (fspX K c RX) ∧ Meth K (c cls) m f ∧ PySem.W.fnIn K f = true ∧ Binds K fd ps []
/-- an exception class of the program -/
structure Xcf (P : Program) (w : World) (K : PySem.W.Frag) (mg : Str → Option Value) (base : Heap) (c : CL) (cls : String) (k : Nat) (fls : List Str) (Pr : Hp → List V → Prop) : Prop where
  oex : OexC K (c cls)
  init : ∃ (fI : Addr) (fd : FuncData) (ps : List Str), PySem.W.findIn K (.ref (c cls)) "__init__" = some (some (.ref fI)) ∧ PySem.W.typeIn K (.ref fI) = some (.type "function") ∧ FnOk P w K mg base CX0 k fI fd ps (spE (c cls) Pr fls) ∧ Binds K fd ps []
theorem fr_zip {K : PySem.W.Frag} {c : CL} {Hf : Hp} : ∀ {fls : List Str} {vs : List V} {ps : List Pk}, PkL K c Hf vs ps → FR K c Hf (fls.zip vs) (fls.zip ps)
  | [], _, _, _ => .nil
  | f :: fls, _, _, h => by
    cases h with
    | nil => exact .nil
    | cons h t => exact .cons h (fr_zip t)
theorem FR.app {K : PySem.W.Frag} {c : CL} {Hf : Hp} {a : List (Str × V)} {b : List (Str × Pk)} {a' : List (Str × V)} {b' : List (Str × Pk)} (h : FR K c Hf a b) (h' : FR K c Hf a' b') : FR K c Hf (a ++ a') (b ++ b') := by
  induction h with
  | nil => exact h'
  | cons h t ih => exact .cons h ih
theorem FR.rev {K : PySem.W.Frag} {c : CL} {Hf : Hp} {a : List (Str × V)} {b : List (Str × Pk)} (h : FR K c Hf a b) : FR K c Hf a.reverse b.reverse := by
  induction h with
  | nil => exact .nil
  | cons h t ih => rw [List.reverse_cons, List.reverse_cons]; exact ih.app (.cons h .nil)
section
variable {X : Cx} {c : CL} {Γ : List Sl} {W : WX} {D : En} {rest : List Stmt} {pos apos p0 : Pos} {x : Xn} {e o a b : Expr} {es : List Expr} {γ : Type} [Ob γ] {ob : γ}
theorem mk_own {cls : String} {y : Str} {k : Nat} {fls : List Str} {Pr : Hp → List V → Prop} {as : List Pk} (T : Xcf X.prog X.w X.K X.mg X.base c cls k fls Pr) (hm : X.mg y = some (.ref (c cls))) (hr : Room (k + 1) X.A) (ha : As X c Γ (e :: es) as) (hl : as.length = fls.length)
    (hPr : ∀ Hf H vs, Same Hf H → PkL X.K c Hf vs as → Pr H vs) (hl2 : fls.length ≤ 1000 := by decide) (hg : Gl X y := by rfl) (hdb : (y == ("__debug__" : Str)) = false := by decide)
    (he : starEach (e :: es) X.env = (false, eval e X.env) :: starEach es X.env := by rfl) (hpl : (backTo pos (starEach es X.env)).any (·.1) = false := by rfl) : Mkx X c Γ (.Call (.Name y p0) (e :: es) [] pos) ⟨cls, some (fls.zip as).reverse⟩ := fun _ _ σ Hf H g Q q => by
  obtain ⟨fI, fd, ps, h1, h2, h3, h4⟩ := T.init
  refine ⟨_, pmk_oexN (CX := CX0) T.oex h1 h2 h3 hr h4 pass0 hg hm pa_w hdb he hpl, ha _ _ σ Hf H g _ fun vs Hf1 H1 s1 r1 => ⟨by rw [r1.len]; omega, fun p hp => ?_⟩⟩
  rw [List.append_nil]
  have sm : Same Hf1 (upd H1 p (exo p (c cls) none)) := s1.s.trans (same_new hp)
  refine ⟨p, vs, rfl, by rw [r1.len, hl], hPr _ _ _ sm r1, upd_same, fun d H' hd hne e1 e2 e3 => ⟨rfl, d, _, e1, e2, ?_, ?_⟩⟩
  · rw [upd_ne hne] at hd; exact hd
  · rw [upd_ne hne] at hd
    have eq : upd (L2.del H' p) d (.xd (fls.zip vs).reverse) = upd H1 d (.xd (fls.zip vs).reverse) := by
      funext b
      by_cases q1 : b = d
      · rw [q1, upd_same, upd_same]
      · rw [upd_ne q1, upd_ne q1]
        unfold L2.del
        by_cases q2 : b = p
        · rw [if_pos q2, q2, hp]
        · rw [if_neg q2, e3 b q2 q1, upd_ne q2]
    rw [eq]
    have hdf : Hf1 d = none := s1.s.free hd
    exact q _ _ (upd Hf1 d (.xd (fls.zip vs).reverse)) _ (s1.trans ⟨same_new hdf, same_new hd, fun b o z => by
      by_cases q1 : b = d
      · subst q1; rw [upd_same] at z ⊢; exact z
      · rw [upd_ne q1] at z ⊢; exact s1.s b o z, fun b o z1 z2 n => by
        by_cases q1 : b = d
        · subst q1; rw [hd] at z2; cases z2
        · rw [upd_ne q1]; exact z1⟩) ⟨rfl, d, _, rfl, upd_same, (fr_zip (r1.mono (same_new hdf))).rev⟩
theorem xp_call {y : Str} {k : Nat} {RX : List Pk → Xn → Prop} {as : List Pk} (h : DfX X.prog X.w X.K X.mg X.base c y k RX) (tk : L2N.Takes X W) (hr : Room k X.A) (ha : As X c Γ (e :: es) as) (hR : RX as x) (hg : Gl X y := by rfl) (hdb : (y == ("__debug__" : Str)) = false := by decide)
    (he : starEach (e :: es) X.env = (false, eval e X.env) :: starEach es X.env := by rfl) (hpl : (backTo pos (starEach es X.env)).any (·.1) = false := by rfl) : Xp X c W Γ (.Call (.Name y p0) (e :: es) [] pos) x := fun _ _ σ Hf H g q Q => by
  obtain ⟨f, fd, ps, hF, hm, hk, hb⟩ := h
  exact ⟨_, pe_callS hF hr hg hm hk hb (L2N.passAt tk) pa_w hdb he hpl, ha _ _ σ Hf H g _ fun vs Hf1 H1 s1 r1 => ⟨Hf1, as, x, s1.s, r1, hR, fun cls dd Hf2 H2 s2 r2 => q cls dd Hf2 H2 (s1.trans s2) r2⟩⟩
theorem xp_meth {m : Str} {k : Nat} {RX : List Pk → Xn → Prop} {as : List Pk} {pl : Sem Bool} (T : Kl X.K c γ) (M : MtX X.prog X.w X.K X.mg X.base c (Ob.cls γ) m k RX) (tk : L2N.Takes X W) (hr : Room k X.A) (h : E X c Γ o ob) (ha : As X c Γ (e :: es) as) (hR : RX (⟨ob⟩ :: as) x) (hn : (Ob.fl ob).lookup m = none)
    (hst : starEach (e :: es) X.env = (false, eval e X.env) :: starEach es X.env := by rfl) (hpl : (backTo pos (starEach es X.env)).any (·.1) = false := by rfl)
    (ht : eval (.Call (.Attribute o m apos) (e :: es) [] pos) X.env = (do
      let ov ← eval o X.env
      standAt apos.atName
      let (f, first) ← holding [ov] (getMethod ov m pl)
      callWith pos f first (backTo pos (starEach (e :: es) X.env)) (backToKw pos (keywordEach [] X.env))) := by rfl) : Xp X c W Γ (.Call (.Attribute o m apos) (e :: es) [] pos) x := fun _ _ σ Hf H g q Q => by
  obtain ⟨f, fd, ps, F, mt, _, hb⟩ := M
  refine ⟨_, pe_methS (EE := WE W) pe_w T.cl mt F hr hb (L2N.passAt tk) pa_w hst hpl ht, h _ _ σ Hf H g _ fun v Hf1 H1 s1 r1 => ?_⟩
  obtain ⟨p, dx, fvs, rfl, h1, h2⟩ := Ob.iff.mp r1
  refine ⟨p, dx, fvs, rfl, s1.s _ _ h1, h2.no hn, ha _ _ σ Hf1 H1 (g.step s1) _ fun vs Hf2 H2 s2 r2 => ?_⟩
  exact ⟨Hf2, ⟨ob⟩ :: as, x, s2.s, .cons (Rp.mono s2.f r1) r2, hR, fun cls dd Hf3 H3 s3 r3 => q cls dd Hf3 H3 ((s1.trans s2).trans s3) r3⟩
theorem xp_ix {k : Nat} {RX : List Pk → Xn → Prop} {β : Type} [Rp β] {y : β} (M : MtX X.prog X.w X.K X.mg X.base c (Ob.cls γ) "__getitem__" k RX) (tk : L2N.Takes X W) (hr : Room (k + 1) X.A) (ha : E X c Γ a ob) (hb : E X c Γ b y) (hR : RX [⟨ob⟩, ⟨y⟩] x)
    (hsl : ∀ o i, subscripted b true o i = runValue (.builtin "lifetime.subscript" ⟨[o, i], []⟩) := by intro _ _; with_unfolding_all rfl) : Xp X c W Γ (.Subscript a b pos) x := fun _ _ σ Hf H g q Q => by
  obtain ⟨f, fd, ps, F, mt, hfn, hbi⟩ := M
  refine ⟨_, ix_ownS (EE := WE W) F hbi (L2N.passAt tk) hr mt.at_ hfn mt.fn pe_w pe_w hsl, ha _ _ σ Hf H g _ fun v Hf1 H1 s1 r1 => hb _ _ σ Hf1 H1 (g.step s1) _ fun u Hf2 H2 s2 r2 => ?_⟩
  obtain ⟨p, dx, fvs, rfl, h1, h2⟩ := Ob.iff.mp r1
  exact ⟨p, dx, fvs, rfl, (s1.trans s2).s _ _ (s2.f _ _ h1), Hf2, [⟨ob⟩, ⟨y⟩], x, s2.s, .cons (Rp.mono s2.f r1) (.cons r2 .nil), hR, fun cls dd Hf3 H3 s3 r3 => q cls dd Hf3 H3 ((s1.trans s2).trans s3) r3⟩
end
end Pv
set_option maxHeartbeats 0
/-! try .. except C as e -/
namespace Pv
open Rp (rp)
open Ow (ow)
open Da (toD)
open PySem L2
/-- a caught exception -/
structure Cau (x : Xn) : Type where
  a : Addr
  dd : Option Addr
instance {x : Xn} : Rp (Cau x) := ⟨fun K c H v e => v = .ref e.a ∧ XnOk K c H x (.ref (c x.cls)) e.dd, fun s ⟨h1, h2⟩ => ⟨h1, h2.mono s⟩⟩
section
variable {X : Cx} {c : CL} {Γ : List Sl} {W : WX} {D : En} {rest : List Stmt} {pos apos p0 : Pos}
theorem ss_try (i : Nat) {xc n : Str} {cv : Value} {body suite : List Stmt} {b₀ : Stmt} {np pos' : Pos} (hN : X.N.Nodup) (hc : Names X xc cv) (tk : L2N.Takes X W)
    (hb : ∀ (W' : WX) (pn : List (Addr × Obj)) (xe : Value → Shared → Prop), L2N.Takes (X.tr pn xe) W' → PassesOwn (model X.prog X.w) X.A X.env xe →
      Ss (X.tr pn xe) c W' Γ body { nx := fun Γ' => Ss X c W Γ' rest D, rt := D.rt, bk := D.bk, ct := D.ct, rn := D.rn, ro := D.ro, ex := fun x Γ' =>
        (PySem.W.exmOne X.K (.ref (c x.cls)) cv = some true ∧ ∀ (a : Addr) (oe : Obj) (pn : List (Addr × Obj)) (dd : Option Addr), L2N.Zn (.ref (c x.cls)) dd oe → (∃ vs, oe.data = .fields vs) →
          Ss (X.suite a ((a, oe) :: pn)) c E1 (Γ'.set i (d (Cau.mk (x := x) a dd))) (b₀ :: suite) { nx := fun Γ2 => Ss X c W (Γ2.set i .any) rest D, rt := D.rt, bk := fun Γ2 => D.bk (Γ2.set i .any), ct := fun Γ2 => D.ct (Γ2.set i .any), rn := D.rn, ro := D.ro }) ∨
        (PySem.W.exmOne X.K (.ref (c x.cls)) cv = some false ∧ D.ex x Γ') })
    (hs : X.stack = X.env :: X.outer := by rfl) (hf : X.env.frame = some X.env.locals := by rfl) (hi : X.N[i]? = some n := by rfl) (hln : X.env.kindOf n = some .local := by rfl) :
    Ss X c W Γ (.Try body [.ExceptHandler (some (.Name xc np)) (some n) (b₀ :: suite) pos'] [] [] pos :: rest) D := fun H0f H0 σ Hf H g DD k => by
  refine ⟨_, pss_cons (L2N.ps_try_as (Wout := W)
    (tb := fun W' D σ H => ∀ pn xe, L2N.Takes (X.tr pn xe) W' → PassesOwn (model X.prog X.w) X.A X.env xe → wSs (X.tr pn xe) body D σ H)
    (ts := fun a cls dd D σ H => ∀ oe pn, L2N.Zn cls dd oe → (∃ vs, oe.data = .fields vs) → wSs (X.suite a ((a, oe) :: pn)) (b₀ :: suite) D σ H)
    hs hf hN hi hln hc tk (fun W' pn xe t p => ⟨fun pins s σ H D I h => pss_w.run pins s σ H D I (h pn xe t p)⟩) (fun a oe cls dd pn z f => ⟨fun pins s σ H D I h => pss_w.run pins s σ H D I (h oe pn z f)⟩)) pss_w, ?_⟩
  intro pn xe t p
  refine hb _ pn xe t p _ _ σ Hf H g _ ⟨fun Γ' σ' Hf' H' q s g' => q _ _ σ' Hf' H' g' DD (k.mono s), k.bk, k.ct, k.rt, fun x cls dd σ' Γ' Hf' H' q s g' r => ?_, k.rn, k.ro⟩
  have e1 := r.1
  subst e1
  rcases q with ⟨q1, q2⟩ | ⟨q1, q2⟩
  · refine ⟨true, q1, fun _ a ha oe pn' z f => ?_, fun z => nomatch z⟩
    have ga := g'.set i (a := Cau.mk (x := x) a dd) (v := .ref a) ⟨rfl, r⟩
    have wipe : ∀ {σ2 : L2.St} {Γ2 : List Sl} {Hf2 H2 : Hp}, EnvOk X.K c H0f H0 Hf2 H2 σ2 Γ2 → EnvOk X.K c H0f H0 Hf2 H2 (σ2.set i none) (Γ2.set i .any) := fun g2 => g2.setAny i none .any fun _ _ => trivial
    exact q2 a oe pn' dd z f _ _ _ Hf' H' ga _ ⟨fun Γ2 σ2 Hf2 H2 q s2 g2 => q _ _ _ Hf2 H2 (wipe g2) DD (k.mono (s.trans s2)), fun Γ2 σ2 Hf2 H2 q s2 g2 => k.bk _ _ Hf2 H2 q (s.trans s2) (wipe g2), fun Γ2 σ2 Hf2 H2 q s2 g2 => k.ct _ _ Hf2 H2 q (s.trans s2) (wipe g2),
      fun p Γ2 v σ2 Hf2 H2 q s2 g2 r2 => k.rt p Γ2 v σ2 Hf2 H2 q (s.trans s2) g2 r2, fun _ _ _ _ _ _ _ q => q.elim, fun p n Γ2 σ2 Hf2 H2 q s2 g2 => k.rn p n Γ2 σ2 Hf2 H2 q (s.trans s2) g2, fun b Γ2 v R σ2 Hf2 H2 q s2 g2 => k.ro b Γ2 v R σ2 Hf2 H2 q (s.trans s2) g2⟩
  · exact ⟨false, q1, fun z => (nomatch z), fun _ => k.ex x _ dd σ' Γ' Hf' H' q2 s g' r⟩
/-- nothing raises: the try's end is its body's -/
theorem takes_nox : L2N.Takes X.nox E1 := fun u s' ⟨_, _, _, _, _, _, _, _, _, _, _, _, _, _, _, _, q⟩ => q.elim
end
/-! ### in the suite -/
section
variable {X : Cx} {c : CL} {Γ : List Sl} {W : WX} {D : En} {rest : List Stmt} {pos apos p0 : Pos} {a : Addr} {oe : Obj} {pn : List (Addr × Obj)} {x : Xn} {dd : Option Addr} {e : Expr}
theorem e_xf {f : Str} {fs : List (Str × Pk)} {α : Type} [Rp α] {z : α} (T : XfC X.K (c x.cls)) (hno : PySem.W.findIn X.K (.ref (c x.cls)) f = some none) (hz : L2N.Zn (.ref (c x.cls)) dd oe) (hf : ∃ vs, oe.data = .fields vs) (h : E (X.suite a ((a, oe) :: pn)) c Γ e (Cau.mk (x := x) a dd)) (hx : x.fs = some fs) (hl : fs.lookup f = some ⟨z⟩)
    (hab : attributeBase e f X.env (eval e X.env) = eval e X.env := by rfl) : E (X.suite a ((a, oe) :: pn)) c Γ (.Attribute e f pos) z := fun _ _ σ Hf H g Q q =>
  ⟨_, pe_xf T hno ⟨hz.1, hz.2.1⟩ hf pe_w hab, h _ _ σ Hf H g _ fun v Hf1 H1 s1 ⟨r1, r2⟩ => by
    obtain ⟨_, r3⟩ := r2
    rw [hx] at r3
    obtain ⟨dx, fvs, e1, e2, e3⟩ := r3
    obtain ⟨w, w1, w2⟩ := e3.get hl
    exact ⟨r1, rfl, dx, fvs, w, e1, s1.s _ _ e2, w1, q w Hf1 H1 s1 w2⟩⟩
end
end Pv
set_option maxHeartbeats 0
/-! isinstance(e, C) of a caught exception; calls in a suite -/
namespace Pv
open Rp (rp)
open Ow (ow)
open Da (toD)
open PySem L2
/-- isinstance of the caught exception at a, whose dict stands at dx or that has none -/
def rIsX (K : PySem.W.Frag) (D a : Addr) (dd : Option Addr) : List V → Hp → VK → Prop := fun xs H Q => ∃ (c : V) (cv : Value) (b : Bool), xs = [.ref a, c] ∧ (∀ dx, dd = some dx → ∃ o, H dx = some o) ∧ (∀ u, RelV c u → u = cv) ∧ PySem.W.kitOne K (.ref D) cv = some b ∧ Q (.bl b) H
theorem call_isX {X : Cx} {a D : Addr} {oe : Obj} {pn : List (Addr × Obj)} {dd : Option Addr} (T : ExcC X.K D) (hc : (PySem.W.clsIn X.K D).isSome = true) (hz : L2N.Zn (.ref D) dd oe) (hf : ∃ vs, oe.data = .fields vs) : CallR (X.suite a ((a, oe) :: pn)) (.builtin "isinstance") (rIsX X.K D a dd) := by
  rintro pins s σ H xs us Q I r ⟨cc, cv, b, rfl, hd, hcv, e, q⟩
  cases r with
  | cons rx rr => cases rr with
    | cons rt rn =>
      cases rn
      cases rx
      have ec := hcv _ rt
      subst ec
      obtain ⟨hget, _⟩ := I.pin (a, oe) (List.mem_append.mpr (.inl List.mem_cons_self))
      obtain ⟨vs, hv⟩ := hf
      obtain ⟨od, J⟩ : ∃ od, PySem.W.InstAt s.heap a oe D od := by
        have hno : PySem.W.notCls oe = true := by unfold PySem.W.notCls; rw [hv]
        cases hdd : dd with
        | none => exact ⟨none, hget, hz.1, hno, by rw [hz.2.1, hdd]; trivial⟩
        | some dx =>
          obtain ⟨o, ho⟩ := hd dx hdd
          cases hh : s.heap.get? dx with
          | none => rw [I.hok.gone hh] at ho; cases ho
          | some od => exact ⟨some od, hget, hz.1, hno, by rw [hz.2.1, hdd]; exact hh⟩
      have kx := PySem.W.kitx_exc (K := X.K) (x := a) (C := D) (ox := oe) (od := od) hc T.hg T.hk T.hs T.ha T.hn T.ht T.hm
      exact PySem.W.kia_one kx I.kIn J e (fun z => nomatch z) fun tk => ⟨.bl b, H, I.tok _, rfl, q⟩
section
variable {X : Cx} {c : CL} {Γ : List Sl} {W : WX} {D : En} {rest : List Stmt} {pos apos p0 : Pos} {a : Addr} {oe : Obj} {pn : List (Addr × Obj)} {x : Xn} {dd : Option Addr} {e : Expr} {es : List Expr}
/-- isinstance(e, C), C a class of the program -/
theorem e_isX {f : Str} {r : Bool} {p1 : Pos} {C : Addr} (T : ExcC X.K (c x.cls)) (hcl : (PySem.W.clsIn X.K (c x.cls)).isSome = true) (hz : L2N.Zn (.ref (c x.cls)) dd oe) (hf : ∃ vs, oe.data = .fields vs) (h : E (X.suite a ((a, oe) :: pn)) c Γ e (Cau.mk (x := x) a dd)) (hm : X.mg "isinstance" = none) (hm2 : X.mg f = some (.ref C))
    (hk : PySem.W.kitOne X.K (.ref (c x.cls)) (.ref C) = some r) (hg : Gl X "isinstance" := by rfl) (hg2 : Gl X f := by rfl) (hd : (f == ("__debug__" : Str)) = false := by decide)
    (he : starEach [e, .Name f p1] X.env = (false, eval e X.env) :: starEach [.Name f p1] X.env := by rfl) (he2 : starEach [.Name f p1] X.env = (false, eval (.Name f p1) X.env) :: starEach [] X.env := by rfl) (hpl : (backTo pos (starEach [.Name f p1] X.env)).any (·.1) = false := by rfl) :
    E (X.suite a ((a, oe) :: pn)) c Γ (.Call (.Name "isinstance" p0) [e, .Name f p1] [] pos) r := fun _ _ σ Hf H g Q q =>
  ⟨_, pe_callB (X := X.suite a ((a, oe) :: pn)) (call_isX T hcl hz hf) hg hm (by decide +kernel) (pa_cons pe_w (pa_cons (pe_glob (v := .ref C) hg2 hm2 rfl hd) pa_nil he2) he) (by decide) (by decide) he hpl,
    h _ _ σ Hf H g _ fun v Hf1 H1 s1 ⟨r1, r2⟩ => by
      subst r1
      refine ⟨.ref C, .ref C, r, rfl, fun dx hdx => ?_, fun u hu => hu, hk, q _ Hf1 H1 s1 rfl⟩
      obtain ⟨_, r3⟩ := r2
      cases hxf : x.fs with
      | none => rw [hxf] at r3; have r3 : dd = none := r3; rw [r3] at hdx; cases hdx
      | some fs =>
        rw [hxf] at r3
        obtain ⟨dy, fvs, e1, e2, _⟩ := r3
        have e1 : dd = some dy := e1
        rw [hdx] at e1
        cases e1
        exact ⟨_, s1.s _ _ e2⟩⟩
/-- isinstance(e, ValueError) and the like -/
theorem e_isXb {f m : String} {r : Bool} {p1 : Pos} (T : ExcC X.K (c x.cls)) (hcl : (PySem.W.clsIn X.K (c x.cls)).isSome = true) (hz : L2N.Zn (.ref (c x.cls)) dd oe) (hf : ∃ vs, oe.data = .fields vs) (h : E (X.suite a ((a, oe) :: pn)) c Γ e (Cau.mk (x := x) a dd)) (hm : X.mg "isinstance" = none) (hm2 : X.mg (f : Str) = none) (hfb : bootBuiltins (f : Str) = some (.type m))
    (hk : PySem.W.kitOne X.K (.ref (c x.cls)) (.type m) = some r) (hg : Gl X "isinstance" := by rfl) (hg2 : Gl X (f : Str) := by rfl) (hn : (f : Str) ≠ "__name__" := by decide) (hd : ((f : Str) == ("__debug__" : Str)) = false := by decide)
    (he : starEach [e, .Name (f : Str) p1] X.env = (false, eval e X.env) :: starEach [.Name (f : Str) p1] X.env := by rfl) (he2 : starEach [.Name (f : Str) p1] X.env = (false, eval (.Name (f : Str) p1) X.env) :: starEach [] X.env := by rfl) (hpl : (backTo pos (starEach [.Name (f : Str) p1] X.env)).any (·.1) = false := by rfl) :
    E (X.suite a ((a, oe) :: pn)) c Γ (.Call (.Name "isinstance" p0) [e, .Name (f : Str) p1] [] pos) r := fun _ _ σ Hf H g Q q =>
  ⟨_, pe_callB (X := X.suite a ((a, oe) :: pn)) (call_isX T hcl hz hf) hg hm (by decide +kernel) (pa_cons pe_w (pa_cons (pe_bltn (v := .ty m) hg2 hm2 hfb rfl hn hd) pa_nil he2) he) (by decide) (by decide) he hpl,
    h _ _ σ Hf H g _ fun v Hf1 H1 s1 ⟨r1, r2⟩ => by
      subst r1
      refine ⟨.ty m, .type m, r, rfl, fun dx hdx => ?_, fun u hu => hu, hk, q _ Hf1 H1 s1 rfl⟩
      obtain ⟨_, r3⟩ := r2
      cases hxf : x.fs with
      | none => rw [hxf] at r3; have r3 : dd = none := r3; rw [r3] at hdx; cases hdx
      | some fs =>
        rw [hxf] at r3
        obtain ⟨dy, fvs, e1, e2, _⟩ := r3
        have e1 : dd = some dy := e1
        rw [hdx] at e1
        cases e1
        exact ⟨_, s1.s _ _ e2⟩⟩
end
/-! ### calls in a suite -/
/-- a def as a suite calls it -/
structure DfH (P : Program) (w : World) (K : PySem.W.Frag) (mg : Str → Option Value) (base : Heap) (c : CL) (x : Str) (k : Nat) (R : List Pk → Pk → Prop) : Prop where
  ex : ∃ (f : Addr) (fd : FuncData) (ps : List Str), L2H.FnH P w K mg base CX0 k f fd ps (fsp K c R) ∧ mg x = some (.ref f) ∧ PySem.W.keepIn K (.ref f) = true ∧ Binds K fd ps []
section
variable {P : Program} {w : World} {K : PySem.W.Frag} {mg : Str → Option Value} {base : Heap} {c : CL}
theorem def_okH {x qual : Str} {st : Stmt} {f : Addr} {fd : FuncData} {N ps : List Str} {k : Nat} {R : List Pk → Pk → Prop} (F : Fun K x qual st f fd) (S : FnScope N ps (defScope st)) (hl : ∀ as r, R as r → as.length = ps.length) (hN : ps.length ≤ N.length)
    (hb : ∀ (cdv : Value) (A : Around) (outer : List Env) (s : Shared) (H : Hp) (E : XK) (p : Addr × Obj) (as : List Pk) (r : Pk), L2H.RoomH k (A.deeper (PyProof.Rows.envOfC qual (defScope st) s.heap.objs.size f cdv)) → R as r →
      Ss (L2H.cxH CX0 P w K mg base N qual (defScope st) f cdv A outer s H E p) c E1 (slots as N.length) (defBody st) { nx := fun _ => r = ⟨()⟩, rt := fun q _ => q = r }) : L2H.FnH P w K mg base CX0 (k + 1) f fd ps (fsp K c R) := by
  obtain ⟨oc, od, kV, doc, pm, an, cdv, ct, osl, rfl, hK, hcd⟩ := F.ex
  have z := L2H.fn_ofH (CX := CX0) (P := P) (w := w) (mg := mg) (base := base) (k := k) (sp := fsp K c R) (dV := .none) hK hcd S (fun vs H Q E ⟨Hf, as, r, h1, h2, h3, h4⟩ => by rw [h2.len, hl _ _ h3]) (fun A outer s H vs Q E p hot hr ⟨Hf, as, r, h1, h2, h3, h4⟩ => by
    refine hb cdv A outer s H E p as r hr h3 Hf H (L2.start N vs) Hf H (env_start h1 h2 (by rw [hl _ _ h3]; exact hN)) _ ⟨fun Γ' σ' Hf' H' q s g => ?_, fun _ _ _ _ q => q.elim, fun _ _ _ _ q => q.elim, fun p Γ' v σ' Hf' H' q s g z => ?_, fun _ _ _ _ _ _ _ q => q.elim, fun _ _ _ _ _ _ q => q.elim, fun _ _ _ _ _ _ _ q => q.elim⟩
    · have q : r = ⟨()⟩ := q
      subst q
      exact h4 .non _ _ g.stp rfl
    · have q : p = r := q
      subst q
      exact h4 v _ _ g.stp z)
  exact z
end
section
variable {X : Cx} {c : CL} {Γ : List Sl} {e : Expr} {es : List Expr} {pos p0 : Pos} {a : Addr} {oe : Obj} {pn : List (Addr × Obj)}
theorem hot_suite {dd : Option Addr} {cls : Value} (hz : L2N.Zn cls dd oe) (hf : ∃ vs, oe.data = .fields vs) : L2H.HotC (X.suite a ((a, oe) :: pn)) := by
  obtain ⟨vs, hv⟩ := hf
  exact ⟨(a, oe), ⟨rfl, vs, hv, hz.2.2 vs hv⟩, List.mem_cons_self⟩
theorem e_callH {x : Str} {k : Nat} {R : List Pk → Pk → Prop} {as : List Pk} {α : Type} [Rp α] {z : α} (h : DfH X.prog X.w X.K X.mg X.base c x k R) (hr : L2H.RoomH k X.A) (hot : L2H.HotC X) (ha : As X c Γ (e :: es) as) (hR : R as ⟨z⟩) (hg : Gl X x := by rfl) (hdb : (x == ("__debug__" : Str)) = false := by decide)
    (he : starEach (e :: es) X.env = (false, eval e X.env) :: starEach es X.env := by rfl) (hpl : (backTo pos (starEach es X.env)).any (·.1) = false := by rfl) : E X c Γ (.Call (.Name x p0) (e :: es) [] pos) z := fun _ _ σ Hf H g Q q => by
  obtain ⟨f, fd, ps, hF, hm, hk, hb⟩ := h
  refine ⟨_, L2H.pe_callH (E := fun _ => E0) hF hr hot hg hm hk hb (fun σ pins H s e s' I h => False.elim h) pa_w hdb he hpl, ha _ _ σ Hf H g _ fun vs Hf1 H1 s1 r1 => ?_⟩
  exact ⟨Hf1, as, ⟨z⟩, s1.s, r1, hR, fun v Hf2 H2 s2 r2 => q v Hf2 H2 (s1.trans s2) r2⟩
end
end Pv
set_option maxHeartbeats 0
/-! enumerate of a tuple -/
namespace Pv
open Rp (rp)
open Ow (ow)
open Da (toD)
open PySem L2
theorem newF {vs : Array Value} {n : String} (hv : vs.size ≤ 1000) : newObj (.type n) (.fields vs) = (do let a ← alloc { cls := .type n, data := .fields vs }; pure (.ref a)) := by
  unfold newObj
  show (if vs.size > sizeLine + 2 then _ else _) = _
  rw [if_neg (by rw [sizeLine_eq]; omega)]
  rfl
theorem meets_T (t : Addr) (o : Obj) (H : Heap → Prop) (B : Begins (.ref t) o H) : Meets (Builtin.«enumerate.__new__» { pos := [.type "enumerate", .ref t] }) fun x R s => H s.heap ∧ R (.ok (.ret (.ref (s.heap.push o).objs.size))) { heap := (s.heap.push o).push { cls := .type "enumerate", data := .fields #[.none, .bool false, .ref s.heap.objs.size, rawInt 0, .none, .none] }, gens := s.gens, drawn := s.drawn, toks := s.toks, os := s.os } :=
  Meets.of_wp fun prog w A R s h => by
    obtain ⟨hp, g, d, tk, os⟩ := s
    obtain ⟨hl, h⟩ := h
    have hsub := sub_enumerate
    refine wpAny_bind ?_
    show wpAny _ _ (_ >>= _) _ _ _
    refine wpAny_bind ?_
    refine wpAny_pure ?_
    refine wpAny_ite_false rfl ?_
    refine wpAny_bind ?_
    refine wpAny_of_eq hsub ?_
    refine wpAny_ite_false rfl ?_
    refine wpAny_pure ?_
    refine wpAny_ite_true rfl ?_
    refine wpAny_bind ?_
    show wpAny _ _ (_ >>= _) _ _ _
    refine wpAny_bind ?_
    refine wpAny_stack_any fun st => ?_
    refine wpAny_pure ?_
    split
    · rename_i c tail kw snd tl hx
      generalize (c == Value.type "enumerate") = short
      cases short
      · refine wpAny_ite_false rfl ?_
        refine wpAny_bind ?_
        refine wpAny_pure ?_
        refine wpAny_bind ?_
        refine B.iter _ _ _ _ _ _ hl ?_
        refine wpAny_bind ?_
        show wpAny _ _ (newObj (Value.type "enumerate") (Data.fields (Builtin.SmallTypes.ownedTupleFields ++ [Value.ref hp.objs.size, rawInt 0, Value.none, Value.none]).toArray)) _ _ _
        rw [newF (Nat.le_of_ble_eq_true rfl)]
        refine wpAny_bind (wpAny_alloc' (wpAny_pure ?_))
        exact wpAny_pure ⟨_, rfl, h⟩
      · refine wpAny_ite_true rfl ?_
        refine wpAny_bind ?_
        refine wpAny_pure ?_
        refine wpAny_bind ?_
        refine B.iter _ _ _ _ _ _ hl ?_
        refine wpAny_bind ?_
        show wpAny _ _ (newObj (Value.type "enumerate") (Data.fields (Builtin.SmallTypes.ownedTupleFields ++ [Value.ref hp.objs.size, rawInt 0, Value.none, Value.none]).toArray)) _ _ _
        rw [newF (Nat.le_of_ble_eq_true rfl)]
        refine wpAny_bind (wpAny_alloc' (wpAny_pure ?_))
        exact wpAny_pure ⟨_, rfl, h⟩
    · refine wpAny_ite_false rfl ?_
      refine wpAny_bind ?_
      refine wpAny_pure ?_
      refine wpAny_bind ?_
      refine B.iter _ _ _ _ _ _ hl ?_
      refine wpAny_bind ?_
      show wpAny _ _ (newObj (Value.type "enumerate") (Data.fields (Builtin.SmallTypes.ownedTupleFields ++ [Value.ref hp.objs.size, rawInt 0, Value.none, Value.none]).toArray)) _ _ _
      rw [newF (Nat.le_of_ble_eq_true rfl)]
      refine wpAny_bind (wpAny_alloc' (wpAny_pure ?_))
      exact wpAny_pure ⟨_, rfl, h⟩

theorem call_enum_T {prog : Program} {w : World} {A : Around} {E : Value → Shared → Prop} {s : Shared} {Q : Value → Shared → Prop} {t : Addr} {o : Obj} {H : Heap → Prop} (B : Begins (.ref t) o H) (h1 : H s.heap)
    (h : ∀ h' : Heap, IsEnum h' (s.heap.objs.size + 1) s.heap.objs.size 0 .none → h'.get? s.heap.objs.size = some o → (∀ b o, s.heap.get? b = some o → h'.get? b = some o) → Q (.ref (s.heap.objs.size + 1)) ⟨h', s.gens, s.drawn, s.toks, s.os⟩) : wpAny (model prog w) A (call (.type "enumerate") [.ref t]) Q E s := by
  refine callType_new F.called_enumerate (by decide) (F.typeCall_enumerate_1 (.ref t)) (F.newCall_enumerate_1 (.ref t)) (fun obj => F.args_object_init_2 obj (.ref t)) F.entry_enumerate_new (meets_T t o H B) ⟨h1, ?_⟩
  have hz := Heap.size_push s.heap o
  show Shared.TypeIs _ (.ref (s.heap.push o).objs.size) "enumerate" ∧ Q (.ref (s.heap.push o).objs.size) _
  rw [hz]
  have he := Heap.get?_push_size (s.heap.push o) (o := { cls := .type "enumerate", data := .fields #[.none, .bool false, .ref s.heap.objs.size, rawInt 0, .none, .none] }) rfl
  rw [hz] at he
  exact ⟨⟨_, he, rfl⟩, h _ he (Heap.get?_push_of_some _ (Heap.get?_push_size s.heap B.free)) fun b o' x => Heap.get?_push_of_some _ (Heap.get?_push_of_some o x)⟩
def IteT (K : PySem.W.Frag) (a : Addr) : It where
  go := fun i H => ∃ xs x, SqT K H a xs ∧ xs[i]? = some x
  yld := fun i H v H' => ∃ T x, v = V.ref T ∧ H T = none ∧ H' = upd H T (.tup [.int (i : Int), x]) ∧ ∀ xs, SqT K H a xs → xs[i]? = some x
  stop := fun i H => ∃ xs, SqT K H a xs ∧ xs.length = i
theorem turn_enumT {P : Program} {w : World} {K : PySem.W.Frag} {elts : List Expr} {kk : Nat} {tpos : Pos} (a e it : Addr) :
    Turn P w K (.Tuple elts kk tpos) (IteT K a) [e, it] e fun i h => (∃ old, IsEnum h e it (i : Int) old) ∧ h.IsTupleIter it a i ∧ e ≠ it where
  mem := List.mem_cons_self
  obj := fun i h ⟨⟨old, he⟩, ⟨o, ho, _, hd⟩, _⟩ b hb => by
    rcases List.mem_cons.mp hb with rfl | hb
    · exact ⟨_, he, fun v q => nomatch q⟩
    · rw [List.mem_singleton.mp hb]
      exact ⟨o, ho, fun v q => by rw [hd] at q; cases q⟩
  keep := fun i h h' ⟨⟨old, he⟩, hi, hne⟩ k => ⟨⟨old, k e List.mem_cons_self _ he⟩, hi.at fun o q => k it (List.mem_cons_of_mem _ List.mem_cons_self) o q, hne⟩
  item := fun X hP hw hK hc i pins s σ H E I hf st hg => by
    subst hP hw hK
    obtain ⟨⟨old, he⟩, hit, hne⟩ := st
    obtain ⟨xs, x, hq, hx⟩ := hg
    obtain ⟨its, rv, p, hz⟩ := I.tuple hq
    obtain ⟨u, hu, ru⟩ := rv.get hx
    obtain ⟨oi, hoi, hci, hdi⟩ := hit
    have hit : s.heap.IsTupleIter it a i := ⟨oi, hoi, hci, hdi⟩
    have hel := Heap.lt_size he
    have hil := Heap.lt_size hoi
    have hit2 : s.heap.IsTuple a its.toArray := p
    obtain ⟨oa, hoa, hca, hda⟩ := p
    have n1 : a ≠ it := fun z => by subst z; rw [hoi] at hoa; cases hoa; rw [hci] at hca; exact absurd (Value.type.inj hca) (by decide)
    have n2 : e ≠ a := fun z => by subst z; rw [he] at hoa; cases hoa; exact absurd (Value.type.inj hca) (by decide)
    have D := Draws.tuple (prog := X.prog) (w := X.w) (A := X.A.in1) (I.ok.hd hc) it a n1 its.toArray
    have hi : i < its.length := (List.getElem?_eq_some_iff.mp hu).1
    refine wpAny_pyNext_enum_itemD D he ⟨hit, hit2⟩ (by simpa using hi) hne (by simp [hne, n2]) fun x' h' tk hx' ho hst hT hsz hk => ?_
    have hu' : x' = u := by
      have : its.toArray[i]? = some x' := hx'
      rw [List.getElem?_toArray, hu] at this
      exact (Option.some.inj this).symm
    subst hu'
    refine ⟨_, rfl, wpAny_letOwnedTupleGo_enum ho fun h'' he' sb => ?_⟩
    have hT2 := (sb.2 s.heap.objs.size (Nat.ne_of_gt hel)).trans hT
    have new : ObjOk X.prog X.w (upd H s.heap.objs.size (.tup [.int (i : Int), x])) h'' s.heap.objs.size (.tup [.int (i : Int), x]) := ⟨by show 2 ≤ sizeLine; decide, [.int i tk, x'], .cons ⟨tk, rfl⟩ (.cons ru .nil), ⟨_, hT2, rfl, 0, rfl⟩⟩
    have I1 := Inv.turnedNew (t' := tk + 1) I (fun b ob hb q => (sb.2 b fun z => hb (by rw [z]; exact List.mem_cons_self)).trans (hk b ob (fun z => hb (by rw [z]; exact List.mem_cons_self)) (fun z => hb (by rw [z]; exact List.mem_cons_of_mem _ List.mem_cons_self)) q)) hf (Nat.le_refl _) new
    refine ⟨.ref s.heap.objs.size, _, I1, rfl, ⟨s.heap.objs.size, x, rfl, I.hok.fresh (Nat.le_refl _), rfl, fun ys hy => by rw [I.tuple_inj hy hq]; exact hx⟩, ⟨⟨x', ?_⟩, hst.1.at fun o q => (sb.2 it hne.symm).trans q, hne⟩, fun b hb => ?_⟩
    · have e1 : (((i + 1 : Nat)) : Int) = (i : Int) + 1 := by omega
      rw [e1]
      exact he'
    · have hb' : b < s.heap.objs.size := by
        rcases List.mem_cons.mp hb with rfl | hb
        · exact hel
        · rw [List.mem_singleton.mp hb]; exact hil
      rw [upd_ne (Nat.ne_of_lt hb')]
      exact (hf b hb).1
  done := fun X hP hw hK hc i pins s σ H E I hf st hg => by
    subst hP hw hK
    obtain ⟨⟨old, he⟩, hit, hne⟩ := st
    obtain ⟨xs, hq, hx⟩ := hg
    obtain ⟨its, rv, p, hz⟩ := I.tuple hq
    obtain ⟨f0, f1, f2, f3, f4, f5⟩ := hf it (List.mem_cons_of_mem _ List.mem_cons_self)
    obtain ⟨oi, hoi, hci, hdi⟩ := hit
    have hit : s.heap.IsTupleIter it a i := ⟨oi, hoi, hci, hdi⟩
    have hit2 : s.heap.IsTuple a its.toArray := p
    obtain ⟨oa, hoa, hca, hda⟩ := p
    have n1 : a ≠ it := fun z => by subst z; rw [hoi] at hoa; cases hoa; rw [hci] at hca; exact absurd (Value.type.inj hca) (by decide)
    have D := Draws.tuple (prog := X.prog) (w := X.w) (A := X.A.in1) (I.ok.hd hc) it a n1 its.toArray
    have hi : i = its.toArray.size := by have := rv.length; simp; omega
    refine wpAny_pyNext_enum_endD D he ⟨by rw [← hi]; exact hit, hit2⟩ fun h' eb => ⟨rfl, Inv.turned I (fun b o hb q => eb b o hb q) f0 f1 f3 f4 f5⟩
  self := fun A i s Q E ⟨⟨_, he⟩, _⟩ h => wpAny_pyIter_enum he h
theorem pi_enumT {X : Cx} {elts : List Expr} {kk : Nat} {tpos p pos : Pos} {e : Expr} {ta : TA} (hg : Gl X "enumerate") (hm : X.mg "enumerate" = none) (ha : PA X [e] ta) (hs : starEach [e] X.env = [(false, eval e X.env)]) :
    PI X (.Tuple elts kk tpos) (.Call (.Name "enumerate" p) [e] [] pos) (fun σ H R => ta σ H fun vs H1 => ∃ a xs, vs = [.ref a] ∧ SqT X.K H1 a xs ∧ R (IteT X.K a) H1) := ⟨fun pins s σ H R I h => by
  refine PyProof.Rows.Call_ (ld_blt I hg hm PyProof.Rows.boot_enumerate (PyProof.Rows.callWith_type1 (thn (ha.run pos pins s σ H _ I h) fun us s1 ⟨vs, H1, I1, r1, a, xs, e1, hq, q⟩ => ?_) (by rw [hs]; rfl) (by rfl)))
  subst e1
  cases r1 with
  | cons r rr =>
    cases rr
    cases r
    obtain ⟨its, rv, p', hz⟩ := I1.tuple hq
    refine call_enum_T (begins_tuple a its.toArray) p' fun h' he ho hk => ?_
    refine wpAny_pyIter_enum he ?_
    have I2 := I1.kept (t' := s1.toks) hk
    refine ⟨s1.heap.objs.size + 1, [s1.heap.objs.size + 1, s1.heap.objs.size], _, IteT X.K a, H1, rfl, I2, turn_enumT a _ _, ⟨⟨_, he⟩, ⟨_, ho, rfl, rfl⟩, Nat.succ_ne_self _⟩, fun b hb => ?_, q⟩
    have hle : s1.heap.objs.size ≤ b := by
      rcases List.mem_cons.mp hb with rfl | hb
      · exact Nat.le_succ _
      · rw [List.mem_singleton.mp hb]; exact Nat.le_refl _
    exact Inv.fpOk I1 hle (I1.hok.fresh hle)⟩
/-- a tuple of two things of unlike kinds -/
structure Duo (α β : Type) where
  a : α
  b : β
instance {α β : Type} [Rp α] [Rp β] : Rp (Duo α β) := ⟨fun K c H v x => ∃ p u w, v = .ref p ∧ H p = some (.tup [u, w]) ∧ Rp.rp K c H u x.a ∧ Rp.rp K c H w x.b, fun s ⟨p, u, w, h1, h2, h3, h4⟩ => ⟨p, u, w, h1, s _ _ h2, Rp.mono s h3, Rp.mono s h4⟩⟩
/-- what enumerate gives -/
def nums {α : Type} (xs : List α) : List (Duo Int α) := xs.zipIdx.map fun p => ⟨(p.2 : Int), p.1⟩
theorem nums_len {α : Type} {xs : List α} : (nums xs).length = xs.length := by unfold nums; rw [List.length_map, List.length_zipIdx]
theorem nums_get {α : Type} {xs : List α} {i : Nat} {a : α} (h : xs[i]? = some a) : (nums xs)[i]? = some ⟨(i : Int), a⟩ := by
  unfold nums
  rw [List.getElem?_map, List.getElem?_zipIdx, h]
  show some (Duo.mk (((0 + i : Nat)) : Int) a) = _
  rw [Nat.zero_add]
section
variable {X : Cx} {c : CL} {Γ : List Sl} {α β : Type} [Rp α] [Rp β] {K : PySem.W.Frag}
theorem wk_enumT {Hw : Hp} {p : Addr} {vs : List V} {xs : List α} (h : SqT K Hw p vs) (r : RpL K c Hw vs xs) : Wk K c Hw (IteT K p) (nums xs) where
  stop := fun H s => ⟨vs, sqT_same s h, by rw [r.len, nums_len]⟩
  go := fun i H hi s => ⟨vs, vs[i]'(by rw [r.len]; rwa [nums_len] at hi), sqT_same s h, List.getElem?_eq_getElem (by rw [r.len]; rwa [nums_len] at hi)⟩
  yld := fun i Hf H x H' s1 s2 hi ⟨T, y, e, hT, eH, hall⟩ => by
    subst e eH
    obtain ⟨a, h1, h2⟩ := paired_get r (hall vs (sqT_same (s1.trans s2) h))
    have hTf : Hf T = none := s2.free hT
    have sm := same_new (H := Hf) (p := T) (o := HO.tup [.int (i : Int), y]) hTf
    refine ⟨upd Hf T (.tup [.int (i : Int), y]), ⟨sm, same_new hT, fun b o z => ?_, fun b o z1 z2 n => ?_⟩, ⟨(i : Int), a⟩, nums_get h1, T, .int (i : Int), y, rfl, upd_same, rfl, Rp.mono sm (Rp.mono s1 h2)⟩
    · by_cases q1 : b = T
      · subst q1; rw [upd_same] at z ⊢; exact z
      · rw [upd_ne q1] at z ⊢; exact s2 b o z
    · by_cases q1 : b = T
      · subst q1; rw [hT] at z2; cases z2
      · rw [upd_ne q1]; exact z1
theorem i_enumT {elts : List Expr} {kk : Nat} {tpos p pos : Pos} {e : Expr} {t : Tup α} (h : E X c Γ e t) (hm : X.mg "enumerate" = none) (hg : Gl X "enumerate" := by rfl) (hs : starEach [e] X.env = [(false, eval e X.env)] := by rfl) : I X c Γ (.Tuple elts kk tpos) (.Call (.Name "enumerate" p) [e] [] pos) (nums t.l) := fun _ _ σ Hf H g R k =>
  ⟨_, pi_enumT hg hm (pa_cons pe_w pa_nil (by rw [hs]; rfl)) hs, h _ _ σ Hf H g _ fun v Hf1 H1 s1 r1 => by
    obtain ⟨p, vs, rfl, h2, h3⟩ := r1
    exact ⟨p, vs, rfl, sqT_of (s1.s _ _ h2), k _ Hf1 H1 s1 (wk_enumT (sqT_of h2) h3)⟩⟩
theorem g_duo {a : α} {b : β} {t1 t2 : Expr} {k : Nat} {pos : Pos} {ts1 ts2 : List Nat} {f1 f2 : List Sl → List Sl} (hc : X.calm = true) (h1 : G X c t1 a ts1 f1) (h2 : G X c t2 b ts2 f2)
    (hn : (assignEach [t1, t2] X.env).length = 2 := by rfl) (hst : (assignEach [t1, t2] X.env).findIdx? (·.1) = none := by rfl)
    (e1 : (assignEach [t1, t2] X.env).map (·.2) = assign t1 X.env :: (assignEach [t2] X.env).map (·.2) := by rfl) (e2 : (assignEach [t2] X.env).map (·.2) = assign t2 X.env :: (assignEach [] X.env).map (·.2) := by rfl) :
    G X c (.Tuple [t1, t2] k pos) (Duo.mk a b) (ts1 ++ ts2) (fun Γ => f2 (f1 Γ)) := fun Γ H0f H0 σ Hf H g v r Q q => by
  refine ⟨_, pg_tup hc (pgs_cons pg_w (pgs_cons pg_w pgs_nil e2) e1) hn hst, ?_⟩
  obtain ⟨p, u, w, rfl, s1, ra, rb⟩ := r
  exact ⟨p, _, rfl, sqT_of (g.same _ _ s1), rfl, _, _, rfl, h1 Γ _ _ σ Hf H g _ ra _ fun σ1 g1 w1 => ⟨_, _, rfl, h2 _ _ _ σ1 Hf H (g1 _ _ _ g) _ rb _ fun σ2 g2 w2 => ⟨rfl, q σ2 (fun _ _ _ z => g2 _ _ _ (g1 _ _ _ z)) (w1.trans w2)⟩⟩⟩
end
end Pv
set_option maxHeartbeats 0
namespace Pv
open Rp (rp)
open Ow (ow)
open Da (toD)
open PySem L2
/-- what a suite asks of the class of what it caught -/
structure Xi (K : PySem.W.Frag) (c : CL) (cls : String) : Prop where
  xf : XfC K (c cls)
  exc : ExcC K (c cls)
  cl : (PySem.W.clsIn K (c cls)).isSome = true
  exm : PySem.W.exmOne K (.ref (c cls)) (.ref (c cls)) = some true
/-- arguments that are one small number -/
def PrI : Hp → List V → Prop := fun _ ws => ∃ i : Int, ws = [.int i] ∧ i.natAbs.log2 < 1920
theorem log2_lt {n k : Nat} (h : n < 2 ^ k) (hk : 0 < k) : n.log2 < k := by
  by_cases h0 : n = 0
  · subst h0; simpa using hk
  · exact (Nat.log2_lt h0).mpr h
theorem small_log {i : Int} (h : i.natAbs < 100000000000) : i.natAbs.log2 < 1920 :=
  Nat.lt_of_lt_of_le (log2_lt (k := 64) (Nat.lt_of_lt_of_le h (by decide)) (by decide)) (by decide)
theorem prI_of {K : PySem.W.Frag} {c : CL} {i : Int} (hi : i.natAbs < 100000000000) : ∀ Hf H vs, Same Hf H → PkL K c Hf vs [⟨i⟩] → PrI H vs := fun Hf H vs _ r => by
  obtain ⟨v, rfl, hv⟩ := pkl1 r
  exact ⟨i, by rw [show v = V.int i from hv], small_log hi⟩
theorem fs_go {X : Cx} {σ : L2.St} {H : Hp} {v1 v2 : Expr} {vs : List Expr} {n : Nat} {pos : Pos} {Q : List V → Hp → Prop} (h : FS X σ H (v1 :: v2 :: vs) n) (hn : n ≤ sizeLine) (q : ∀ u, Q [u] H) (he : starEach [Expr.JoinedStr (v1 :: v2 :: vs) pos] X.env = (false, eval (Expr.JoinedStr (v1 :: v2 :: vs) pos) X.env) :: starEach [] X.env := by rfl) :
    ∃ ta, PA X [.JoinedStr (v1 :: v2 :: vs) pos] ta ∧ ta σ H Q := by
  obtain ⟨ta, h1, h2⟩ := fs_arg h hn he
  exact ⟨ta, h1, h2 Q q⟩
theorem room_mark {k : Nat} {A : Around} (h : Room k A) (v : Option Value) : L2H.RoomH k (A.mark v) := ⟨h.dp, h.un⟩
def PrI2 : Hp → List V → Prop := fun _ ws => ∃ i j : Int, ws = [.int i, .int j] ∧ i.natAbs.log2 < 1920 ∧ j.natAbs.log2 < 1920
theorem prI2_of {K : PySem.W.Frag} {c : CL} {i j : Int} (hi : i.natAbs < 100000000000) (hj : j.natAbs < 100000000000) : ∀ Hf H vs, Same Hf H → PkL K c Hf vs [⟨i⟩, ⟨j⟩] → PrI2 H vs := fun Hf H vs _ r => by
  cases r with
  | cons h t =>
    obtain ⟨v, rfl, hv⟩ := pkl1 t
    exact ⟨i, j, by rw [show _ = V.int i from h, show v = V.int j from hv], small_log hi, small_log hj⟩
end Pv
set_option maxHeartbeats 0
/-! Dicts with tuple keys that a def makes and fills -/
namespace Pv
open Rp (rp)
open Ow (ow)
open Da (toD)
open PySem L2
structure OwD (α : Type) : Type 1 where
  l : List (List Int × α)
structure OwF (α : Type) : Type 1 where
  l : List (List Int × α)
instance {α : Type} [Rp α] : Ow (OwD α) where
  ow := fun K c Hf H R v b => ∃ p kvs, v = .ref p ∧ R = [p] ∧ H p = some (.dT kvs) ∧ DR K c Hf kvs b.l
  stay := fun s e ⟨p, kvs, h1, h2, h3, h4⟩ => ⟨p, kvs, h1, h2, by rw [e p (by rw [h2]; exact List.mem_cons_self)]; exact h3, h4.mono s⟩
  here := fun ⟨p, kvs, h1, h2, h3, h4⟩ a ha => by rw [h2] at ha; rw [List.mem_singleton.mp ha]; exact ⟨_, h3, trivial⟩
instance {α : Type} [Rp α] : Ow (OwF α) where
  ow := fun K c Hf H R v b => ∃ p od kvs, v = .ref p ∧ R = [p] ∧ H p = some (.frz od (.dT kvs)) ∧ DR K c Hf kvs b.l
  stay := fun s e ⟨p, od, kvs, h1, h2, h3, h4⟩ => ⟨p, od, kvs, h1, h2, by rw [e p (by rw [h2]; exact List.mem_cons_self)]; exact h3, h4.mono s⟩
  here := fun ⟨p, od, kvs, h1, h2, h3, h4⟩ a ha => by rw [h2] at ha; rw [List.mem_singleton.mp ha]; exact ⟨_, h3, trivial⟩
section
variable {X : Cx} {c : CL} {Γ : List Sl} {W : WX} {D : En} {rest : List Stmt} {pos p0 : Pos} {α : Type} [Rp α] {l : List (List Int × α)}
/-- x = {} -/
theorem ss_newDt (i : Nat) (α : Type) [Rp α] {x : Str} {pos' p2 : Pos} (hN : X.N.Nodup) (hr : Ss X c W (Γ.set i (.own (OwD.mk ([] : List (List Int × α))))) rest D) (hi : X.N[i]? = some x := by rfl) (hx : Loc X.env.scope x := by first | exact .inl rfl | exact .inr rfl)
    (hs : swapsWith (.Dict [] [] p2) (some (.Name x pos')) pos.line X.env = pure false := by rfl) (hf : X.fn x = true ∨ X.env.scope.names.lookup x = some .local := by first | exact .inl rfl | exact .inr rfl) : Ss X c W Γ (.Assign [.Name x pos'] (.Dict [] [] p2) pos :: rest) D := fun _ _ σ Hf H g DD k =>
  ⟨_, pss_cons (ps_set hN hi hx pe_dnewT hs hf) pss_w, fun p hp => hr _ _ _ Hf _ (g.adopt (R' := [p]) i (same_new hp) (fun a ha => by rw [List.mem_singleton.mp ha]; exact hp) ⟨p, [], rfl, rfl, upd_same, .nil⟩) DD k⟩
/-- x[t] = e -/
theorem ss_put (i : Nat) {x : Str} {ix e : Expr} {p1 p2 : Pos} {t : Tup Int} {v : α} (hu : X.A.units + 1 < cLine) (hΓ : Γ[i]? = some (.own (OwD.mk l))) (he : E X c Γ e v) (hi : E X c Γ ix t) (hl : l.length < 1000000) (hr : Ss X c W (Γ.set i (.own (OwD.mk (dtPut l t.l v)))) rest D) (hN : X.N[i]? = some x := by rfl)
    (hv : Vis X.env.scope x := by first | exact Or.inl rfl | exact Or.inr (Or.inl rfl) | exact Or.inr (Or.inr rfl)) (hd : (x == ("__debug__" : Str)) = false := by decide) (hcd : (x == ("__classdict__" : Str)) = false := by decide)
    (hs : swapsWithSole [.Subscript (.Name x p1) ix p2] e pos.line X.env = pure false := by rfl) (hw : swappedStores [.Subscript (.Name x p1) ix p2] e X.env = pure none := by rfl) (h1 : (assignEach [.Subscript (.Name x p1) ix p2] X.env).map (·.2) = [assign (.Subscript (.Name x p1) ix p2) X.env] := by rfl)
    (ha : ∀ v, assign (.Subscript (.Name x p1) ix p2) X.env v = (do
      let ov ← holding [v] (eval (.Name x p1) X.env)
      let iv ← holding [v, ov] (eval ix X.env)
      standAt p2
      holding [v, ov, iv] (setItem ov iv v)
      release [v, ov, iv] []) := by intro _; rfl) : Ss X c W Γ (.Assign [.Subscript (.Name x p1) ix p2] e pos :: rest) D := fun _ _ σ Hf H g DD kk => by
  refine ⟨_, pss_cons (ps_asg pe_w (pg_sub (pe_var hN hv hd hcd) pe_w (set_dict hu) ha) hs hw h1) pss_w, he _ _ σ Hf H g _ fun u Hf1 H1 s1 r1 => ?_⟩
  obtain ⟨_, _, e1, ⟨p, vs, rfl, _, _, _⟩, _⟩ := (g.step s1).own hΓ
  refine ⟨.ref p, e1, hi _ _ σ Hf1 H1 (g.step s1) _ fun w Hf2 H2 s2 r2 => ?_⟩
  have g2 := (g.step s1).step s2
  obtain ⟨R, v2, e1', ⟨p', kvs, rfl, rfl, e3', e4'⟩, hR, up⟩ := g2.own hΓ
  rw [e1] at e1'
  cases e1'
  obtain ⟨q, us, rfl, t1, t2⟩ := r2
  have hus : us = (kT t.l).map kV := by
    rw [kT_kV]
    exact rpl_ints t2
  refine ⟨p, _, rfl, .inr ⟨kvs, kT t.l, q, e3', rfl, by rw [← hus]; exact g2.same _ _ t1, by rw [e4'.len, sizeLine_eq]; show l.length < _; omega, rfl⟩, ?_⟩
  refine hr _ _ σ Hf2 _ (up (OwD α) _ ⟨dtPut l t.l v⟩ [p] _ (fun a o' ha hn => ?_) (fun a ha => .inl ha) ⟨p, putK kvs (kT t.l) u, rfl, rfl, upd_same, ?_⟩) DD (kk.mono (s1.f.trans s2.f))
  · rw [upd_ne fun z => hn (by rw [z]; exact List.mem_cons_self)]; exact ha
  · exact e4'.put t.l (Rp.mono s2.f r1)
/-- return x, x such a dict -/
theorem ss_retDt (i : Nat) {x : Str} {p1 : Pos} (hΓ : Γ[i]? = some (.own (OwD.mk l))) (hr : ∀ Γ', D.rt ⟨(⟨l⟩ : Dt α)⟩ Γ') (hN : X.N[i]? = some x := by rfl)
    (hv : Vis X.env.scope x := by first | exact Or.inl rfl | exact Or.inr (Or.inl rfl) | exact Or.inr (Or.inr rfl)) (hd : (x == ("__debug__" : Str)) = false := by decide) (hcd : (x == ("__classdict__" : Str)) = false := by decide) : Ss X c W Γ (.Return (some (.Name x p1)) pos :: rest) D := fun _ _ σ Hf H g DD k => by
  obtain ⟨R, v2, e1, ⟨p, kvs, rfl, rfl, e3, e4⟩, hR, up⟩ := g.own hΓ
  refine ⟨_, pss_cons (ps_ret (pe_fz (pe_var hN hv hd hcd))) pss_never, .ref p, e1, p, .dT kvs, rfl, e3, trivial, fun od => ?_⟩
  have hlt : i < Γ.length := (List.getElem?_eq_some_iff.mp hΓ).1
  have g2 := up (OwF α) inferInstance (OwF.mk l) [p] (upd H p (.frz od (.dT kvs))) (fun a o' ha hn => by rw [upd_ne fun z => hn (by rw [z]; exact List.mem_cons_self)]; exact ha) (fun a ha => .inl ha) ⟨p, od, kvs, rfl, rfl, upd_same, e4⟩
  obtain ⟨Hf', s, g3⟩ := g2.freeze (i := i) (b := OwF.mk l) (List.getElem?_set_self hlt) (α := Dt α) (x := ⟨l⟩) (by
    rintro R v ⟨p', od', kvs', rfl, rfl, q3, q4⟩ sf
    exact ⟨p', od', kvs', rfl, by simp only [List.mem_singleton, if_true]; exact q3, q4.mono sf⟩)
  have g4 := g3
  obtain ⟨_, _, R3, h3, _, _⟩ := g4
  obtain ⟨w, w1, w2⟩ := h3 i _ _ e1 (List.getElem?_set_self (by rw [List.length_set]; exact hlt))
  cases w1
  exact k.rt _ _ _ _ _ _ (hr _) s g3 w2
end
end Pv
set_option maxHeartbeats 0
/-! A tuple of a text and ints -/
namespace Pv
open Rp (rp)
open Ow (ow)
open Da (toD)
open PySem L2
structure Tg (s : Str) : Type where
  l : List Int
  deriving DecidableEq
instance {s : Str} : Rp (Tg s) := ⟨fun K c H v x => ∃ p, v = .ref p ∧ H p = some (.tup (.str s :: x.l.map V.int)), fun s ⟨p, h1, h2⟩ => ⟨p, h1, s _ _ h2⟩⟩
theorem e_tag {X : Cx} {c : CL} {Γ : List Sl} {pos q : Pos} {k j : Nat} {es : List Expr} {s : Str} {as : List Int} (h : AL X c Γ es as) (hl : as.length ≤ 900 := by decide) (hst : starEach (.Constant (.str s) j q :: es) X.env = (false, eval (.Constant (.str s) j q) X.env) :: starEach es X.env := by rfl) : E X c Γ (.Tuple (.Constant (.str s) j q :: es) k pos) (Tg.mk (s := s) as) := fun _ _ σ Hf H g Q kk =>
  ⟨_, pe_tup (pa_cons pe_str pa_w hst), h _ _ σ Hf H g _ fun vs Hf1 H1 s1 r1 => ⟨by rw [List.length_cons, r1.len, sizeLine_eq]; omega, fun p hp => by
    rw [rpl_ints r1]
    exact kk _ _ _ (s1.trans (Stp.new s1.s hp)) ⟨p, rfl, upd_same⟩⟩⟩
class StrOk (s : Str) : Prop where
  ok : PyData.strOk s = true
instance {s : Str} [h : StrOk s] : Da (Tg s) where
  toD x := .tuple (.str s :: x.l.map fun i => .int i)
  dp := fun ⟨p, h1, h2⟩ => by
    rw [h1]
    refine .tup (sqT_of h2) (.cons (.str s) ?_)
    exact dpAll (K := _) (c := fun _ => 0) (α := Int) rpl_int'
  lay x := by
    have := layAll (α := Int) x.l
    simp only [PyData.canLay0, PyData.canLayAll0]
    have e2 : (List.map (toD (α := Int)) x.l) = x.l.map fun i => PyData.int i := rfl
    rw [e2] at this
    rw [this, h.ok]
    rfl
  deep := 1
  dep x := by
    have := depAll (α := Int) x.l
    simp only [PyData.depth, PyData.depthAll]
    show _ ≤ 1
    have e : Da.deep Int = 0 := rfl
    rw [e] at this
    have e2 : (List.map (toD (α := Int)) x.l) = x.l.map fun i => PyData.int i := rfl
    rw [e2] at this
    omega
  eqv a b := by
    obtain ⟨a⟩ := a
    obtain ⟨b⟩ := b
    have := eqvAll (α := Int) a b
    simp only [PyData.eqv, PyData.eqvAll, Tg.mk.injEq]
    have e2 : ∀ x : List Int, (List.map (toD (α := Int)) x) = x.map fun i => PyData.int i := fun _ => rfl
    rw [e2, e2] at this
    simpa using this
instance : StrOk (Str.ofString "no line") := ⟨by decide +kernel⟩
end Pv
set_option maxHeartbeats 0
/-! An own object lent for a value; insert -/
namespace Pv
open Rp (rp)
open Ow (ow)
open Da (toD)
open PySem L2
theorem sql_del {K : PySem.W.Frag} {H : Hp} {q p : Addr} {vs : List V} (hq : ∀ o, H q = some o → ∃ C dx fs, o = .ins C dx fs) (h : SqL K H p vs) : SqL K (del H q) p vs := by
  rcases h with h | h
  · refine .inl ?_
    unfold Rd at h ⊢
    rcases h with h | ⟨od, h⟩
    · exact .inl (del_tup hq h (fun _ _ _ z => nomatch z))
    · exact .inr ⟨od, del_tup hq h (fun _ _ _ z => nomatch z)⟩
  · exact .inr h
instance {α : Type} [Away α] : Away (List α) where
  away := fun {K c H v a q} hq ⟨p, vs, h1, h2, h3⟩ => ⟨p, vs, h1, sql_del hq h2, paired_imp (fun _ _ h => Away.away hq h) h3⟩
instance {s : Str} : Away (Tg s) where
  away := fun {K c H v a q} hq ⟨p, h1, h2⟩ => ⟨p, h1, del_tup hq h2 (fun _ _ _ z => nomatch z)⟩
section
variable {X : Cx} {c : CL} {Γ : List Sl} {γ : Type} [Ob γ] {ob : γ} {e : Expr} {W : WX} {D : En} {rest : List Stmt} {pos : Pos}
theorem e_lendA (i : Nat) {α : Type} [Away α] {z : α} {q : Addr} (hΓ : Γ[i]? = some (.own (Raw.mk (Ob.cls γ) q (Ob.fl ob)))) (h : E X c (Γ.set i (d ob)) e z) : E X c Γ e z := fun _ _ σ Hf H g Q k => by
  obtain ⟨Hf1, g', ej, rj, stG⟩ := g.lendG hΓ
  refine h _ _ σ Hf1 H g' Q fun v Hf2 H2 s2 r2 => k v (del Hf2 q) H2 (stG _ _ _ s2) (Away.away (fun o' ho => ?_) r2)
  obtain ⟨q', dx2, fv2, z1, z2, _⟩ := Ob.iff.mp rj
  cases z1
  rw [s2.f _ _ z2] at ho
  cases ho
  exact ⟨_, _, _, rfl⟩
/-- x.insert(0, e) -/
theorem ss_ins0 (i : Nat) {x : Str} {a e : Expr} {p1 p2 p3 : Pos} {α : Type} [Rp α] {xs : List α} {v : α} (hΓ : Γ[i]? = some (o xs)) (h0 : E X c Γ a (0 : Int)) (h : E X c Γ e v) (hl : xs.length < 1000000) (hr : Ss X c W (Γ.set i (o (v :: xs))) rest D) (hN : X.N[i]? = some x := by rfl)
    (hv : Vis X.env.scope x := by first | exact Or.inl rfl | exact Or.inr (Or.inl rfl) | exact Or.inr (Or.inr rfl)) (hd : (x == ("__debug__" : Str)) = false := by decide) (hcd : (x == ("__classdict__" : Str)) = false := by decide)
    (hst : starEach [a, e] X.env = (false, eval a X.env) :: starEach [e] X.env := by rfl) (hst2 : starEach [e] X.env = (false, eval e X.env) :: starEach [] X.env := by rfl)
    (hpe : PE X (.Call (.Attribute (.Name x p1) "insert" p2) [a, e] [] p3) (tBM X.K "list" (fun x vs H Q => ∃ (l : Addr) (xs : List V) (i : Int) (y : V), x = .ref l ∧ vs = [.int i, y] ∧ H l = some (.lst xs) ∧ xs.length < sizeLine ∧ 0 ≤ i ∧ i < 2 ^ 63 ∧ Q .non (upd H l (.lst (xs.take i.toNat ++ [y] ++ xs.drop i.toNat)))) (tVar i) (tCons (wE X a) (tCons (wE X e) tNil))) := by exact pe_bm PySem.F.plainAttrs_list PySem.F.slot_list_insert PySem.F.type_list_insert mt_insert (pv _) (pa_cons pe_w (pa_cons pe_w pa_nil)))
    (hs : swapsWith (.Call (.Attribute (.Name x p1) "insert" p2) [a, e] [] p3) none pos.line X.env = pure false := by rfl) : Ss X c W Γ (.Expr (.Call (.Attribute (.Name x p1) "insert" p2) [a, e] [] p3) pos :: rest) D := fun _ _ σ Hf H g DD k => by
  refine ⟨_, pss_cons (ps_expr hpe hs) pss_w, ?_⟩
  obtain ⟨_, _, e1, ⟨p, vs, rfl, _, e3, _⟩, _⟩ := g.own hΓ
  refine ⟨.ref p, e1, .inl ⟨rfl, _, SqL.of e3⟩, h0 _ _ σ Hf H g _ fun w0 Hf0 H0 s0 r0 => h _ _ σ Hf0 H0 (g.step s0) _ fun w Hf1 H1 s1 r1 => ?_⟩
  have g2 := (g.step s0).step s1
  obtain ⟨R, v2, e1', ⟨p', vs', rfl, rfl, e3', e4'⟩, hR, up⟩ := g2.own hΓ
  rw [e1] at e1'
  cases e1'
  have r0' : w0 = .int 0 := r0
  subst r0'
  refine ⟨p, vs', 0, w, rfl, rfl, e3', by rw [e4'.len, sizeLine_eq]; show xs.length < _; omega, by decide, by decide, ?_⟩
  refine hr _ _ σ Hf1 _ (up (OwL α) _ ⟨v :: xs⟩ [p] _ (fun a o' ha hn => ?_) (fun a ha => .inl ha) ⟨p, w :: vs', rfl, rfl, upd_same, ?_⟩) DD (k.mono (s0.f.trans s1.f))
  · rw [upd_ne fun z => hn (by rw [z]; exact List.mem_cons_self)]; exact ha
  · exact .cons r1 e4'
end
end Pv
set_option maxHeartbeats 0
/-! A class whose __init__ raises; loops in defs that raise -/
namespace Pv
open Rp (rp)
open Ow (ow)
open Da (toD)
open PySem L2
section
variable {X : Cx} {CI : CXT} {k : Nat} {f C : Addr} {fd : FuncData} {ps : List Str} {sp : Sp} {EE : L2.St → XK} {pins : List (Addr × Obj)} {σ : L2.St} {H : Hp} {s : Shared}
theorem run_makeS {Q : VK} {us : List Value} {vs : List V} (M : L2.Mk X.K C f) (F : FnOk X.prog X.w X.K X.mg X.base CI k f fd ps sp) (hr : Room (k + 1) X.A) (hb : Binds X.K fd ps []) (hx : PassesAt CI X σ (EE σ)) (I : L2.Inv X pins σ H s) (r : Vals vs us)
    (h : ∀ x dx : Addr, H x = none → H dx = none → dx ≠ x → sp (.ref x :: vs) (upd (upd H dx (.own x)) x (.ins C dx [])) (fun v H2 => v = .non ∧ Q (.ref x) H2) (EE σ)) : wpAny (model X.prog X.w) X.A (call (.ref C) us) (EP X pins σ Q) X.xe s := by
  have hq := h (s.heap.objs.size + 1) s.heap.objs.size (I.hok.fresh (Nat.le_succ _)) (I.hok.fresh (Nat.le_refl _)) (Nat.ne_of_lt (Nat.lt_succ_self _))
  have I2 := Inv.made (C := C) I
  have r2 : Vals (V.ref (s.heap.objs.size + 1) :: vs) (Value.ref (s.heap.objs.size + 1) :: us) := .cons rfl r
  have hl : (Value.ref (s.heap.objs.size + 1) :: us).length = ps.length := by rw [← F.len _ _ _ _ hq, ← r2.length]
  have hbd := hb ⟨(s.heap.push PySem.W.emptyDict).push (PySem.W.instObj C s.heap.objs.size), s.gens, s.drawn, s.toks, s.os⟩ (Value.ref (s.heap.objs.size + 1) :: us) I2.kIn (by rw [List.append_nil]; exact hl)
  rw [List.append_nil] at hbd
  refine wpAny_call (make_map I.kIn M.makes M.init (beq_iff_eq.mp M.fn) (codeAny_mono (F.run (X.A.under (.builtin "type.__call__" { pos := .ref C :: us })) X.stack ⟨_, s.gens, s.drawn, s.toks, s.os⟩ _ { pos := .ref (s.heap.objs.size + 1) :: us } _ _ _ (EE σ) (Room.make hr C us []) (Env0.make I2.env0 C us []) hbd r2 hq) fun r s' hq' => ?_))
  cases r with
  | error e => exact hx pins _ _ e s' I2 hq'
  | ok fl =>
    cases fl with
    | next => exact False.elim hq'
    | brk => exact False.elim hq'
    | cont => exact False.elim hq'
    | ret u =>
      obtain ⟨v, H', I3, rv, ev, q3⟩ := I2.after hq'
      subst ev
      exact ⟨rv, .ref (s.heap.objs.size + 1), H', I3, rfl, q3⟩
theorem pe_makeS {x : Str} {p pos : Pos} {e : Expr} {es : List Expr} {t : TA} (M : L2.Mk X.K C f) (F : FnOk X.prog X.w X.K X.mg X.base CI k f fd ps sp) (hr : Room (k + 1) X.A) (hg : Gl X x) (hm : X.mg x = some (.ref C)) (hb : Binds X.K fd ps []) (hx : ∀ σ, PassesAt CI X σ (EE σ)) (ha : PA X (e :: es) t)
    (hdb : (x == ("__debug__" : Str)) = false) (he : starEach (e :: es) X.env = (false, eval e X.env) :: starEach es X.env) (hpl : (backTo pos (starEach es X.env)).any (·.1) = false) :
    PE X (.Call (.Name x p) (e :: es) [] pos) (fun σ H Q => t σ H fun vs H1 => ∀ x dx : Addr, H1 x = none → H1 dx = none → dx ≠ x → sp (.ref x :: vs) (upd (upd H1 dx (.own x)) x (.ins C dx [])) (fun v H2 => v = .non ∧ Q (.ref x) H2) (EE σ)) := by
  refine ⟨fun pins s σ H Q I h => ?_⟩
  exact wpAny_Call_Name_kw (ld_glob (hd := hdb) I hg hm (PySem.W.callWith_K I.ok.mod.kin M.kp (thn (ha.run pos pins s σ H _ I h) fun us s1 ⟨vs, H1, I1, r, q⟩ => ⟨I1.kIn, run_makeS M F hr hb (hx σ) I1 r q⟩) he hpl))
end
/-- what an __init__ promises that raises x -/
def spIX (K : PySem.W.Frag) (c : CL) (γ : Type) [Ob γ] (RX : List Pk → Xn → Prop) : Sp := fun vs H _ E => ∃ (Hf : Hp) (p dx : Addr) (ws : List V) (ps : List Pk) (x : Xn), vs = .ref p :: ws ∧ Same Hf H ∧ PkL K c Hf ws ps ∧ RX ps x ∧ Hf p = none ∧ H p = some (.ins (c (Ob.cls γ)) dx []) ∧
  ∀ cls dd Hf' H', Stp Hf (del H p) Hf' H' → XnOk K c Hf' x cls dd → E cls dd H'
structure MqX (P : Program) (w : World) (K : PySem.W.Frag) (mg : Str → Option Value) (base : Heap) (c : CL) (γ : Type) [Ob γ] (x : Str) (k : Nat) (RX : List Pk → Xn → Prop) : Prop where
  ex : ∃ (f : Addr) (fd : FuncData) (ps : List Str), L2.Mk K (c (Ob.cls γ)) f ∧ FnOk P w K mg base (L2N.CX P w) k f fd ps (spIX K c γ RX) ∧ mg x = some (.ref (c (Ob.cls γ))) ∧ Binds K fd ps []
section
variable {P : Program} {w : World} {K : PySem.W.Frag} {mg : Str → Option Value} {base : Heap} {c : CL} {γ : Type} [Ob γ]
/-- THE RULE for an __init__ that raises -/
theorem init_okX {qual : Str} {st : Stmt} {f : Addr} {fd : FuncData} {N ps : List Str} {k : Nat} {RX : List Pk → Xn → Prop} (F : Fun K "__init__" qual st f fd) (S : FnScope N ps (defScope st)) (hl : ∀ as r, RX as r → as.length + 1 = ps.length) (hN : ps.length ≤ N.length)
    (hb : ∀ (cdv : Value) (A : Around) (outer : List Env) (s : Shared) (H : Hp) (E : XK) (as : List Pk) (x : Xn) (p : Addr), Room k (A.deeper (PyProof.Rows.envOfC qual (defScope st) s.heap.objs.size f cdv)) → RX as x →
      Ss (cxOf (L2N.CX P w) P w K mg base N qual (defScope st) f cdv A outer s H E) c (fun cls d _ H' => E cls d H') (.own (Raw.mk (Ob.cls γ) p []) :: slots as (N.length - 1)) (defBody st) { nx := fun _ => False, rt := fun _ _ => False, ex := fun y _ => y = x }) : FnOk P w K mg base (L2N.CX P w) (k + 1) f fd ps (spIX K c γ RX) := by
  refine okX F S (fun vs H Q E ⟨Hf, p, dx, ws, as, r, h0, h1, h2, h3, _⟩ => by rw [h0, List.length_cons, h2.len, hl _ _ h3]) fun cdv A outer s H vs Q E hr ⟨Hf, p, dx, ws, as, x, h0, h1, h2, h3, h4, h5, h6⟩ => ?_
  subst h0
  refine hb cdv A outer s H E as x p hr h3 Hf (del H p) _ Hf H (env_startI h1 h2 (by rw [hl _ _ h3]; exact hN) h4 h5 .nil) _ ⟨fun _ _ _ _ q => q.elim, fun _ _ _ _ q => q.elim, fun _ _ _ _ q => q.elim, fun _ _ _ _ _ _ q => q.elim, fun y cls dd σ' Γ' Hf' H' q s g r => ?_, fun _ _ _ _ _ _ q => q.elim, fun _ _ _ _ _ _ _ q => q.elim⟩
  have q : y = x := q
  subst q
  exact h6 cls dd _ _ g.stp r
end
section
variable {X : Cx} {c : CL} {Γ : List Sl} {W : WX} {pos p0 : Pos} {γ : Type} [Ob γ] {x : Xn} {e : Expr} {es : List Expr}
theorem xp_make {y : Str} {k : Nat} {RX : List Pk → Xn → Prop} {as : List Pk} (M : MqX X.prog X.w X.K X.mg X.base c γ y k RX) (tk : L2N.Takes X W) (hr : Room (k + 1) X.A) (ha : As X c Γ (e :: es) as) (hR : RX as x) (hg : Gl X y := by rfl) (hdb : (y == ("__debug__" : Str)) = false := by decide)
    (he : starEach (e :: es) X.env = (false, eval e X.env) :: starEach es X.env := by rfl) (hpl : (backTo pos (starEach es X.env)).any (·.1) = false := by rfl) : Xp X c W Γ (.Call (.Name y p0) (e :: es) [] pos) x := fun _ _ σ Hf H g q Q => by
  obtain ⟨f, fd, ps, mk, F, hm, hb⟩ := M
  refine ⟨_, pe_makeS (EE := WE W) mk F hr hg hm hb (L2N.passAt tk) pa_w hdb he hpl, ha _ _ σ Hf H g _ fun vs Hf1 H1 s1 r1 => fun z dx ny ndx nyx => ?_⟩
  have e0 : ∀ a, a ≠ z → upd (upd H1 dx (.own z)) z (.ins (c (Ob.cls γ)) dx []) a = upd H1 dx (.own z) a := fun a h => upd_ne h
  refine ⟨Hf1, z, dx, vs, as, x, rfl, (s1.s.trans (same_new ndx)).trans (same_new (by rw [upd_ne nyx.symm]; exact ny)), r1, hR, s1.s.free ny, upd_same, fun cls dd Hf2 H2 s2 r2 => q cls dd Hf2 H2 (s1.trans ⟨s2.f, fun a o h => ?_, s2.s, fun a o h1 h2 n => ?_⟩) r2⟩
  · refine s2.h a o ?_
    rw [del_ne (ne_of_none h ny), e0 _ (ne_of_none h ny), upd_ne (ne_of_none h ndx)]
    exact h
  · refine s2.d a o h1 ?_ n
    rw [del_ne (ne_of_none h2 ny), e0 _ (ne_of_none h2 ny), upd_ne (ne_of_none h2 ndx)]
    exact h2
end
/-- loops in a def that raises -/
theorem own_def {P : Program} {w : World} {K : PySem.W.Frag} {mg : Str → Option Value} {base : Heap} {N : List Str} {qual : Str} {scope : Scope} {f : Addr} {cdv : Value} {A : Around} {outer : List Env} {s : Shared} {H : Hp} {E : XK} :
    PassesOwn (model P w) (cxOf (L2N.CX P w) P w K mg base N qual scope f cdv A outer s H E).A (cxOf (L2N.CX P w) P w K mg base N qual scope f cdv A outer s H E).env (cxOf (L2N.CX P w) P w K mg base N qual scope f cdv A outer s H E).xe := PassesOwn.leaving
end Pv
set_option maxHeartbeats 0
/-! s.encode('ascii'); f-strings with a width -/
namespace Pv
open Rp (rp)
open Ow (ow)
open Da (toD)
open PySem L2
theorem forIn_two {σ : Type} (f : Nat → σ → Sem (ForInStep σ)) {s0 s1 : σ} (a : Nat) (l : List Nat) (h1 : f a s0 = pure (.yield s1)) (h2 : ∀ b, f b s1 = pure (.done s1)) : forIn (a :: l) s0 f = (pure s1 : Sem σ) := by
  rw [List.forIn_cons, h1, pure_bind]
  cases l with
  | nil => rfl
  | cons b l => 
    show forIn (b :: l) s1 f = _
    rw [List.forIn_cons, h2, pure_bind]
theorem fold_map (cps : Array Nat) : Array.foldl (fun acc y => acc ++ (Builtin._codecs.asciiCodec.bytesOf y).toArray) #[] cps = cps.map fun c => c.toUInt8 := by
  obtain ⟨l⟩ := cps
  rw [List.foldl_toArray']
  · have key : ∀ (l : List Nat) (acc : Array UInt8), l.foldl (fun acc y => acc ++ (Builtin._codecs.asciiCodec.bytesOf y).toArray) acc = acc ++ (l.map fun c => c.toUInt8).toArray := by
      intro l
      induction l with
      | nil => intro acc; simp
      | cons a l ih =>
        intro acc
        rw [List.foldl_cons, ih]
        simp [Builtin._codecs.asciiCodec]
    rw [key]; simp
  · simp
theorem enc_ascii {x : Str} {t : Tok} (hx : ∀ c ∈ x.cps.toList, c < 128) (hl : x.length ≤ 1000) : Builtin._codecs.encodeNarrow "str.encode" Builtin._codecs.asciiCodec none (.str x t) x = pure (x.cps.map fun c => c.toUInt8) := by
  have hfind : Array.findIdx? Builtin._codecs.asciiCodec.bad x.cps = none := by
    rw [Array.findIdx?_eq_none_iff]
    intro y hy
    have := hx y (by simpa using hy)
    show decide (y ≥ 128) = false
    simp; omega
  have hz : ¬ x.cps.size > sizeLine := by
    have : x.cps.size = x.length := rfl
    rw [sizeLine_eq]; omega
  unfold Builtin._codecs.encodeNarrow
  simp only [Std.Legacy.Range.forIn_eq_forIn_range', Std.Legacy.Range.size]
  cases hn : x.length with
  | zero =>
    have hc : x.cps = #[] := Array.eq_empty_of_size_eq_zero hn
    simp [hc]
  | succ n =>
    have hsz : x.cps.size = n + 1 := hn
    have h0 : x.cps[0]? = some (x.cps[0]'(by omega)) := Array.getElem?_eq_getElem (by omega)
    have hb0 : Builtin._codecs.asciiCodec.bad (x.cps[0]'(by omega)) = false := by
      have := hx (x.cps[0]'(by omega)) (by simp)
      show decide (_ ≥ 128) = false
      simp; omega
    have er : List.range' 0 ((n + 1 - 0 + 1 - 1) / 1) = 0 :: List.range' 1 n := by
      rw [show (n + 1 - 0 + 1 - 1) / 1 = n + 1 by omega, List.range'_succ]
    rw [er]
    rw [forIn_two (s1 := (x.cps.size, x.cps.map fun c => c.toUInt8, { })) _ 0 _ ?_ ?_]
    · rfl
    · have hs0 : ¬ (#[] : Array UInt8).size > sizeLine := by rw [sizeLine_eq]; simp
      have ee : x.cps.extract 0 = x.cps := by simp
      simp only [hs0, if_false, h0, hb0, Bool.not_false, if_true, ee, hfind, Option.getD_none, Nat.zero_add]
      rw [fold_map]
    · intro b
      have hs1 : ¬ (Array.map (fun c => c.toUInt8) x.cps).size > sizeLine := by rw [Array.size_map]; exact hz
      have hn1 : x.cps[x.cps.size]? = none := by simp
      simp only [hs1, if_false, hn1]
theorem call_encode {prog : Program} {w : World} {A : Around} {E : Value → Shared → Prop} {s : Shared} {x : Str} {t t2 : Tok} {Q : Value → Shared → Prop} (hx : ∀ c ∈ x.cps.toList, c < 128) (hl : x.length ≤ 1000)
    (q : ∀ (tk : Tok) (tk2 : Nat), Q (.bytes (x.cps.map fun c => c.toUInt8) tk) { s with toks := tk2 }) : wpAny (model prog w) A (call (.builtin "str.encode") [.str x t, .str "ascii" t2]) Q E s := by
  refine wpAny_call_entry F.slot_str_encode ?_ F.entry_str_encode ?_ (F.args_str_encode_2 _ _)
  · exact rfl
  · unfold Builtin.«str.encode»
    refine wpAny_bind ?_
    show wpAny _ _ (_ >>= _) _ _ _
    refine wpAny_bind ?_
    refine wpAny_pure ?_
    refine wpAny_pure ?_
    refine wpAny_bind ?_
    have e1 : Builtin.Str.bindOptional "str.encode" "encode" 0 ["encoding", "errors"] [Value.str "ascii" t2] [] = pure [some (.str "ascii" t2), none] := by rfl
    rw [e1]
    refine wpAny_pure ?_
    refine wpAny_bind ?_
    have e2 : Builtin.Str.codecArg "str.encode" "encode" "'encoding'" (some (Value.str "ascii" t2)) = pure (some ("ascii" : Str)) := by
      unfold Builtin.Str.codecArg Builtin.Str.strArg
      have a1 : asStr? (Value.str ("ascii" : Str) t2) = pure (some ("ascii" : Str)) := by rfl
      have a2 : ((("ascii" : Str).cps.any fun x => decide (x ≥ 128)) = true) = False := by simp; decide +kernel
      have a3 : ((("ascii" : Str).cps.contains 0) = true) = False := by simp; decide +kernel
      simp only [a1, pure_bind, a2, a3, if_false]
    rw [e2]
    refine wpAny_pure ?_
    refine wpAny_bind ?_
    have e3 : Builtin.Str.codecArg "str.encode" "encode" "'errors'" none = pure none := by rfl
    rw [e3]
    refine wpAny_pure ?_
    refine wpAny_bind ?_
    have e4 : Builtin._codecs.encodeRoad "str.encode" (Value.str x t) x (Option.getD (some ("ascii" : Str)) "utf-8") none = (do let b ← Builtin._codecs.encodeNarrow "str.encode" Builtin._codecs.asciiCodec none (.str x t) x; mkBytes b) := by
      unfold Builtin._codecs.encodeRoad
      have : (Builtin._codecs.normalName (Option.getD (some ("ascii" : Str)) "utf-8")).toString = "ascii" := by decide +kernel
      rw [this]
      rfl
    rw [e4]
    refine wpAny_bind ?_
    rw [enc_ascii hx hl]
    refine wpAny_pure ?_
    unfold mkBytes
    have hz : ¬ (x.cps.map fun c => c.toUInt8).size > sizeLine := by
      rw [Array.size_map, sizeLine_eq]
      have : x.cps.size = x.length := rfl
      omega
    rw [if_neg hz]
    refine wpAny_bind ?_
    refine wpAny_fresh ?_
    refine wpAny_pure ?_
    exact wpAny_pure ⟨_, rfl, q _ _⟩
theorem mt_encode {X : Cx} : MtR X "str.encode" (fun x xs H Q => ∃ a : Str, x = .str a ∧ xs = [.str "ascii"] ∧ (∀ c ∈ a.cps.toList, c < 128) ∧ a.length ≤ 1000 ∧ Q (.byt (a.cps.map fun c => c.toUInt8)) H) := by
  rintro pins s σ H x xs v us Q I rx rs ⟨a, rfl, rfl, hx, hl, q⟩
  obtain ⟨t, rfl⟩ := rx
  cases rs with
  | cons r1 rr =>
    cases rr
    obtain ⟨t2, rfl⟩ := r1
    exact call_encode hx hl fun tk tk2 => ⟨.byt _, H, I.tok _, ⟨tk, rfl⟩, q⟩
/-- {e:spec} of a number -/
theorem pe_fmtS {X : Cx} {e : Expr} {te : TE} {spec : Str} {j : Nat} {p1 pos p2 : Pos} (hnd : PySem.W.nsIn X.K cStatics "sys.int_max_str_digits" = some none) (he : PE X e te) (hok : PyProof.Rows.intSpecOk spec = true) (hsl : spec.length ≤ sizeLine) :
    PE X (.FormattedValue e (-1) (some (.JoinedStr [.Constant (.str spec) j p1] p2)) pos) (fun σ H Q => te σ H fun x H1 => ∃ a : Int, x = .int a ∧ 0 ≤ a ∧ a < 10 ^ 10 ∧ (PyProof.Rows.IntSpecFactsW spec (PyProof.Rows.intSpecWidthOf spec) a → Q (.str (PyProof.Rows.intSpecTextOf spec a)) H1)) := by
  refine ⟨fun pins s σ H Q I h => ?_⟩
  refine wpAny_FormattedValue_spec (thn (he.run pins s σ H _ I h) fun v s1 ⟨x, H1, I1, r1, a, ex, h0, h1, q⟩ => ?_)
  subst ex
  obtain ⟨t, rfl⟩ := r1
  have z := (pe_joined1 (X := X) (pe_str (X := X) (x := spec) (j := j) (pos := p1)) (pos := p2)).run pins s1 σ H1 (fun y H2 => y = .str spec ∧ H2 = H1) I1 ⟨rfl, rfl⟩
  refine thn z fun r s2 ⟨y, H2, I2, ry, ey, eH⟩ => ?_
  subst ey eH
  obtain ⟨t2, rfl⟩ := ry
  refine ⟨spec, t2, rfl, ?_⟩
  have nd : s2.heap.NoDigits := by
    obtain ⟨mc, n1, n2⟩ := Heap.NoLimit.keeps I2.ok.mod.nolimit I2.bk
    exact ⟨mc, n1, PySem.W.ns_none_of I2.kIn n1 hnd⟩
  exact PySem.W.KXf.field_sym nd h0 h1 hok rfl hsl fun t' k f _ _ => ⟨.str _, H2, I2.tok _, ⟨t', rfl⟩, q f⟩
end Pv
set_option maxHeartbeats 0
/-! Texts as values -/
namespace Pv
open Rp (rp)
open Ow (ow)
open Da (toD)
open PySem L2
section
variable {X : Cx} {c : CL} {Γ : List Sl} {pos p0 apos p1 p2 : Pos} {e a b : Expr} {es : List Expr}
/-- {e} of a number -/
theorem e_fmtI {i : Int} (h : E X c Γ e i) (hi : i.natAbs.log2 < 1920) : E X c Γ (.FormattedValue e (-1) none pos) (Str.ofString (toString i)) := fun _ _ σ Hf H g Q k =>
  ⟨_, pe_fmt pe_w, h _ _ σ Hf H g _ fun v Hf1 H1 s1 r1 => .inr ⟨i, r1, hi, k _ Hf1 H1 s1 rfl⟩⟩
/-- {e:spec} of a number -/
theorem e_fmtS {i : Int} {spec : Str} {j : Nat} (hnd : PySem.W.nsIn X.K cStatics "sys.int_max_str_digits" = some none) (h : E X c Γ e i) (h0 : 0 ≤ i) (h1 : i < 10 ^ 10) {y : Str} (hy : PyProof.Rows.IntSpecFactsW spec (PyProof.Rows.intSpecWidthOf spec) i → PyProof.Rows.intSpecTextOf spec i = y) (hok : PyProof.Rows.intSpecOk spec = true := by decide +kernel) (hsl : spec.length ≤ sizeLine := by decide +kernel) :
    E X c Γ (.FormattedValue e (-1) (some (.JoinedStr [.Constant (.str spec) j p1] p2)) pos) y := fun _ _ σ Hf H g Q k =>
  ⟨_, pe_fmtS hnd pe_w hok hsl, h _ _ σ Hf H g _ fun v Hf1 H1 s1 r1 => ⟨i, r1, h0, h1, fun f => by rw [hy f]; exact k _ Hf1 H1 s1 rfl⟩⟩
/-- the parts of an f-string -/
inductive FL (X : Cx) (c : CL) (Γ : List Sl) : List Expr → List Str → Prop
  | nil : FL X c Γ [] []
  | cons {e : Expr} {y : Str} {es : List Expr} {ys : List Str} (h : E X c Γ e y) (r : FL X c Γ es ys) : FL X c Γ (e :: es) (y :: ys)
def flen (ys : List Str) : Nat := (ys.map (·.length)).sum
theorem FL.go {ys : List Str} (h : FL X c Γ es ys) : PJ X es (es.map (wE X)) ∧ ∀ (H0f H0 : Hp) (σ : L2.St) (Hf H : Hp) (acc : Str) (Q : Str → Hp → Prop), EnvOk X.K c H0f H0 Hf H σ Γ → acc.length + flen ys ≤ sizeLine → (∀ Hf' H', Stp Hf H Hf' H' → Q (ys.foldl (· ++ ·) acc) H') → tJs (es.map (wE X)) acc σ H Q := by
  induction h with
  | nil => exact ⟨.nil, fun _ _ σ Hf H acc Q g _ q => q Hf H (Stp.refl g.same)⟩
  | @cons e y es ys h r ih =>
    obtain ⟨i1, i2⟩ := ih
    refine ⟨.cons pe_w i1, fun H0f H0 σ Hf H acc Q g hl q => h _ _ σ Hf H g _ fun v Hf1 H1 s1 r1 => ⟨y, r1, ?_, i2 _ _ σ Hf1 H1 _ Q (g.step s1) ?_ fun Hf' H' s => q Hf' H' (s1.trans s)⟩⟩
    · unfold flen at hl
      rw [List.map_cons, List.sum_cons] at hl
      rw [Str.length_append]; omega
    · unfold flen at hl ⊢
      rw [List.map_cons, List.sum_cons] at hl
      rw [Str.length_append]; omega
theorem e_fstr {v1 v2 : Expr} {vs : List Expr} {ys : List Str} (h : FL X c Γ (v1 :: v2 :: vs) ys) (hl : flen ys ≤ sizeLine) : E X c Γ (.JoinedStr (v1 :: v2 :: vs) pos) (ys.foldl (· ++ ·) Str.empty) := fun _ _ σ Hf H g Q k => by
  obtain ⟨h1, h2⟩ := h.go
  exact ⟨_, pe_joined h1, h2 _ _ σ Hf H Str.empty _ g (by rw [show Str.empty.length = 0 from rfl]; omega) fun Hf' H' s => k _ Hf' H' s rfl⟩
/-- s + t -/
theorem e_scat {x y : Str} (ha : E X c Γ a x) (hb : E X c Γ b y) (hl : x.length + y.length ≤ sizeLine) : E X c Γ (.BinOp a .Add b pos) (x ++ y) := fun _ _ σ Hf H g Q k =>
  ⟨_, pe_op op_add_str pe_w pe_w, ha _ _ σ Hf H g _ fun v Hf1 H1 s1 r1 => hb _ _ σ Hf1 H1 (g.step s1) _ fun u Hf2 H2 s2 r2 => ⟨x, y, r1, r2, hl, k _ Hf2 H2 (s1.trans s2) rfl⟩⟩
end
end Pv
set_option maxHeartbeats 0
/-! Texts: methods; properties -/
namespace Pv
open Rp (rp)
open Ow (ow)
open Da (toD)
open PySem L2
section
variable {X : Cx} {c : CL} {Γ : List Sl} {pos p0 apos p1 p2 : Pos} {e a b : Expr} {es : List Expr}
theorem e_strI {i : Int} (ha : E X c Γ a i) (hi : i.natAbs.log2 < 1920) (hm : X.mg "str" = none) (hg : Gl X "str" := by rfl) (he : starEach [a] X.env = (false, eval a X.env) :: starEach [] X.env := by rfl) : E X c Γ (.Call (.Name "str" p0) [a] [] pos) (Str.ofString (toString i)) :=
  e_callTy call_str_int (a_cons ha a_nil he) (fun Hf H vs s r Q k => by
    obtain ⟨v, rfl, h⟩ := pkl1 r
    exact ⟨i, by rw [show v = V.int i from h], hi, k _ _ _ (Stp.refl s) rfl⟩) hg hm (by decide +kernel) (by decide) (by decide) he
theorem e_zfill {x : Str} {i : Int} (ha : E X c Γ a x) (hb : E X c Γ b i) (hp : PadOk i = true)
    (hpe : PE X (.Call (.Attribute a "zfill" p1) [b] [] pos) (tBM X.K "str" (fun x xs H Q => ∃ (a : Str) (i : Int), x = .str a ∧ xs = [.int i] ∧ PadOk i = true ∧ Q (.str (Txt.zfill a i)) H) (wE X a) (tCons (wE X b) tNil)) := by exact pe_bm PySem.F.plainAttrs_str PySem.F.slot_str_zfill PySem.F.type_str_zfill mt_zfill pe_w (pa_cons pe_w pa_nil)) :
    E X c Γ (.Call (.Attribute a "zfill" p1) [b] [] pos) (Txt.zfill x i) := fun _ _ σ Hf H g Q k =>
  ⟨_, hpe, ha _ _ σ Hf H g _ fun v Hf1 H1 s1 r1 => ⟨by rw [show v = V.str x from r1]; exact rfl, hb _ _ σ Hf1 H1 (g.step s1) _ fun u Hf2 H2 s2 r2 => ⟨x, i, r1, by rw [show u = V.int i from r2], hp, k _ Hf2 H2 (s1.trans s2) rfl⟩⟩⟩
theorem rpl_strs {K : PySem.W.Frag} {H : Hp} : ∀ {vs : List V} {bs : List Str}, RpL K c H vs bs → vs = bs.map V.str
  | _, _, .nil => rfl
  | _, _, .cons h t => by rw [rpl_strs t]; show _ :: _ = _ :: _; rw [show _ = _ from h]
theorem e_sjoin {x : Str} {ys : List Str} (ha : E X c Γ a x) (hb : E X c Γ b ys) (hl : (ys.map (·.length)).sum + ys.length * x.length ≤ 16777216)
    (hpe : PE X (.Call (.Attribute a "join" p1) [b] [] pos) (tBM X.K "str" (fun x xs H Q => ∃ a p, ∃ ys : List Str, x = .str a ∧ xs = [.ref p] ∧ (SqL X.K H p (ys.map V.str) ∨ SqT X.K H p (ys.map V.str)) ∧ (ys.map (·.length)).sum + ys.length * a.length ≤ 16777216 ∧ Q (.str (Txt.join a ys)) H) (wE X a) (tCons (wE X b) tNil)) := by exact pe_bm PySem.F.plainAttrs_str PySem.F.slot_str_join PySem.F.type_str_join mt_join pe_w (pa_cons pe_w pa_nil)) :
    E X c Γ (.Call (.Attribute a "join" p1) [b] [] pos) (Txt.join x ys) := fun _ _ σ Hf H g Q k =>
  ⟨_, hpe, ha _ _ σ Hf H g _ fun v Hf1 H1 s1 r1 => ⟨by rw [show v = V.str x from r1]; exact rfl, hb _ _ σ Hf1 H1 (g.step s1) _ fun u Hf2 H2 s2 ⟨p, vs, e1, e2, e3⟩ => ⟨x, p, ys, r1, by rw [e1], .inl (by rw [← rpl_strs e3]; exact s2.s.seq e2), hl, k _ Hf2 H2 (s1.trans s2) rfl⟩⟩⟩
/-- bytes -/
structure By where
  l : Array UInt8
instance : Rp By := ⟨fun _ _ _ v b => v = .byt b.l, fun _ h => h⟩
theorem e_enc {x : Str} (ha : E X c Γ a x) (hx : ∀ c ∈ x.cps.toList, c < 128) (hl : x.length ≤ 1000) {j : Nat} {q : Pos}
    (hpe : PE X (.Call (.Attribute a "encode" p1) [.Constant (.str "ascii") j q] [] pos) (tBM X.K "str" (fun x xs H Q => ∃ a : Str, x = .str a ∧ xs = [.str "ascii"] ∧ (∀ c ∈ a.cps.toList, c < 128) ∧ a.length ≤ 1000 ∧ Q (.byt (a.cps.map fun c => c.toUInt8)) H) (wE X a) (tCons (fun _ H Q => Q (.str "ascii") H) tNil)) := by exact pe_bm PySem.F.plainAttrs_str PySem.F.slot_str_encode PySem.F.type_str_encode mt_encode pe_w (pa_cons pe_str pa_nil)) :
    E X c Γ (.Call (.Attribute a "encode" p1) [.Constant (.str "ascii") j q] [] pos) (By.mk (x.cps.map fun c => c.toUInt8)) := fun _ _ σ Hf H g Q k =>
  ⟨_, hpe, ha _ _ σ Hf H g _ fun v Hf1 H1 s1 r1 => ⟨by rw [show v = V.str x from r1]; exact rfl, x, r1, rfl, hx, hl, k _ Hf1 H1 s1 rfl⟩⟩
/-- o.f, f a property -/
structure Pp (P : Program) (w : World) (K : PySem.W.Frag) (mg : Str → Option Value) (base : Heap) (c : CL) (cls : String) (f : Str) (k : Nat) (R : List Pk → Pk → Prop) : Prop where
  ex : ∃ (p g : Addr) (fd : FuncData) (ps : List Str), FnOk P w K mg base CX0 k g fd ps (fsp K c R) ∧ PropOf K (c cls) f p g ∧ Binds K fd ps []
theorem e_prop {γ : Type} [Ob γ] {ob : γ} {f : Str} {k : Nat} {R : List Pk → Pk → Prop} {α : Type} [Rp α] {z : α} (T : Kl X.K c γ) (M : Pp X.prog X.w X.K X.mg X.base c (Ob.cls γ) f k R) (hr : Room (k + 1) X.A) (h : E X c Γ e ob) (hR : R [⟨ob⟩] ⟨z⟩) (hab : attributeBase e f X.env (eval e X.env) = eval e X.env := by rfl) : E X c Γ (.Attribute e f pos) z := fun _ _ σ Hf H g Q q => by
  obtain ⟨p, gg, fd, ps, F, hp, hb⟩ := M
  refine ⟨_, pe_prop pe_w T.cl hp F hr hb .nil (E := E0) (fun pins σ H s e s' I h => False.elim h) hab, h _ _ σ Hf H g _ fun v Hf1 H1 s1 r1 => ?_⟩
  have r1' := r1
  obtain ⟨p', dx, fvs, rfl, h1, h2⟩ := Ob.iff.mp r1
  exact ⟨p', dx, fvs, rfl, s1.s _ _ h1, Hf1, [⟨ob⟩], ⟨z⟩, s1.s, .cons r1' .nil, hR, fun w Hf2 H2 s2 r2 => q w Hf2 H2 (s1.trans s2) r2⟩
end
end Pv
set_option maxHeartbeats 0
/-! Bytes and texts walked, measured and told apart -/
namespace Pv
open Rp (rp)
open Ow (ow)
open Da (toD)
open PySem L2
instance : Ty By "bytes" := ⟨fun h => by rw [show _ = _ from h]; exact .byt _⟩
def bints (b : By) : List Int := b.l.toList.map fun u => ((u.toNat : Nat) : Int)
def signs (x : Str) : List Str := x.cps.toList.map fun c => ⟨#[c]⟩
section
variable {X : Cx} {c : CL} {Γ : List Sl} {pos p0 apos p1 p2 : Pos} {e a b tg iter : Expr} {es : List Expr} {K : PySem.W.Frag}
theorem wk_byt {Hw : Hp} {b : By} : Wk K c Hw (Itb b.l) (bints b) where
  stop := fun H s => by show b.l.size ≤ _; unfold bints; rw [List.length_map, Array.length_toList]; exact Nat.le_refl _
  go := fun i H hi s => by show i < b.l.size; unfold bints at hi; rwa [List.length_map, Array.length_toList] at hi
  yld := fun i Hf H x H' s1 s2 hi ⟨e, u, hu, hv⟩ => by
    subst e
    refine ⟨Hf, Stp.refl s2, ((u.toNat : Nat) : Int), ?_, hv⟩
    unfold bints
    rw [List.getElem?_map, Array.getElem?_toList, hu]
    rfl
theorem i_byt {z : By} (h : E X c Γ iter z) : I X c Γ tg iter (bints z) := fun _ _ σ Hf H g R k =>
  ⟨_, pi_byt pe_w, h _ _ σ Hf H g _ fun v Hf1 H1 s1 r1 => ⟨z.l, r1, k _ Hf1 H1 s1 wk_byt⟩⟩
theorem wk_str {Hw : Hp} {x : Str} : Wk K c Hw (Its x) (signs x) where
  stop := fun H s => by show x.cps.size ≤ _; unfold signs; rw [List.length_map, Array.length_toList]; exact Nat.le_refl _
  go := fun i H hi s => by show i < x.cps.size; unfold signs at hi; rwa [List.length_map, Array.length_toList] at hi
  yld := fun i Hf H v H' s1 s2 hi ⟨e, u, hu, hv⟩ => by
    subst e
    refine ⟨Hf, Stp.refl s2, ⟨#[u]⟩, ?_, hv⟩
    unfold signs
    rw [List.getElem?_map, Array.getElem?_toList, hu]
    rfl
theorem i_str {z : Str} (h : E X c Γ iter z) : I X c Γ tg iter (signs z) := fun _ _ σ Hf H g R k =>
  ⟨_, pi_str pe_w, h _ _ σ Hf H g _ fun v Hf1 H1 s1 r1 => ⟨z, r1, k _ Hf1 H1 s1 wk_str⟩⟩
theorem e_lenB {z : By} (ha : E X c Γ a z) (hl : z.l.size ≤ sizeLine) (hm : X.mg "len" = none) (hg : Gl X "len" := by rfl) (he : starEach [a] X.env = (false, eval a X.env) :: starEach [] X.env := by rfl) : E X c Γ (.Call (.Name "len" p0) [a] [] pos) (z.l.size : Int) :=
  e_callB call_len (a_cons ha a_nil he) (fun Hf H vs s r Q k => by
    obtain ⟨v, rfl, h⟩ := pkl1 r
    exact ⟨_, z.l.size, rfl, by rw [show v = V.byt z.l from h]; exact ⟨hl, rfl⟩, k _ _ _ (Stp.refl s) rfl⟩) hg hm (by decide +kernel) (by decide) (by decide) he
theorem e_lenS {z : Str} (ha : E X c Γ a z) (hl : z.length ≤ sizeLine) (hm : X.mg "len" = none) (hg : Gl X "len" := by rfl) (he : starEach [a] X.env = (false, eval a X.env) :: starEach [] X.env := by rfl) : E X c Γ (.Call (.Name "len" p0) [a] [] pos) (z.length : Int) :=
  e_callB call_len (a_cons ha a_nil he) (fun Hf H vs s r Q k => by
    obtain ⟨v, rfl, h⟩ := pkl1 r
    exact ⟨_, z.length, rfl, by rw [show v = V.str z from h]; exact ⟨hl, rfl⟩, k _ _ _ (Stp.refl s) rfl⟩) hg hm (by decide +kernel) (by decide) (by decide) he
theorem e_ord {z : Str} (ha : E X c Γ a z) (hl : z.length = 1) (hm : X.mg "ord" = none) (hg : Gl X "ord" := by rfl) (he : starEach [a] X.env = (false, eval a X.env) :: starEach [] X.env := by rfl) : E X c Γ (.Call (.Name "ord" p0) [a] [] pos) ((z.cps.getD 0 0 : Nat) : Int) :=
  e_callB call_ord (a_cons ha a_nil he) (fun Hf H vs s r Q k => by
    obtain ⟨v, rfl, h⟩ := pkl1 r
    exact ⟨z, by rw [show v = V.str z from h], hl, k _ _ _ (Stp.refl s) rfl⟩) hg hm (by decide +kernel) (by decide) (by decide) he
/-- f'{e:..}' alone -/
theorem e_joined1 {y : Str} (h : E X c Γ e y) : E X c Γ (.JoinedStr [e] pos) y := fun _ _ σ Hf H g Q k => ⟨_, pe_joined1 pe_w, h _ _ σ Hf H g Q k⟩
end
end Pv
set_option maxHeartbeats 0
/-! Four ints and a list as one tuple -/
namespace Pv
open Rp (rp)
open Ow (ow)
open Da (toD)
open PySem L2
structure Lt5 : Type where
  s : Int
  t : Int
  k : Int
  v : Int
  cs : List (Tup Int)
instance : Rp Lt5 := ⟨fun K c H x l => ∃ p u, x = .ref p ∧ H p = some (.tup [.int l.s, .int l.t, .int l.k, .int l.v, u]) ∧ Rp.rp K c H u l.cs, fun s ⟨p, u, h1, h2, h3⟩ => ⟨p, u, h1, s _ _ h2, Rp.mono s h3⟩⟩
section
variable {X : Cx} {c : CL} {Γ : List Sl} {pos : Pos} {es : List Expr}
theorem e_tup5 {l : Lt5} {k : Nat} (h : As X c Γ es [⟨l.s⟩, ⟨l.t⟩, ⟨l.k⟩, ⟨l.v⟩, ⟨l.cs⟩]) : E X c Γ (.Tuple es k pos) l := fun _ _ σ Hf H g Q kk =>
  ⟨_, pe_tup pa_w, h _ _ σ Hf H g _ fun vs Hf1 H1 s1 r1 => by
    cases r1 with
    | cons a1 r1 => cases r1 with
      | cons a2 r1 => cases r1 with
        | cons a3 r1 => cases r1 with
          | cons a4 r1 => cases r1 with
            | cons a5 r1 =>
              cases r1
              refine ⟨by show 5 ≤ sizeLine; decide, fun p hp => kk _ _ _ (s1.trans (Stp.new s1.s hp)) ⟨p, _, rfl, ?_, Rp.mono (same_new (s1.s.free hp)) a5⟩⟩
              rw [upd_same]
              rw [show _ = V.int l.s from a1, show _ = V.int l.t from a2, show _ = V.int l.k from a3, show _ = V.int l.v from a4]⟩
theorem g_five {l : Lt5} {t1 t2 t3 t4 t5 : Expr} {k : Nat} {ts1 ts2 ts3 ts4 ts5 : List Nat} {f1 f2 f3 f4 f5 : List Sl → List Sl} (hc : X.calm = true) (h1 : G X c t1 l.s ts1 f1) (h2 : G X c t2 l.t ts2 f2) (h3 : G X c t3 l.k ts3 f3) (h4 : G X c t4 l.v ts4 f4) (h5 : G X c t5 l.cs ts5 f5)
    (hn : (assignEach [t1, t2, t3, t4, t5] X.env).length = 5 := by rfl) (hst : (assignEach [t1, t2, t3, t4, t5] X.env).findIdx? (·.1) = none := by rfl)
    (e1 : (assignEach [t1, t2, t3, t4, t5] X.env).map (·.2) = assign t1 X.env :: (assignEach [t2, t3, t4, t5] X.env).map (·.2) := by rfl) (e2 : (assignEach [t2, t3, t4, t5] X.env).map (·.2) = assign t2 X.env :: (assignEach [t3, t4, t5] X.env).map (·.2) := by rfl) (e3 : (assignEach [t3, t4, t5] X.env).map (·.2) = assign t3 X.env :: (assignEach [t4, t5] X.env).map (·.2) := by rfl)
    (e4 : (assignEach [t4, t5] X.env).map (·.2) = assign t4 X.env :: (assignEach [t5] X.env).map (·.2) := by rfl) (e5 : (assignEach [t5] X.env).map (·.2) = assign t5 X.env :: (assignEach [] X.env).map (·.2) := by rfl) :
    G X c (.Tuple [t1, t2, t3, t4, t5] k pos) l (ts1 ++ (ts2 ++ (ts3 ++ (ts4 ++ ts5)))) (fun Γ => f5 (f4 (f3 (f2 (f1 Γ))))) := fun Γ H0f H0 σ Hf H g v r Q q => by
  refine ⟨_, pg_tup hc (pgs_cons pg_w (pgs_cons pg_w (pgs_cons pg_w (pgs_cons pg_w (pgs_cons pg_w pgs_nil e5) e4) e3) e2) e1) hn hst, ?_⟩
  obtain ⟨p, u, rfl, s1, ru⟩ := r
  exact ⟨p, _, rfl, sqT_of (g.same _ _ s1), rfl, _, _, rfl, h1 Γ _ _ σ Hf H g _ rfl _ fun σ1 g1 w1 => ⟨_, _, rfl, h2 _ _ _ σ1 Hf H (g1 _ _ _ g) _ rfl _ fun σ2 g2 w2 => ⟨_, _, rfl, h3 _ _ _ σ2 Hf H (g2 _ _ _ (g1 _ _ _ g)) _ rfl _ fun σ3 g3 w3 =>
    ⟨_, _, rfl, h4 _ _ _ σ3 Hf H (g3 _ _ _ (g2 _ _ _ (g1 _ _ _ g))) _ rfl _ fun σ4 g4 w4 => ⟨_, _, rfl, h5 _ _ _ σ4 Hf H (g4 _ _ _ (g3 _ _ _ (g2 _ _ _ (g1 _ _ _ g)))) _ ru _ fun σ5 g5 w5 => ⟨rfl, q σ5 (fun _ _ _ z => g5 _ _ _ (g4 _ _ _ (g3 _ _ _ (g2 _ _ _ (g1 _ _ _ z))))) (w1.trans (w2.trans (w3.trans (w4.trans w5))))⟩⟩⟩⟩⟩⟩
end
end Pv
set_option maxHeartbeats 0
/-! Owned lists: lent, measured; values that do not lean on lists -/
namespace Pv
open Rp (rp)
open Ow (ow)
open Da (toD)
open PySem L2
/-- values that do not lean on a list -/
class AwL (α : Type) extends Rp α where
  awl : ∀ {K c H v a q}, (∀ o, H q = some o → ∃ vs, o = .lst vs) → rp K c H v a → rp K c (del H q) v a
instance : AwL Int := ⟨fun _ h => h⟩
instance : AwL Bool := ⟨fun _ h => h⟩
instance : AwL Str := ⟨fun _ h => h⟩
instance : AwL By := ⟨fun _ h => h⟩
theorem del_l {H : Hp} {q a : Addr} {o : HO} (hq : ∀ o, H q = some o → ∃ vs, o = .lst vs) (h : H a = some o) (hn : ∀ vs, o ≠ .lst vs) : del H q a = some o := by
  have e : a ≠ q := fun z => by
    subst z
    obtain ⟨vs, e⟩ := hq o h
    exact hn vs e
  rw [del_ne e]; exact h
instance {α : Type} [AwL α] : AwL (Tup α) where
  awl := fun {K c H v a q} hq ⟨p, vs, h1, h2, h3⟩ => ⟨p, vs, h1, del_l hq h2 (fun _ z => nomatch z), paired_imp (fun x y h => AwL.awl hq h) h3⟩
inductive AwLF : List (Str × Pk) → Prop
  | nil : AwLF []
  | cons {n : Str} {α : Type} [AwL α] {a : α} {fs : List (Str × Pk)} (t : AwLF fs) : AwLF ((n, ⟨a⟩) :: fs)
theorem AwLF.fr {K : PySem.W.Frag} {c : CL} {H : Hp} {q : Addr} {fs : List (Str × Pk)} (w : AwLF fs) (hq : ∀ o, H q = some o → ∃ vs, o = .lst vs) : ∀ {vs : List (Str × V)}, FR K c H vs fs → FR K c (del H q) vs fs := by
  induction w with
  | nil => intro vs h; cases h; exact .nil
  | cons t ih =>
    intro vs h
    cases h with
    | cons h t' => exact .cons (AwL.awl hq h) (ih t')
section
variable {X : Cx} {c : CL} {Γ : List Sl} {W : WX} {D : En} {rest : List Stmt} {pos p0 p1 : Pos} {a b e : Expr} {es : List Expr} {α : Type} [Rp α] {xs : List α}
theorem EnvOk.lendL {K : PySem.W.Frag} {H0f H0 Hf H : Hp} {σ : L2.St} {i : Nat} (g : EnvOk K c H0f H0 Hf H σ Γ) (hΓ : Γ[i]? = some (o xs)) :
    ∃ q Hf1, EnvOk K c H0f H0 Hf1 H σ (Γ.set i (d xs)) ∧ (∀ o, Hf1 q = some o → ∃ vs, o = .lst vs) ∧ ∀ Hf2 H2, Stp Hf1 H Hf2 H2 → Stp Hf H (del Hf2 q) H2 ∧ (∀ o, Hf2 q = some o → ∃ vs, o = .lst vs) := by
  obtain ⟨Hf1, R, v, e1, ⟨p, vs, w1, w2, w3, w4⟩, hout, hin, s, g'⟩ := g.freeze' hΓ (α := List α) (x := xs) (by
    rintro R v ⟨p, vs, h1, h2, h3, h4⟩ sf
    refine ⟨p, vs, h1, .inl (.inl ?_), h4.mono sf⟩
    simp only [h2, List.mem_singleton, if_pos]
    exact h3)
  subst w2
  have hq : Hf p = none := hin p List.mem_cons_self
  have hp1 : ∀ {Hf2 H2}, Stp Hf1 H Hf2 H2 → ∀ o, Hf2 p = some o → ∃ vs, o = .lst vs := fun {Hf2 H2} st o ho => by
    have := st.s p o ho
    rw [st.h p _ w3] at this
    exact ⟨vs, (Option.some.inj this).symm⟩
  refine ⟨p, Hf1, g', fun o ho => hp1 (Stp.refl g'.same) o ho, fun Hf2 H2 st => ⟨⟨fun a o' ha => ?_, st.h, fun a o' ha => ?_, fun a o' z1 z2 n => ?_⟩, hp1 st⟩⟩
  · rw [del_ne (ne_of_none ha hq)]; exact st.f a o' (s a o' ha)
  · by_cases z : a = p
    · subst z; unfold del at ha; rw [if_pos rfl] at ha; cases ha
    · rw [del_ne z] at ha; exact st.s a o' ha
  · by_cases z : a = p
    · subst z; exact if_pos rfl
    · rw [del_ne z]; exact st.d a o' (by rw [hout a (fun y => z (List.mem_singleton.mp y))]; exact z1) z2 n
theorem t_lendL (i : Nat) {z : Bool} (hΓ : Γ[i]? = some (o xs)) (h : T X c (Γ.set i (d xs)) e z) : T X c Γ e z := fun _ _ σ Hf H g Q k => by
  obtain ⟨q, Hf1, g', _, st⟩ := g.lendL hΓ
  exact h _ _ σ Hf1 H g' Q fun Hf2 H2 s2 => k _ H2 (st Hf2 H2 s2).1
theorem e_lendL (i : Nat) {β : Type} [AwL β] {z : β} (hΓ : Γ[i]? = some (o xs)) (h : E X c (Γ.set i (d xs)) e z) : E X c Γ e z := fun _ _ σ Hf H g Q k => by
  obtain ⟨q, Hf1, g', _, st⟩ := g.lendL hΓ
  exact h _ _ σ Hf1 H g' Q fun v Hf2 H2 s2 r2 => k v _ H2 (st Hf2 H2 s2).1 (AwL.awl (st Hf2 H2 s2).2 r2)
/-- an object of an own class whose fields lean on no list -/
theorem e_lendLO (i : Nat) {γ : Type} [Ob γ] {ob : γ} (w : AwLF (Ob.fl ob)) (hΓ : Γ[i]? = some (o xs)) (h : E X c (Γ.set i (d xs)) e ob) : E X c Γ e ob := fun _ _ σ Hf H g Q k => by
  obtain ⟨q, Hf1, g', _, st⟩ := g.lendL hΓ
  refine h _ _ σ Hf1 H g' Q fun v Hf2 H2 s2 r2 => k v _ H2 (st Hf2 H2 s2).1 ?_
  obtain ⟨p, dx, fvs, e1, e2, e3⟩ := Ob.iff.mp r2
  exact Ob.iff.mpr ⟨p, dx, fvs, e1, del_l (st Hf2 H2 s2).2 e2 (fun _ z => nomatch z), w.fr (st Hf2 H2 s2).2 e3⟩
theorem e_lenOw (i : Nat) {y : Str} (hΓ : Γ[i]? = some (o xs)) (hm : X.mg "len" = none) (hN : X.N[i]? = some y := by rfl) (hg : Gl X "len" := by rfl)
    (hv : Vis X.env.scope y := by first | exact Or.inl rfl | exact Or.inr (Or.inl rfl) | exact Or.inr (Or.inr rfl)) (hd : (y == ("__debug__" : Str)) = false := by decide) (hcd : (y == ("__classdict__" : Str)) = false := by decide) (he : starEach [.Name y p1] X.env = (false, eval (.Name y p1) X.env) :: starEach [] X.env := by rfl) : E X c Γ (.Call (.Name "len" p0) [.Name y p1] [] pos) (xs.length : Int) := by
  have hlt : i < Γ.length := (List.getElem?_eq_some_iff.mp hΓ).1
  exact e_lendL i hΓ (e_len (as := xs) (e_var i (List.getElem?_set_self hlt) hN hv hd hcd) hm hg he)
theorem e_tupcT {t : Tup α} (ha : E X c Γ a t) (hm : X.mg "tuple" = none) (hg : Gl X "tuple" := by rfl) (he : starEach [a] X.env = (false, eval a X.env) :: starEach [] X.env := by rfl) : E X c Γ (.Call (.Name "tuple" p0) [a] [] pos) t :=
  e_callTy call_tuple_of (a_cons ha a_nil he) (fun Hf H vs s r Q k => by
    obtain ⟨v, rfl, q, ys, rfl, h2, h3⟩ := pkl1 r
    exact ⟨q, ys, rfl, .inr ⟨sqT_of (s _ _ h2), k _ _ _ (Stp.refl s) ⟨q, ys, rfl, h2, h3⟩⟩⟩) hg hm (by decide +kernel) (by decide) (by decide) he
end
end Pv
set_option maxHeartbeats 0
/-! Bags of cells: objects, dicts and lists that lean on one another, owned together -/
namespace Pv
open Rp (rp)
open Ow (ow)
open Da (toD)
open PySem L2
/-- what may stand in a cell -/
structure Ce where
  ok : PySem.W.Frag → CL → Hp → HO → Prop
  mono : ∀ {K c H H' o}, Same H H' → ok K c H o → ok K c H' o
  nt : ∀ {K c H o}, ok K c H o → NT o
def ceL {α : Type} [Rp α] (xs : List α) : Ce := ⟨fun K c H o => ∃ vs, o = .lst vs ∧ RpL K c H vs xs, fun s ⟨vs, h1, h2⟩ => ⟨vs, h1, h2.mono s⟩, fun ⟨vs, h1, _⟩ => by rw [h1]; trivial⟩
def ceD {α : Type} [Rp α] (l : List (List Int × α)) : Ce := ⟨fun K c H o => ∃ kvs, o = .dT kvs ∧ DR K c H kvs l, fun s ⟨vs, h1, h2⟩ => ⟨vs, h1, h2.mono s⟩, fun ⟨vs, h1, _⟩ => by rw [h1]; trivial⟩
def ceO (cls : String) (fs : List (Str × Pk)) : Ce := ⟨fun K c H o => ∃ dx fvs, o = .ins (c cls) dx fvs ∧ FR K c H fvs fs, fun s ⟨dx, vs, h1, h2⟩ => ⟨dx, vs, h1, h2.mono s⟩, fun ⟨dx, vs, h1, _⟩ => by rw [h1]; trivial⟩
/-- cells by keys -/
structure Bc (ι : Type) where
  root : ι
  ks : List ι
  ad : ι → Addr
  ce : ι → Ce
structure Bg (ι : Type) : Type 1 where
  b : Bc ι
instance {ι : Type} : Ow (Bg ι) where
  ow := fun K c Hf H R v b => v = .ref (b.b.ad b.b.root) ∧ R = b.b.ks.map b.b.ad ∧ R.Nodup ∧ ∀ i ∈ b.b.ks, ∃ o, H (b.b.ad i) = some o ∧ (b.b.ce i).ok K c Hf o
  stay := fun s e ⟨h1, h2, h3, h4⟩ => ⟨h1, h2, h3, fun i hi => by
    obtain ⟨o, e1, e2⟩ := h4 i hi
    exact ⟨o, by rw [e _ (by rw [h2]; exact List.mem_map_of_mem hi)]; exact e1, Ce.mono _ s e2⟩⟩
  here := fun ⟨h1, h2, h3, h4⟩ a ha => by
    rw [h2] at ha
    obtain ⟨i, hi, rfl⟩ := List.mem_map.mp ha
    obtain ⟨o, e1, e2⟩ := h4 i hi
    exact ⟨o, e1, Ce.nt _ e2⟩
/-- a bag that is read only -/
instance {ι : Type} : Rp (Bc ι) := ⟨fun K c H v b => v = .ref (b.ad b.root) ∧ ∀ i ∈ b.ks, ∃ o, H (b.ad i) = some o ∧ (b.ce i).ok K c H o, fun s ⟨h1, h4⟩ => ⟨h1, fun i hi => by
    obtain ⟨o, e1, e2⟩ := h4 i hi
    exact ⟨o, s _ _ e1, Ce.mono _ s e2⟩⟩⟩
/-- the cells stand there -/
def Rdb {ι : Type} (X : Cx) (c : CL) (Γ : List Sl) (b : Bc ι) : Prop := ∀ (H0f H0 : Hp) (σ : L2.St) (Hf H : Hp), EnvOk X.K c H0f H0 Hf H σ Γ → ∀ i ∈ b.ks, ∃ o, H (b.ad i) = some o ∧ (b.ce i).ok X.K c Hf o
section
variable {X : Cx} {c : CL} {Γ : List Sl} {W : WX} {D : En} {rest : List Stmt} {pos p0 p1 apos : Pos} {a e i ix o : Expr} {es : List Expr} {ι : Type} {b : Bc ι} {k : ι}
theorem rd_own (s : Nat) (h : Γ[s]? = some (.own (Bg.mk b))) : Rdb X c Γ b := fun _ _ σ Hf H g => by
  obtain ⟨_, _, _, ⟨_, _, _, h4⟩, _, _⟩ := g.own h
  exact h4
theorem env_dat {K : PySem.W.Frag} {H0f H0 Hf H : Hp} {σ : L2.St} (g : EnvOk K c H0f H0 Hf H σ Γ) {s : Nat} {α : Type} [Rp α] {x : α} (h : Γ[s]? = some (d x)) : ∃ v, σ[s]? = some (some v) ∧ rp K c Hf v x := by
  obtain ⟨_, h2, R, h3, _⟩ := g
  have hlt : s < Γ.length := (List.getElem?_eq_some_iff.mp h).1
  have hs : σ[s]? = some σ[s] := List.getElem?_eq_getElem (by omega)
  obtain ⟨v, e1, e2⟩ := h3 s _ _ hs h
  exact ⟨v, by rw [hs, e1], e2⟩
theorem rd_dat (s : Nat) (h : Γ[s]? = some (d b)) : Rdb X c Γ b := fun _ _ σ Hf H g i hi => by
  obtain ⟨v, _, _, h4⟩ := env_dat g h
  obtain ⟨o, e1, e2⟩ := h4 i hi
  exact ⟨o, g.same _ _ e1, e2⟩
theorem e_rootO (s : Nat) {x : Str} (h : Γ[s]? = some (.own (Bg.mk b))) (hN : X.N[s]? = some x := by rfl) (hv : Vis X.env.scope x := by first | exact Or.inl rfl | exact Or.inr (Or.inl rfl) | exact Or.inr (Or.inr rfl))
    (hd : (x == ("__debug__" : Str)) = false := by decide) (hcd : (x == ("__classdict__" : Str)) = false := by decide) : E X c Γ (.Name x pos) (Adr.mk (b.ad b.root)) := fun _ _ σ Hf H g Q k => by
  obtain ⟨_, v, e1, ⟨e2, _⟩, _, _⟩ := g.own h
  exact ⟨_, pe_var hN hv hd hcd, v, e1, k v Hf H (Stp.refl g.same) e2⟩
theorem e_rootD (s : Nat) {x : Str} (h : Γ[s]? = some (d b)) (hN : X.N[s]? = some x := by rfl) (hv : Vis X.env.scope x := by first | exact Or.inl rfl | exact Or.inr (Or.inl rfl) | exact Or.inr (Or.inr rfl))
    (hd : (x == ("__debug__" : Str)) = false := by decide) (hcd : (x == ("__classdict__" : Str)) = false := by decide) : E X c Γ (.Name x pos) (Adr.mk (b.ad b.root)) := fun _ _ σ Hf H g Q k => by
  obtain ⟨v, e1, e2, _⟩ := env_dat g h
  exact ⟨_, pe_var hN hv hd hcd, v, e1, k v Hf H (Stp.refl g.same) e2⟩
/-! ### reading -/
section
variable (rb : Rdb X c Γ b) (hk : k ∈ b.ks)
include rb hk
theorem e_fldB {cls : String} {fs : List (Str × Pk)} {f : Str} {α : Type} [Rp α] {z : α} (hc : b.ce k = ceO cls fs) (T : Cls X.K (c cls)) (na : NoAttr X.K (c cls) f) (h : E X c Γ o (Adr.mk (b.ad k))) (hz : fs.lookup f = some ⟨z⟩) (hb : attributeBase o f X.env (eval o X.env) = eval o X.env := by rfl) : E X c Γ (.Attribute o f pos) z := fun _ _ σ Hf H g Q q =>
  ⟨_, pe_fld pe_w hb, h _ _ σ Hf H g _ fun v Hf1 H1 s1 r1 => by
    obtain ⟨u, h1, h2⟩ := rb _ _ σ Hf1 H1 (g.step s1) k hk
    rw [hc] at h2
    obtain ⟨dx, fvs, rfl, h3⟩ := h2
    obtain ⟨w, h4, h5⟩ := h3.get hz
    exact ⟨_, _, dx, fvs, w, r1, h1, T, na, h4, q w Hf1 H1 s1 h5⟩⟩
theorem dgetB {α : Type} [Rp α] {l : List (List Int × α)} (hc : b.ce k = ceD l) {H0f H0 Hf H : Hp} {σ : L2.St} (g : EnvOk X.K c H0f H0 Hf H σ Γ) {t : Tup Int} {v : V} (r : rp X.K c Hf v t) : (dtGet l t.l = none ∧ DGet H (b.ad k) v none) ∨ ∃ u z, dtGet l t.l = some z ∧ DGet H (b.ad k) v (some u) ∧ rp X.K c Hf u z := by
  obtain ⟨u, h1, h2⟩ := rb _ _ σ Hf H g k hk
  rw [hc] at h2
  obtain ⟨kvs, rfl, h3⟩ := h2
  obtain ⟨q, us, rfl, t1, t2⟩ := r
  have t1 := g.same _ _ t1
  rw [rpl_ints t2, ← kT_kV] at t1
  rcases h3.get t.l with ⟨e1, e2⟩ | ⟨v, w, e1, e2, e3⟩
  · exact .inl ⟨e2, e1 ▸ DGet.t h1 t1⟩
  · exact .inr ⟨v, w, e2, e1 ▸ DGet.t h1 t1, e3⟩
theorem e_dGetB {α : Type} [Rp α] {l : List (List Int × α)} {t : Tup Int} {z : α} (hc : b.ce k = ceD l) (hu : X.A.units + 1 < cLine) (ha : E X c Γ a (Adr.mk (b.ad k))) (hi : E X c Γ i t) (hz : dtGet l t.l = some z) (hm : NoSl i := by exact fun _ _ => rfl) : E X c Γ (.Subscript a i pos) z := fun _ _ σ Hf H g Q q =>
  ⟨_, pe_dget hu pe_w pe_w hm, ha _ _ σ Hf H g _ fun u Hf1 H1 s1 r1 => hi _ _ σ Hf1 H1 (g.step s1) _ fun v Hf2 H2 s2 r2 => by
    rcases dgetB rb hk hc ((g.step s1).step s2) r2 with ⟨e1, _⟩ | ⟨w, z', e1, e2, e3⟩
    · rw [hz] at e1; cases e1
    · rw [hz] at e1
      obtain rfl := Option.some.inj e1
      exact ⟨_, w, r1, e2, q w Hf2 H2 (s1.trans s2) e3⟩⟩
theorem e_dInB {α : Type} [Rp α] {l : List (List Int × α)} {t : Tup Int} (hc : b.ce k = ceD l) (hu : X.A.units + 1 < cLine) (hi : E X c Γ i t) (ha : E X c Γ a (Adr.mk (b.ad k))) (hm : behindInMarks .In a = false := by rfl) : E X c Γ (.Compare i [.In] [a] pos) (dtGet l t.l).isSome := fun _ _ σ Hf H g Q q =>
  ⟨_, pe_cmp (pc_din hu pe_w pe_w) hm, hi _ _ σ Hf H g _ fun v Hf1 H1 s1 r1 => ha _ _ σ Hf1 H1 (g.step s1) _ fun u Hf2 H2 s2 r2 => by
    rcases dgetB rb hk hc ((g.step s1).step s2) (Rp.mono s2.f r1) with ⟨e1, e2⟩ | ⟨w, z', e1, e2, e3⟩
    · exact ⟨_, _, r2, e2, q _ Hf2 H2 (s1.trans s2) (by rw [e1]; rfl)⟩
    · exact ⟨_, _, r2, e2, q _ Hf2 H2 (s1.trans s2) (by rw [e1]; rfl)⟩⟩
theorem e_dNotInB {α : Type} [Rp α] {l : List (List Int × α)} {t : Tup Int} (hc : b.ce k = ceD l) (hu : X.A.units + 1 < cLine) (hi : E X c Γ i t) (ha : E X c Γ a (Adr.mk (b.ad k))) (hm : behindInMarks .NotIn a = false := by rfl) : E X c Γ (.Compare i [.NotIn] [a] pos) (!(dtGet l t.l).isSome) := fun _ _ σ Hf H g Q q =>
  ⟨_, pe_cmp (pc_dnotin hu pe_w pe_w) hm, hi _ _ σ Hf H g _ fun v Hf1 H1 s1 r1 => ha _ _ σ Hf1 H1 (g.step s1) _ fun u Hf2 H2 s2 r2 => by
    rcases dgetB rb hk hc ((g.step s1).step s2) (Rp.mono s2.f r1) with ⟨e1, e2⟩ | ⟨w, z', e1, e2, e3⟩
    · exact ⟨_, _, r2, e2, q _ Hf2 H2 (s1.trans s2) (by rw [e1]; rfl)⟩
    · exact ⟨_, _, r2, e2, q _ Hf2 H2 (s1.trans s2) (by rw [e1]; rfl)⟩⟩
theorem e_ixB {α : Type} [Rp α] {xs : List α} {j : Int} {z : α} (hc : b.ce k = ceL xs) (ha : E X c Γ a (Adr.mk (b.ad k))) (hi : E X c Γ i j) (hz : atI xs j = some z) (hp : PlainIx i := by exact fun _ _ => rfl) : E X c Γ (.Subscript a i pos) z := fun _ _ σ Hf H g Q q =>
  ⟨_, pe_ix ix_list pe_w pe_w hp, ha _ _ σ Hf H g _ fun u Hf1 H1 s1 r1 => hi _ _ σ Hf1 H1 (g.step s1) _ fun v Hf2 H2 s2 r2 => by
    obtain ⟨u', h1, h2⟩ := rb _ _ σ Hf2 H2 ((g.step s1).step s2) k hk
    rw [hc] at h2
    obtain ⟨vs, rfl, h3⟩ := h2
    obtain ⟨w, h4, h5⟩ := atI_rp h3 hz
    exact ⟨_, vs, j, w, r1, r2, SqL.of h1, h4, q w Hf2 H2 (s1.trans s2) h5⟩⟩
end
/-- a cell's list, where the bag is lent -/
theorem e_deL (s : Nat) {α : Type} [Rp α] {xs : List α} (h : Γ[s]? = some (d b)) (hk : k ∈ b.ks) (hc : b.ce k = ceL xs) (ha : E X c Γ a (Adr.mk (b.ad k))) : E X c Γ a xs := fun _ _ σ Hf H g Q q =>
  ha _ _ σ Hf H g Q fun v Hf1 H1 s1 r1 => by
    obtain ⟨_, _, _, h4⟩ := env_dat (g.step s1) h
    obtain ⟨u, h1, h2⟩ := h4 k hk
    rw [hc] at h2
    obtain ⟨vs, rfl, h3⟩ := h2
    exact q v Hf1 H1 s1 ⟨_, vs, r1, .inl (.inl h1), h3⟩
end
/-! ### lent -/
def delR (H : Hp) (R : List Addr) : Hp := fun a => if a ∈ R then none else H a
theorem delR_in {H : Hp} {R : List Addr} {a : Addr} (h : a ∈ R) : delR H R a = none := if_pos h
theorem delR_out {H : Hp} {R : List Addr} {a : Addr} (h : a ∉ R) : delR H R a = H a := if_neg h
theorem of_delR {H : Hp} {R : List Addr} {a : Addr} {o : HO} (h : delR H R a = some o) : a ∉ R ∧ H a = some o := by
  by_cases z : a ∈ R
  · rw [delR_in z] at h; cases h
  · rw [delR_out z] at h; exact ⟨z, h⟩
theorem delR_same {H : Hp} {R : List Addr} : Same (delR H R) H := fun a o h => (of_delR h).2
/-- values that do not lean on what is no tuple -/
class AwT (α : Type) extends Rp α where
  awt : ∀ {K c H v a R}, (∀ q ∈ R, ∀ o, H q = some o → NT o) → rp K c H v a → rp K c (delR H R) v a
instance : AwT Int := ⟨fun _ h => h⟩
instance : AwT Bool := ⟨fun _ h => h⟩
instance : AwT Unit := ⟨fun _ h => h⟩
instance : AwT Str := ⟨fun _ h => h⟩
instance : AwT By := ⟨fun _ h => h⟩
instance : AwT Adr := ⟨fun _ h => h⟩
instance {α : Type} [AwT α] : AwT (Tup α) where
  awt := fun {K c H v a R} hq ⟨p, vs, h1, h2, h3⟩ => ⟨p, vs, h1, by
    have z : p ∉ R := fun z => hq p z _ h2
    rw [delR_out z]; exact h2, paired_imp (fun x y h => AwT.awt hq h) h3⟩
section
variable {X : Cx} {c : CL} {Γ : List Sl} {e : Expr} {ι : Type} {b : Bc ι}
theorem EnvOk.lendB {K : PySem.W.Frag} {H0f H0 Hf H : Hp} {σ : L2.St} {s : Nat} (g : EnvOk K c H0f H0 Hf H σ Γ) (hΓ : Γ[s]? = some (.own (Bg.mk b))) :
    ∃ R Hf1, EnvOk K c H0f H0 Hf1 H σ (Γ.set s (d b)) ∧ (∀ a ∈ R, ∃ o, H a = some o) ∧ ∀ Hf2 H2, Stp Hf1 H Hf2 H2 → Stp Hf H (delR Hf2 R) H2 ∧ (∀ q ∈ R, ∀ o, Hf2 q = some o → NT o) := by
  obtain ⟨Hf1, R, v, e1, ⟨w1, w2, w3, w4⟩, hout, hin, sm, g'⟩ := g.freeze' hΓ (α := Bc ι) (x := b) (by
    rintro R v ⟨h1, h2, h3, h4⟩ sf
    refine ⟨h1, fun i hi => ?_⟩
    obtain ⟨o, q1, q2⟩ := h4 i hi
    refine ⟨o, ?_, Ce.mono _ sf q2⟩
    show (if b.ad i ∈ R then H (b.ad i) else Hf (b.ad i)) = some o
    rw [if_pos (by rw [h2]; exact List.mem_map_of_mem hi)]
    exact q1)
  have hR : ∀ a ∈ R, ∃ o, H a = some o ∧ NT o := fun a ha => by
    rw [w2] at ha
    obtain ⟨i, hi, rfl⟩ := List.mem_map.mp ha
    obtain ⟨o, q1, q2⟩ := w4 i hi
    exact ⟨o, q1, Ce.nt _ q2⟩
  refine ⟨R, Hf1, g', fun a ha => (hR a ha).imp fun o h => h.1, fun Hf2 H2 st => ⟨⟨fun a o' ha => ?_, st.h, fun a o' ha => ?_, fun a o' z1 z2 n => ?_⟩, fun q hq o ho => ?_⟩⟩
  · have z : a ∉ R := fun z => by rw [hin a z] at ha; cases ha
    rw [delR_out z]; exact st.f a o' (sm a o' ha)
  · obtain ⟨z, ha⟩ := of_delR ha
    exact st.s a o' ha
  · by_cases z : a ∈ R
    · exact delR_in z
    · rw [delR_out z]; exact st.d a o' (by rw [hout a z]; exact z1) z2 n
  · obtain ⟨o', h1, h2⟩ := hR q hq
    have := st.s q o ho
    rw [st.h q _ h1] at this
    cases this
    exact h2
theorem t_lendB (s : Nat) {z : Bool} (hΓ : Γ[s]? = some (.own (Bg.mk b))) (h : T X c (Γ.set s (d b)) e z) : T X c Γ e z := fun _ _ σ Hf H g Q k => by
  obtain ⟨R, Hf1, g', _, st⟩ := g.lendB hΓ
  exact h _ _ σ Hf1 H g' Q fun Hf2 H2 s2 => k _ H2 (st Hf2 H2 s2).1
theorem e_lendB (s : Nat) {α : Type} [AwT α] {z : α} (hΓ : Γ[s]? = some (.own (Bg.mk b))) (h : E X c (Γ.set s (d b)) e z) : E X c Γ e z := fun _ _ σ Hf H g Q k => by
  obtain ⟨R, Hf1, g', _, st⟩ := g.lendB hΓ
  exact h _ _ σ Hf1 H g' Q fun v Hf2 H2 s2 r2 => k v _ H2 (st Hf2 H2 s2).1 (AwT.awt (st Hf2 H2 s2).2 r2)
theorem eo_lendB (s : Nat) {α : Type} [AwT α] {xs : List α} (hΓ : Γ[s]? = some (.own (Bg.mk b))) (h : EO X c (Γ.set s (d b)) e (OwL.mk xs)) : EO X c Γ e (OwL.mk xs) := fun _ _ σ Hf H g Q k => by
  obtain ⟨R, Hf1, g', _, st⟩ := g.lendB hΓ
  refine h _ _ σ Hf1 H g' Q fun v R2 Hf2 H2 s2 hR2 ⟨p, vs, h1, h2, h3, h4⟩ => k v R2 _ H2 (st Hf2 H2 s2).1 (fun a ha => ⟨(hR2 a ha).1, ?_⟩) ⟨p, vs, h1, h2, h3, paired_imp (fun x y h => AwT.awt (st Hf2 H2 s2).2 h) h4⟩
  by_cases z : a ∈ R
  · exact delR_in z
  · rw [delR_out z]; exact (hR2 a ha).2
end
/-! ### changing -/
def Bc.put {ι : Type} [DecidableEq ι] (b : Bc ι) (k : ι) (x : Ce) : Bc ι := { b with ce := fun i => if i = k then x else b.ce i }
section
variable {X : Cx} {c : CL} {Γ : List Sl} {W : WX} {D : En} {rest : List Stmt} {pos p0 p1 p2 p3 apos : Pos} {a e i ix o : Expr} {es : List Expr} {ι : Type} [DecidableEq ι] {b : Bc ι} {k : ι}
theorem EnvOk.putB {K : PySem.W.Frag} {H0f H0 Hf H : Hp} {σ : L2.St} {s : Nat} (g : EnvOk K c H0f H0 Hf H σ Γ) (hΓ : Γ[s]? = some (.own (Bg.mk b))) (hk : k ∈ b.ks) {x : Ce} {u : HO} (hx : x.ok K c Hf u) : EnvOk K c H0f H0 Hf (upd H (b.ad k) u) σ (Γ.set s (.own (Bg.mk (b.put k x)))) := by
  obtain ⟨R, v, e1, ⟨h1, h2, h3, h4⟩, hR, up⟩ := g.own hΓ
  refine up (Bg ι) _ _ R _ (fun q o' hq hn => ?_) (fun q hq => .inl hq) ⟨h1, h2, h3, fun j hj => ?_⟩
  · have hn : q ∉ R := hn
    rw [upd_ne fun z => hn (by rw [z, h2]; exact List.mem_map_of_mem hk)]; exact hq
  · show ∃ o, upd H (b.ad k) u (b.ad j) = some o ∧ (if j = k then x else b.ce j).ok K c Hf o
    by_cases z : j = k
    · subst z
      rw [if_pos rfl, upd_same]
      exact ⟨u, rfl, hx⟩
    · rw [if_neg z]
      have hne : b.ad j ≠ b.ad k := fun y => by
        rw [h2] at h3
        exact z (inj_nodup h3 hj hk y)
      rw [upd_ne hne]
      exact h4 j hj
where
  inj_nodup {ι : Type} {f : ι → Addr} : ∀ {l : List ι}, (l.map f).Nodup → ∀ {x y : ι}, x ∈ l → y ∈ l → f x = f y → x = y
    | [], _, _, _, h, _, _ => by cases h
    | z :: l, nd, x, y, hx, hy, e => by
      rw [List.map_cons, List.nodup_cons] at nd
      rcases List.mem_cons.mp hx with hx' | hx'
      · rcases List.mem_cons.mp hy with hy' | hy'
        · rw [hx', hy']
        · exact absurd (show f z ∈ l.map f by rw [← hx', e]; exact List.mem_map_of_mem hy') nd.1
      · rcases List.mem_cons.mp hy with hy' | hy'
        · exact absurd (show f z ∈ l.map f by rw [← hy', ← e]; exact List.mem_map_of_mem hx') nd.1
        · exact inj_nodup nd.2 hx' hy' e
theorem key_of {K : PySem.W.Frag} {H Hf : Hp} {v : V} {t : Tup Int} (s : Same Hf H) (r : rp K c Hf v t) : ∃ q, v = .ref q ∧ H q = some (.tup ((kT t.l).map kV)) := by
  obtain ⟨q, us, rfl, t1, t2⟩ := r
  exact ⟨q, rfl, by rw [kT_kV, ← rpl_ints t2]; exact s _ _ t1⟩
/-- d[t] = e, d a cell -/
theorem ss_putB (s : Nat) {t : Tup Int} {α : Type} [Rp α] {l : List (List Int × α)} {v : α} (hΓ : Γ[s]? = some (.own (Bg.mk b))) (hk : k ∈ b.ks) (hc : b.ce k = ceD l) (hu : X.A.units + 1 < cLine) (he : E X c Γ e v) (ha : E X c Γ a (Adr.mk (b.ad k))) (hi : E X c Γ ix t) (hl : l.length < 1000000) (hr : Ss X c W (Γ.set s (.own (Bg.mk (b.put k (ceD (dtPut l t.l v)))))) rest D)
    (hs : swapsWithSole [.Subscript a ix p2] e pos.line X.env = pure false := by rfl) (hw : swappedStores [.Subscript a ix p2] e X.env = pure none := by rfl) (h1 : (assignEach [.Subscript a ix p2] X.env).map (·.2) = [assign (.Subscript a ix p2) X.env] := by rfl)
    (hasg : ∀ v, assign (.Subscript a ix p2) X.env v = (do
      let ov ← holding [v] (eval a X.env)
      let iv ← holding [v, ov] (eval ix X.env)
      standAt p2
      holding [v, ov, iv] (setItem ov iv v)
      release [v, ov, iv] []) := by intro _; rfl) : Ss X c W Γ (.Assign [.Subscript a ix p2] e pos :: rest) D := fun _ _ σ Hf H g DD kk => by
  refine ⟨_, pss_cons (ps_asg pe_w (pg_sub pe_w pe_w (set_dict hu) hasg) hs hw h1) pss_w, he _ _ σ Hf H g _ fun u Hf1 H1 s1 r1 => ha _ _ σ Hf1 H1 (g.step s1) _ fun w Hf2 H2 s2 r2 => hi _ _ σ Hf2 H2 ((g.step s1).step s2) _ fun y Hf3 H3 s3 r3 => ?_⟩
  have g3 := ((g.step s1).step s2).step s3
  obtain ⟨u', h1, h2⟩ := rd_own (X := X) s hΓ _ _ _ _ _ g3 k hk
  rw [hc] at h2
  obtain ⟨kvs, rfl, h3⟩ := h2
  obtain ⟨q, rfl, hq⟩ := key_of g3.same r3
  refine ⟨b.ad k, _, r2, DPut.t h1 hq (by rw [h3.len, sizeLine_eq]; show l.length < _; omega), ?_⟩
  exact hr _ _ σ Hf3 _ (g3.putB hΓ hk ⟨_, rfl, h3.put t.l (Rp.mono (s2.f.trans s3.f) r1)⟩) DD (kk.mono ((s1.f.trans s2.f).trans s3.f))
/-- d[t] += e of ints, d a cell -/
theorem ss_augDB (s : Nat) {t : Tup Int} {l : List (List Int × Int)} {v z : Int} (hΓ : Γ[s]? = some (.own (Bg.mk b))) (hk : k ∈ b.ks) (hc : b.ce k = ceD l) (hu : X.A.units + 1 < cLine) (ha : E X c Γ a (Adr.mk (b.ad k))) (hi : E X c Γ ix t) (hz : dtGet l t.l = some z) (he : E X c Γ e v) (hl : l.length < 1000000) (hr : Ss X c W (Γ.set s (.own (Bg.mk (b.put k (ceD (dtPut l t.l (z + v))))))) rest D)
    (hag : ∀ ov iv new, augStore ix ov iv new = (do holding [new, ov, iv] (setItem ov iv new); release [new, ov, iv] []; pure .next) := by intro _ _ _; rfl) : Ss X c W Γ (.AugAssign (.Subscript a ix p2) .Add e pos :: rest) D := fun _ _ σ Hf H g DD kk => by
  refine ⟨_, pss_cons (ps_daug hu pe_w pe_w pe_w in_add hag) pss_w, ha _ _ σ Hf H g _ fun w Hf1 H1 s1 r1 => hi _ _ σ Hf1 H1 (g.step s1) _ fun y Hf2 H2 s2 r2 => ?_⟩
  have g2 := (g.step s1).step s2
  obtain ⟨q, rfl, hq⟩ := key_of g2.same r2
  rcases dgetB (rd_own s hΓ) hk hc g2 r2 with ⟨e1, _⟩ | ⟨u, z', e1, e2, e3⟩
  · rw [hz] at e1; cases e1
  rw [hz] at e1
  obtain rfl := Option.some.inj e1
  refine ⟨b.ad k, u, r1, e2, he _ _ σ Hf2 H2 g2 _ fun y2 Hf3 H3 s3 r3 => ?_⟩
  have g3 := g2.step s3
  obtain ⟨u', h1, h2⟩ := rd_own (X := X) s hΓ _ _ _ _ _ g3 k hk
  rw [hc] at h2
  obtain ⟨kvs, rfl, h3⟩ := h2
  refine ⟨z, v, e3, r3, _, DPut.t h1 (s3.h _ _ hq) (by rw [h3.len, sizeLine_eq]; show l.length < _; omega), ?_⟩
  exact hr _ _ σ Hf3 _ (g3.putB hΓ hk ⟨_, rfl, h3.put t.l (show rp X.K c Hf3 (V.int (z + v)) (z + v) from rfl)⟩) DD (kk.mono ((s1.f.trans s2.f).trans s3.f))
/-- l.append(e), l a cell -/
theorem ss_appB (s : Nat) {α : Type} [Rp α] {xs : List α} {v : α} (hΓ : Γ[s]? = some (.own (Bg.mk b))) (hk : k ∈ b.ks) (hc : b.ce k = ceL xs) (ha : E X c Γ a (Adr.mk (b.ad k))) (h : E X c Γ e v) (hl : xs.length < 1000000) (hr : Ss X c W (Γ.set s (.own (Bg.mk (b.put k (ceL (xs ++ [v])))))) rest D)
    (hpe : PE X (.Call (.Attribute a "append" p2) [e] [] p3) (tBM X.K "list" rAppend (wE X a) (tCons (wE X e) tNil)) := by exact pe_bm PySem.F.plainAttrs_list PySem.F.slot_list_append PySem.F.type_list_append mt_append pe_w (pa_cons pe_w pa_nil))
    (hs : swapsWith (.Call (.Attribute a "append" p2) [e] [] p3) none pos.line X.env = pure false := by rfl) : Ss X c W Γ (.Expr (.Call (.Attribute a "append" p2) [e] [] p3) pos :: rest) D := fun _ _ σ Hf H g DD kk => by
  refine ⟨_, pss_cons (ps_expr hpe hs) pss_w, ha _ _ σ Hf H g _ fun w Hf1 H1 s1 r1 => ?_⟩
  obtain ⟨u0, h01, h02⟩ := rd_own (X := X) s hΓ _ _ _ _ _ (g.step s1) k hk
  rw [hc] at h02
  obtain ⟨vs0, rfl, _⟩ := h02
  refine ⟨by rw [show w = V.ref (b.ad k) from r1]; exact .inl ⟨rfl, _, SqL.of h01⟩, h _ _ σ Hf1 H1 (g.step s1) _ fun y Hf2 H2 s2 r2 => ?_⟩
  have g2 := (g.step s1).step s2
  obtain ⟨u, h1, h2⟩ := rd_own (X := X) s hΓ _ _ _ _ _ g2 k hk
  rw [hc] at h2
  obtain ⟨vs, rfl, h3⟩ := h2
  refine ⟨_, vs, y, r1, rfl, h1, by rw [h3.len]; exact Nat.lt_of_lt_of_le hl (by decide), ?_⟩
  exact hr _ _ σ Hf2 _ (g2.putB hΓ hk ⟨_, rfl, paired_append h3 (.cons r2 .nil)⟩) DD (kk.mono (s1.f.trans s2.f))
end
end Pv
set_option maxHeartbeats 0
/-! Defs that are given bags and change them -/
namespace Pv
open Rp (rp)
open Ow (ow)
open Da (toD)
open PySem L2
inductive Ag : Type 1
  | p (x : Pk)
  | b {ι : Type} (x : Bc ι)
inductive AgL (K : PySem.W.Frag) (c : CL) (Hf H : Hp) : List V → List Ag → List Addr → Prop
  | nil : AgL K c Hf H [] [] []
  | p {v : V} {x : Pk} {vs : List V} {as : List Ag} {R : List Addr} (h : x.i.rp K c Hf v x.a) (t : AgL K c Hf H vs as R) : AgL K c Hf H (v :: vs) (.p x :: as) R
  | b {v : V} {ι : Type} {x : Bc ι} {R1 : List Addr} {vs : List V} {as : List Ag} {R : List Addr} (h : ow K c Hf H R1 v (Bg.mk x)) (hz : ∀ a ∈ R1, Hf a = none ∧ a ∉ R) (t : AgL K c Hf H vs as R) : AgL K c Hf H (v :: vs) (.b x :: as) (R1 ++ R)
/-- the same kinds, the bags at their places -/
inductive Shp : List Ag → List Ag → Prop
  | nil : Shp [] []
  | p {x y : Pk} {as as' : List Ag} (t : Shp as as') : Shp (.p x :: as) (.p x :: as')
  | b {ι : Type} {x x' : Bc ι} {as as' : List Ag} (e : x'.ad x'.root = x.ad x.root) (t : Shp as as') : Shp (.b x :: as) (.b x' :: as')
/-- at the end of a def its parameters' slots hold the bags -/
inductive Fin : List Ag → List Ag → List Sl → Prop
  | nil {Γ : List Sl} : Fin [] [] Γ
  | p {x : Pk} {as as' : List Ag} {s : Sl} {Γ : List Sl} (t : Fin as as' Γ) : Fin (.p x :: as) (.p x :: as') (s :: Γ)
  | b {ι : Type} {x x' : Bc ι} {as as' : List Ag} {Γ : List Sl} (e : x'.ad x'.root = x.ad x.root) (t : Fin as as' Γ) : Fin (.b x :: as) (.b x' :: as') (.own (Bg.mk x') :: Γ)
theorem AgL.len {K : PySem.W.Frag} {c : CL} {Hf H : Hp} {vs : List V} {as : List Ag} {R : List Addr} (h : AgL K c Hf H vs as R) : vs.length = as.length := by
  induction h with
  | nil => rfl
  | p h t ih => rw [List.length_cons, List.length_cons, ih]
  | b h z t ih => rw [List.length_cons, List.length_cons, ih]
def slotsG : List Ag → Nat → List Sl
  | [], n => List.replicate n .any
  | .p x :: as, n + 1 => .dat x :: slotsG as n
  | .b x :: as, n + 1 => .own (Bg.mk x) :: slotsG as n
  | _ :: _, 0 => []
theorem slotsG_len : ∀ {as : List Ag} {n : Nat}, as.length ≤ n → (slotsG as n).length = n
  | [], n, _ => by unfold slotsG; rw [List.length_replicate]
  | .p x :: as, n + 1, h => by unfold slotsG; rw [List.length_cons, slotsG_len (by simpa using h)]
  | .b x :: as, n + 1, h => by unfold slotsG; rw [List.length_cons, slotsG_len (by simpa using h)]
  | _ :: _, 0, h => by simp at h
section
variable {K : PySem.W.Frag} {c : CL}
theorem AgL.regs {Hf H : Hp} {vs : List V} {as : List Ag} {Rg : List Addr} (h : AgL K c Hf H vs as Rg) : ∀ n : Nat, ∃ R : Nat → List Addr, (∀ i o sl, ((vs.map some) ++ List.replicate n none)[i]? = some o → (slotsG as (as.length + n))[i]? = some sl → SlOk K c Hf H o (R i) sl) ∧ (∀ i j, i ≠ j → ∀ a ∈ R i, a ∉ R j) ∧ (∀ i, ∀ a ∈ R i, a ∈ Rg ∧ Hf a = none ∧ ∃ o, H a = some o ∧ NT o) := by
  intro n
  induction h with
  | nil =>
    refine ⟨fun _ => [], fun i o sl a b => ?_, fun i j _ a ha => (by cases ha), fun i a ha => (by cases ha)⟩
    unfold slotsG at b
    rw [List.getElem?_replicate] at b
    split at b
    · cases b; trivial
    · cases b
  | @p v x vs as R h t ih =>
    obtain ⟨R', h1, h2, h3⟩ := ih
    refine ⟨fun i => match i with | 0 => [] | i + 1 => R' i, fun i o sl a b => ?_, fun i j hij a ha hb => ?_, fun i a ha => ?_⟩
    · have e : (Ag.p x :: as).length + n = (as.length + n) + 1 := by rw [List.length_cons]; omega
      rw [e] at b
      cases i with
      | zero =>
        cases b; cases a
        exact ⟨v, rfl, h⟩
      | succ i => exact h1 i o sl a b
    · cases i with
      | zero => cases ha
      | succ i =>
        cases j with
        | zero => cases hb
        | succ j => exact h2 i j (fun z => hij (by rw [z])) a ha hb
    · cases i with
      | zero => cases ha
      | succ i => exact h3 i a ha
  | @b v ι x R1 vs as R h hz t ih =>
    obtain ⟨R', h1, h2, h3⟩ := ih
    refine ⟨fun i => match i with | 0 => R1 | i + 1 => R' i, fun i o sl a b => ?_, fun i j hij a ha hb => ?_, fun i a ha => ?_⟩
    · have e : (Ag.b x :: as).length + n = (as.length + n) + 1 := by rw [List.length_cons]; omega
      rw [e] at b
      cases i with
      | zero =>
        cases b; cases a
        exact ⟨v, rfl, h⟩
      | succ i => exact h1 i o sl a b
    · cases i with
      | zero =>
        cases j with
        | zero => exact hij rfl
        | succ j => exact (hz a ha).2 (h3 j a hb).1
      | succ i =>
        cases j with
        | zero => exact (hz a hb).2 (h3 i a ha).1
        | succ j => exact h2 i j (fun z => hij (by rw [z])) a ha hb
    · cases i with
      | zero => exact ⟨List.mem_append_left _ ha, (hz a ha).1, Ow.here h a ha⟩
      | succ i =>
        obtain ⟨q1, q2⟩ := h3 i a ha
        exact ⟨List.mem_append_right _ q1, q2⟩
theorem env_startG {Hf H : Hp} {N : List Str} {vs : List V} {as : List Ag} {Rg : List Addr} (s : Same Hf H) (r : AgL K c Hf H vs as Rg) (hl : as.length ≤ N.length) : EnvOk K c Hf (delR H Rg) Hf H (L2.start N vs) (slotsG as N.length) := by
  obtain ⟨R, h1, h2, h3⟩ := r.regs (N.length - as.length)
  have e : as.length + (N.length - as.length) = N.length := by omega
  rw [e] at h1
  refine ⟨⟨Same.refl _, delR_same, s, fun a o h _ _ => h⟩, ?_, R, ?_, h2, fun i a ha => ⟨delR_in (h3 i a ha).1, (h3 i a ha).2⟩⟩
  · rw [slotsG_len hl]; unfold L2.start; rw [List.length_append, List.length_map, List.length_replicate, r.len]; omega
  · intro i o sl a b
    refine h1 i o sl ?_ b
    rw [← r.len]
    exact a
theorem Fin.go {H0f H0 Hf' H' Hf H : Hp} {σ' : L2.St} {Γ' : List Sl} {R : Nat → List Addr} (hs : Same Hf Hf') (hlen : σ'.length = Γ'.length) (h3 : ∀ i o s, σ'[i]? = some o → Γ'[i]? = some s → SlOk K c Hf' H' o (R i) s) (h4 : ∀ i j, i ≠ j → ∀ a ∈ R i, a ∉ R j) (h5 : ∀ i, ∀ a ∈ R i, Hf' a = none) {as as' : List Ag} {Γ : List Sl} (f : Fin as as' Γ) :
    ∀ {vs : List V} {Rg : List Addr}, AgL K c Hf H vs as Rg → ∀ n : Nat, (∀ j, Γ'[n + j]? = Γ[j]?) → ∃ Rg', AgL K c Hf' H' vs as' Rg' ∧ ∀ a ∈ Rg', ∃ j, n ≤ j ∧ a ∈ R j := by
  induction f with
  | nil =>
    intro vs Rg h n _
    cases h
    exact ⟨[], .nil, fun a ha => by cases ha⟩
  | @p x as as' s Γ t ih =>
    intro vs Rg h n hn
    cases h with
    | p h1 t1 =>
      obtain ⟨Rg', q1, q2⟩ := ih t1 (n + 1) fun j => by have := hn (j + 1); rw [show n + 1 + j = n + (j + 1) by omega, this]; rfl
      exact ⟨Rg', .p (x.i.mono hs h1) q1, fun a ha => by obtain ⟨j, y1, y2⟩ := q2 a ha; exact ⟨j, by omega, y2⟩⟩
  | @b ι x x' as as' Γ e t ih =>
    intro vs Rg h n hn
    cases h with
    | b h1 hz t1 =>
      obtain ⟨Rg', q1, q2⟩ := ih t1 (n + 1) fun j => by have := hn (j + 1); rw [show n + 1 + j = n + (j + 1) by omega, this]; rfl
      have hΓ : Γ'[n]? = some (.own (Bg.mk x')) := by have := hn 0; rw [Nat.add_zero] at this; rw [this]; rfl
      have hlt : n < Γ'.length := (List.getElem?_eq_some_iff.mp hΓ).1
      have hσ : σ'[n]? = some σ'[n] := List.getElem?_eq_getElem (by omega)
      obtain ⟨w, w1, w2⟩ := h3 n _ _ hσ hΓ
      have hw : w = V.ref (x.ad x.root) := by rw [w2.1]; exact congrArg V.ref e
      have hv := h1.1
      have w2 : ow K c Hf' H' (R n) w (Bg.mk x') := w2
      rw [hw, ← show _ = V.ref (x.ad x.root) from hv] at w2
      refine ⟨R n ++ Rg', .b w2 (fun a ha => ⟨h5 n a ha, fun z => ?_⟩) q1, fun a ha => ?_⟩
      · obtain ⟨j, y1, y2⟩ := q2 a z
        exact h4 n j (by omega) a ha y2
      · rcases List.mem_append.mp ha with ha | ha
        · exact ⟨n, Nat.le_refl _, ha⟩
        · obtain ⟨j, y1, y2⟩ := q2 a ha
          exact ⟨j, by omega, y2⟩
theorem Fin.shp {as as' : List Ag} {Γ : List Sl} (f : Fin as as' Γ) : Shp as as' := by
  induction f with
  | nil => exact .nil
  | @p x as as' s Γ t ih => exact .p (y := x) ih
  | b e t ih => exact .b e ih
/-- what such a def promises -/
def spG (K : PySem.W.Frag) (c : CL) (R : List Ag → Pk → List Ag → Prop) : Sp := fun vs H Q _ => ∃ (Hf : Hp) (as as' : List Ag) (r : Pk) (Rg : List Addr), Same Hf H ∧ AgL K c Hf H vs as Rg ∧ R as r as' ∧
  ∀ v Rg' Hf' H', Stp Hf (delR H Rg) Hf' H' → (∀ a ∈ Rg', (a ∈ Rg ∨ H a = none) ∧ Hf' a = none) → AgL K c Hf' H' vs as' Rg' → r.i.rp K c Hf' v r.a → Q v H'
end
section
variable {P : Program} {w : World} {K : PySem.W.Frag} {mg : Str → Option Value} {base : Heap} {c : CL}
theorem g_end {H0f H Hf' H' : Hp} {vs : List V} {as as' : List Ag} {Rg : List Addr} {σ' : L2.St} {Γ' : List Sl} (h2 : AgL K c H0f H vs as Rg) (g : EnvOk K c H0f (delR H Rg) Hf' H' σ' Γ') (f : Fin as as' Γ') : ∃ Rg', AgL K c Hf' H' vs as' Rg' ∧ ∀ a ∈ Rg', (a ∈ Rg ∨ H a = none) ∧ Hf' a = none := by
  obtain ⟨g1, g2, R, g3, g4, g5⟩ := g
  obtain ⟨Rg', q1, q2⟩ := f.go (H0f := H0f) (H0 := H) g1.f g2 g3 g4 (fun i a ha => (g5 i a ha).2.1) h2 0 (fun j => by rw [Nat.zero_add])
  refine ⟨Rg', q1, fun a ha => ?_⟩
  obtain ⟨j, _, y⟩ := q2 a ha
  obtain ⟨z1, z2, _⟩ := g5 j a y
  refine ⟨?_, z2⟩
  by_cases z : a ∈ Rg
  · exact .inl z
  · rw [delR_out z] at z1; exact .inr z1
/-- THE RULE for a def that changes the bags it is given -/
theorem def_okG {x qual : Str} {st : Stmt} {f : Addr} {fd : FuncData} {N ps : List Str} {k : Nat} {R : List Ag → Pk → List Ag → Prop} (F : Fun K x qual st f fd) (S : FnScope N ps (defScope st)) (hl : ∀ as r as', R as r as' → as.length = ps.length) (hN : ps.length ≤ N.length)
    (hb : ∀ (cdv : Value) (A : Around) (outer : List Env) (s : Shared) (H : Hp) (E : XK) (as : List Ag) (r : Pk) (as' : List Ag), Room k (A.deeper (PyProof.Rows.envOfC qual (defScope st) s.heap.objs.size f cdv)) → R as r as' →
      Ss (cxOf CX0 P w K mg base N qual (defScope st) f cdv A outer s H E).nox c E1 (slotsG as N.length) (defBody st) { nx := fun Γ' => r = ⟨()⟩ ∧ Fin as as' Γ', rt := fun p Γ' => p = r ∧ Fin as as' Γ' }) : FnOk P w K mg base CX0 (k + 1) f fd ps (spG K c R) := by
  refine F.ok S (fun vs H Q E ⟨Hf, as, as', r, Rg, h1, h2, h3, h4⟩ => by rw [h2.len, hl _ _ _ h3]) fun cdv A outer s H vs Q E hr ⟨Hf, as, as', r, Rg, h1, h2, h3, h4⟩ => ?_
  refine hb cdv A outer s H E as r as' hr h3 Hf (delR H Rg) (L2.start N vs) Hf H (env_startG h1 h2 (by rw [hl _ _ _ h3]; exact hN)) _ ⟨fun Γ' σ' Hf' H' q s g => ?_, fun _ _ _ _ q => q.elim, fun _ _ _ _ q => q.elim, fun p Γ' v σ' Hf' H' q s g z => ?_, fun _ _ _ _ _ _ _ q => q.elim, fun _ _ _ _ _ _ q => q.elim, fun _ _ _ _ _ _ _ q => q.elim⟩
  · obtain ⟨q1, q2⟩ := q
    subst q1
    obtain ⟨Rg', y1, y2⟩ := g_end h2 g q2
    exact h4 _ Rg' _ _ g.stp y2 y1 rfl
  · obtain ⟨q1, q2⟩ := q
    subst q1
    obtain ⟨Rg', y1, y2⟩ := g_end h2 g q2
    exact h4 _ Rg' _ _ g.stp y2 y1 z
structure DfG (P : Program) (w : World) (K : PySem.W.Frag) (mg : Str → Option Value) (base : Heap) (c : CL) (x : Str) (k : Nat) (R : List Ag → Pk → List Ag → Prop) : Prop where
  ex : ∃ (f : Addr) (fd : FuncData) (ps : List Str), FnOk P w K mg base CX0 k f fd ps (spG K c R) ∧ mg x = some (.ref f) ∧ PySem.W.keepIn K (.ref f) = true ∧ Binds K fd ps []
structure MtG (P : Program) (w : World) (K : PySem.W.Frag) (mg : Str → Option Value) (base : Heap) (c : CL) (cls : String) (m : Str) (k : Nat) (R : List Ag → Pk → List Ag → Prop) : Prop where
  ex : ∃ (f : Addr) (fd : FuncData) (ps : List Str), FnOk P w K mg base CX0 k f fd ps (spG K c R) ∧ Meth K (c cls) m f ∧ PySem.W.fnIn K f = true ∧ Binds K fd ps []
end
/-! ### what changes the bags amid an expression -/
/-- e gives a, and the slots stand as Γ' then -/
def EM (X : Cx) (c : CL) (Γ : List Sl) (e : Expr) {α : Type} [Rp α] (a : α) (Γ' : List Sl) : Prop :=
  ∀ (H0f H0 : Hp) (σ : L2.St) (Hf H : Hp), EnvOk X.K c H0f H0 Hf H σ Γ → ∀ Q : VK, (∀ v Hf' H', Same Hf Hf' → EnvOk X.K c H0f H0 Hf' H' σ Γ' → rp X.K c Hf' v a → Q v H') → wE X e σ H Q
def TM (X : Cx) (c : CL) (Γ : List Sl) (e : Expr) (b : Bool) (Γ' : List Sl) : Prop :=
  ∀ (H0f H0 : Hp) (σ : L2.St) (Hf H : Hp), EnvOk X.K c H0f H0 Hf H σ Γ → ∀ Q : Bool → Hp → Prop, (∀ Hf' H', Same Hf Hf' → EnvOk X.K c H0f H0 Hf' H' σ Γ' → Q b H') → wT X e σ H Q
def TWM (X : Cx) (c : CL) (Γ : List Sl) (e : Expr) (b : Bool) (Γ' : List Sl) : Prop :=
  ∀ (H0f H0 : Hp) (σ : L2.St) (Hf H : Hp), EnvOk X.K c H0f H0 Hf H σ Γ → ∀ Q : Bool → Hp → Prop, (∀ Hf' H', Same Hf Hf' → EnvOk X.K c H0f H0 Hf' H' σ Γ' → Q b H') → wW X e σ H Q
/-- arguments: data and bags -/
inductive AgS (K : PySem.W.Frag) (c : CL) (Hf : Hp) (σ : L2.St) (Γ : List Sl) : List V → List Ag → List Nat → Prop
  | nil : AgS K c Hf σ Γ [] [] []
  | p {v : V} {x : Pk} {vs : List V} {as : List Ag} {is : List Nat} (h : x.i.rp K c Hf v x.a) (t : AgS K c Hf σ Γ vs as is) : AgS K c Hf σ Γ (v :: vs) (.p x :: as) is
  | b {v : V} {ι : Type} {x : Bc ι} {i : Nat} {vs : List V} {as : List Ag} {is : List Nat} (hΓ : Γ[i]? = some (.own (Bg.mk x))) (hσ : σ[i]? = some (some v)) (hn : i ∉ is) (t : AgS K c Hf σ Γ vs as is) : AgS K c Hf σ Γ (v :: vs) (.b x :: as) (i :: is)
theorem AgS.mono {K : PySem.W.Frag} {c : CL} {Hf Hf' : Hp} {σ : L2.St} {Γ : List Sl} {vs : List V} {as : List Ag} {is : List Nat} (s : Same Hf Hf') (h : AgS K c Hf σ Γ vs as is) : AgS K c Hf' σ Γ vs as is := by
  induction h with
  | nil => exact .nil
  | @p v x _ _ _ h t ih => exact .p (x.i.mono s h) ih
  | b a b' c' t ih => exact .b a b' c' ih
def AsG (X : Cx) (c : CL) (Γ : List Sl) (es : List Expr) (as : List Ag) (is : List Nat) : Prop :=
  ∀ (H0f H0 : Hp) (σ : L2.St) (Hf H : Hp), EnvOk X.K c H0f H0 Hf H σ Γ → ∀ Q : List V → Hp → Prop, (∀ vs Hf' H', Stp Hf H Hf' H' → AgS X.K c Hf' σ Γ vs as is → Q vs H') → wA X es σ H Q
/-- the slots behind the call -/
def updG : List Sl → List Nat → List Ag → List Sl
  | Γ, i :: is, .b x :: as => updG (Γ.set i (.own (Bg.mk x))) is as
  | Γ, is, .p _ :: as => updG Γ is as
  | Γ, _, _ => Γ
section
variable {K : PySem.W.Frag} {c : CL}
theorem updG_len : ∀ (as : List Ag) (Γ : List Sl) (is : List Nat), (updG Γ is as).length = Γ.length
  | [], Γ, [] => rfl
  | [], Γ, _ :: _ => rfl
  | .p _ :: as, Γ, [] => by show (updG Γ [] as).length = _; exact updG_len as Γ []
  | .p _ :: as, Γ, i :: is => by show (updG Γ (i :: is) as).length = _; exact updG_len as Γ (i :: is)
  | .b x :: as, Γ, [] => rfl
  | .b x :: as, Γ, i :: is => by show (updG (Γ.set i _) is as).length = _; rw [updG_len as _ is, List.length_set]
theorem updG_out : ∀ (as : List Ag) (Γ : List Sl) (is : List Nat) (j : Nat), j ∉ is → (updG Γ is as)[j]? = Γ[j]?
  | [], Γ, [], j, _ => rfl
  | [], Γ, _ :: _, j, _ => rfl
  | .p _ :: as, Γ, [], j, h => by show (updG Γ [] as)[j]? = _; exact updG_out as Γ [] j h
  | .p _ :: as, Γ, i :: is, j, h => by show (updG Γ (i :: is) as)[j]? = _; exact updG_out as Γ (i :: is) j h
  | .b x :: as, Γ, [], j, _ => rfl
  | .b x :: as, Γ, i :: is, j, h => by
    show (updG (Γ.set i _) is as)[j]? = _
    rw [updG_out as _ is j fun z => h (List.mem_cons_of_mem _ z), List.getElem?_set_ne fun z => h (by rw [z]; exact List.mem_cons_self)]
/-- the regions of the bags that are given -/
theorem give_regs {Hf H : Hp} {σ : L2.St} {Γ : List Sl} {R : Nat → List Addr} (hlen : σ.length = Γ.length) (h3 : ∀ i o s, σ[i]? = some o → Γ[i]? = some s → SlOk K c Hf H o (R i) s) (h4 : ∀ i j, i ≠ j → ∀ a ∈ R i, a ∉ R j) (h5 : ∀ i, ∀ a ∈ R i, Hf a = none) {vs : List V} {as : List Ag} {is : List Nat} (h : AgS K c Hf σ Γ vs as is) :
    ∃ Rg, AgL K c Hf H vs as Rg ∧ (∀ a ∈ Rg, ∃ i ∈ is, a ∈ R i) ∧ (∀ i ∈ is, ∀ a ∈ R i, a ∈ Rg) := by
  induction h with
  | nil => exact ⟨[], .nil, fun a ha => (by cases ha), fun i hi => (by cases hi)⟩
  | p h t ih =>
    obtain ⟨Rg, q1, q2, q3⟩ := ih
    exact ⟨Rg, .p h q1, q2, q3⟩
  | @b v ι x i vs as is hΓ hσ hn t ih =>
    obtain ⟨Rg, q1, q2, q3⟩ := ih
    obtain ⟨w, w1, w2⟩ := h3 i _ _ hσ hΓ
    cases w1
    refine ⟨R i ++ Rg, .b w2 (fun a ha => ⟨h5 i a ha, fun z => ?_⟩) q1, fun a ha => ?_, fun j hj a ha => ?_⟩
    · obtain ⟨j, y1, y2⟩ := q2 a z
      exact h4 i j (fun z => hn (by rw [z]; exact y1)) a ha y2
    · rcases List.mem_append.mp ha with ha | ha
      · exact ⟨i, List.mem_cons_self, ha⟩
      · obtain ⟨j, y1, y2⟩ := q2 a ha
        exact ⟨j, List.mem_cons_of_mem _ y1, y2⟩
    · rcases List.mem_cons.mp hj with rfl | hj
      · exact List.mem_append_left _ ha
      · exact List.mem_append_right _ (q3 j hj a ha)
/-- the bags that come back -/
theorem take_regs {Hf Hf' H' : Hp} {σ : L2.St} {Γ : List Sl} {vs : List V} {as : List Ag} {is : List Nat} (h : AgS K c Hf σ Γ vs as is) : ∀ {as' : List Ag} {Rg' : List Addr} (_ : Shp as as') (_ : AgL K c Hf' H' vs as' Rg') (Γ1 : List Sl), Γ1.length = Γ.length →
    ∃ R' : Nat → List Addr, (∀ i ∈ is, ∀ o s, σ[i]? = some o → (updG Γ1 is as')[i]? = some s → SlOk K c Hf' H' o (R' i) s) ∧ (∀ i ∈ is, ∀ j ∈ is, i ≠ j → ∀ a ∈ R' i, a ∉ R' j) ∧ (∀ i ∈ is, ∀ a ∈ R' i, a ∈ Rg' ∧ Hf' a = none ∧ ∃ o, H' a = some o ∧ NT o) := by
  induction h with
  | nil => intro as' Rg' sh al Γ1 hl; exact ⟨fun _ => [], fun i hi => (by cases hi), fun i hi => (by cases hi), fun i hi => (by cases hi)⟩
  | @p v x vs as is h t ih =>
    intro as' Rg' sh al Γ1 hl
    cases sh with
    | p sh =>
      cases al with
      | p h1 al =>
        have e : ∀ as'' : List Ag, updG Γ1 is (.p x :: as'') = updG Γ1 is as'' := fun as'' => by cases is <;> rfl
        rw [e]
        exact ih sh al Γ1 hl
  | @b v ι x i vs as is hΓ hσ hn t ih =>
    intro as' Rg' sh al Γ1 hl
    cases sh with
    | @b _ _ x' _ as' e sh =>
      cases al with
      | @b _ _ _ R1 _ _ Rr h1 hz al =>
        obtain ⟨R', q1, q2, q3⟩ := ih sh al (Γ1.set i (.own (Bg.mk x'))) (by rw [List.length_set, hl])
        refine ⟨fun j => if j = i then R1 else R' j, fun j hj o s a b => ?_, fun j hj k hk hjk a ha hb => ?_, fun j hj a ha => ?_⟩
        · by_cases z : j = i
          · subst z
            simp only [if_pos]
            have b : (updG (Γ1.set j (.own (Bg.mk x'))) is as')[j]? = some s := b
            rw [updG_out _ _ _ _ hn, List.getElem?_set_self (by rw [hl]; exact (List.getElem?_eq_some_iff.mp hΓ).1)] at b
            cases b
            rw [hσ] at a
            cases a
            exact ⟨v, rfl, h1⟩
          · simp only [if_neg z]
            rcases List.mem_cons.mp hj with y | y
            · exact absurd y z
            · exact q1 j y o s a b
        · by_cases z : j = i
          · by_cases y : k = i
            · exact hjk (z.trans y.symm)
            · simp only [if_pos z, if_neg y] at ha hb
              rcases List.mem_cons.mp hk with y' | y'
              · exact absurd y' y
              · exact (hz a ha).2 (q3 k y' a hb).1
          · by_cases y : k = i
            · simp only [if_neg z, if_pos y] at ha hb
              rcases List.mem_cons.mp hj with y' | y'
              · exact absurd y' z
              · exact (hz a hb).2 (q3 j y' a ha).1
            · simp only [if_neg z, if_neg y] at ha hb
              rcases List.mem_cons.mp hj with y' | y'
              · exact absurd y' z
              · rcases List.mem_cons.mp hk with y2 | y2
                · exact absurd y2 y
                · exact q2 j y' k y2 hjk a ha hb
        · by_cases z : j = i
          · simp only [if_pos z] at ha
            exact ⟨List.mem_append_left _ ha, (hz a ha).1, Ow.here h1 a ha⟩
          · simp only [if_neg z] at ha
            rcases List.mem_cons.mp hj with y' | y'
            · exact absurd y' z
            · obtain ⟨w1, w2⟩ := q3 j y' a ha
              exact ⟨List.mem_append_right _ w1, w2⟩
/-- a call that is given bags -/
theorem EnvOk.give {H0f H0 Hf H : Hp} {σ : L2.St} {Γ : List Sl} {vs : List V} {as : List Ag} {is : List Nat} (g : EnvOk K c H0f H0 Hf H σ Γ) (h : AgS K c Hf σ Γ vs as is) :
    ∃ Rg, AgL K c Hf H vs as Rg ∧ ∀ as' Rg' Hf' H', Shp as as' → Stp Hf (delR H Rg) Hf' H' → (∀ a ∈ Rg', (a ∈ Rg ∨ H a = none) ∧ Hf' a = none) → AgL K c Hf' H' vs as' Rg' → EnvOk K c H0f H0 Hf' H' σ (updG Γ is as') := by
  obtain ⟨g1, g2, R, g3, g4, g5⟩ := g
  obtain ⟨Rg, q1, q2, q3⟩ := give_regs g2 g3 g4 (fun i a ha => (g5 i a ha).2.1) h
  have hRg : ∀ a ∈ Rg, H0 a = none := fun a ha => by obtain ⟨i, _, y⟩ := q2 a ha; exact (g5 i a y).1
  refine ⟨Rg, q1, fun as' Rg' Hf' H' sh st hz al => ?_⟩
  obtain ⟨R', r1, r2, r3⟩ := take_regs h sh al Γ rfl
  have out : ∀ j, j ∉ is → ∀ a ∈ R j, a ∉ Rg := fun j hj a ha z => by
    obtain ⟨i, y1, y2⟩ := q2 a z
    exact g4 j i (fun y => hj (by rw [y]; exact y1)) a ha y2
  have kept : ∀ j, j ∉ is → ∀ a ∈ R j, ∃ o, H a = some o ∧ H' a = some o ∧ NT o ∧ Hf' a = none := fun j hj a ha => by
    obtain ⟨z1, z2, o, z3, z4⟩ := g5 j a ha
    have y : delR H Rg a = some o := by rw [delR_out (out j hj a ha)]; exact z3
    exact ⟨o, z3, st.h _ _ y, z4, st.d _ _ z2 y z4⟩
  refine ⟨⟨g1.f.trans st.f, fun a o e => ?_, st.s, fun a o e1 e2 n => ?_⟩, by rw [updG_len]; exact g2, fun j => if j ∈ is then R' j else R j, fun j o s a b => ?_, fun j k hjk a ha hb => ?_, fun j a ha => ?_⟩
  · refine st.h _ _ ?_
    rw [delR_out fun z => by rw [hRg a z] at e; cases e]
    exact g1.h _ _ e
  · refine st.d a o (g1.d _ _ e1 e2 n) ?_ n
    rw [delR_out fun z => by rw [hRg a z] at e2; cases e2]
    exact g1.h _ _ e2
  · by_cases z : j ∈ is
    · simp only [if_pos z]
      exact r1 j z o s a b
    · simp only [if_neg z]
      rw [updG_out _ _ _ _ z] at b
      have q := g3 j o s a b
      cases s with
      | any => trivial
      | dat p =>
        obtain ⟨v, e1, e2⟩ := q
        exact ⟨v, e1, p.i.mono st.f e2⟩
      | @own _ io b' =>
        obtain ⟨v, e1, e2⟩ := q
        refine ⟨v, e1, io.stay st.f (fun a ha => ?_) e2⟩
        obtain ⟨o', y1, y2, _⟩ := kept j z a ha
        rw [y1, y2]
  · by_cases z : j ∈ is
    · by_cases y : k ∈ is
      · simp only [if_pos z, if_pos y] at ha hb
        exact r2 j z k y hjk a ha hb
      · simp only [if_pos z, if_neg y] at ha hb
        have w1 := (r3 j z a ha).1
        obtain ⟨o', y1, _⟩ := kept k y a hb
        rcases (hz a w1).1 with w | w
        · exact out k y a hb w
        · rw [y1] at w; cases w
    · by_cases y : k ∈ is
      · simp only [if_neg z, if_pos y] at ha hb
        have w1 := (r3 k y a hb).1
        obtain ⟨o', y1, _⟩ := kept j z a ha
        rcases (hz a w1).1 with w | w
        · exact out j z a ha w
        · rw [y1] at w; cases w
      · simp only [if_neg z, if_neg y] at ha hb
        exact g4 j k hjk a ha hb
  · by_cases z : j ∈ is
    · simp only [if_pos z] at ha
      obtain ⟨w1, w2, w3⟩ := r3 j z a ha
      refine ⟨?_, w2, w3⟩
      rcases (hz a w1).1 with w | w
      · exact hRg a w
      · exact g1.h.free w
    · simp only [if_neg z] at ha
      obtain ⟨o, y1, y2, y3, y4⟩ := kept j z a ha
      exact ⟨(g5 j a ha).1, y4, o, y2, y3⟩
end
section
variable {X : Cx} {c : CL} {Γ Γ' Γ2 : List Sl} {W : WX} {D : En} {rest : List Stmt} {pos p0 p1 apos : Pos} {e o : Expr} {es : List Expr} {α : Type} [Rp α] {z : α} {as : List Ag} {is : List Nat}
theorem ag_nil : AsG X c Γ [] [] [] := fun _ _ σ Hf H g Q k => ⟨_, pa_nil, k _ _ _ (Stp.refl g.same) .nil⟩
theorem ag_p (h : E X c Γ e z) (hr : AsG X c Γ es as is) (hs : starEach (e :: es) X.env = (false, eval e X.env) :: starEach es X.env := by rfl) : AsG X c Γ (e :: es) (.p ⟨z⟩ :: as) is := fun _ _ σ Hf H g Q k =>
  ⟨_, pa_cons pe_w pa_w hs, h _ _ σ Hf H g _ fun v Hf1 H1 s1 r1 => hr _ _ σ Hf1 H1 (g.step s1) _ fun vs Hf2 H2 s2 r2 => k (v :: vs) Hf2 H2 (s1.trans s2) (.p (Rp.mono s2.f r1) r2)⟩
theorem ag_b (i : Nat) {x : Str} {ι : Type} {b : Bc ι} (hΓ : Γ[i]? = some (.own (Bg.mk b))) (hn : i ∉ is) (hr : AsG X c Γ es as is) (hN : X.N[i]? = some x := by rfl) (hv : Vis X.env.scope x := by first | exact Or.inl rfl | exact Or.inr (Or.inl rfl) | exact Or.inr (Or.inr rfl))
    (hd : (x == ("__debug__" : Str)) = false := by decide) (hcd : (x == ("__classdict__" : Str)) = false := by decide) (hs : starEach (.Name x p1 :: es) X.env = (false, eval (.Name x p1) X.env) :: starEach es X.env := by rfl) : AsG X c Γ (.Name x p1 :: es) (.b b :: as) (i :: is) := fun _ _ σ Hf H g Q k => by
  obtain ⟨_, v, e1, _, _, _⟩ := g.own hΓ
  exact ⟨_, pa_cons (pe_var hN hv hd hcd) pa_w hs, v, e1, hr _ _ σ Hf H g _ fun vs Hf2 H2 s2 r2 => k (v :: vs) Hf2 H2 s2 (.b hΓ e1 hn r2)⟩
theorem E.m (h : E X c Γ e z) : EM X c Γ e z Γ := fun _ _ σ Hf H g Q k => h _ _ σ Hf H g Q fun v Hf1 H1 s1 r1 => k v Hf1 H1 s1.f (g.step s1) r1
theorem T.m {z : Bool} (h : T X c Γ e z) : TM X c Γ e z Γ := fun _ _ σ Hf H g Q k => h _ _ σ Hf H g Q fun Hf1 H1 s1 => k Hf1 H1 s1.f (g.step s1)
/-- f(e, ..) -/
theorem em_call {x : Str} {k : Nat} {R : List Ag → Pk → List Ag → Prop} {as' : List Ag} (h : DfG X.prog X.w X.K X.mg X.base c x k R) (hr : Room k X.A) (ha : AsG X c Γ (e :: es) as is) (hR : R as ⟨z⟩ as') (hs : Shp as as') (hg : Gl X x := by rfl) (hdb : (x == ("__debug__" : Str)) = false := by decide)
    (he : starEach (e :: es) X.env = (false, eval e X.env) :: starEach es X.env := by rfl) (hpl : (backTo pos (starEach es X.env)).any (·.1) = false := by rfl) : EM X c Γ (.Call (.Name x p0) (e :: es) [] pos) z (updG Γ is as') := fun _ _ σ Hf H g Q q => by
  obtain ⟨f, fd, ps, hF, hm, hk, hb⟩ := h
  refine ⟨_, pe_call hF hr hg hm hk hb .nil pass0 pa_w hdb he hpl, ha _ _ σ Hf H g _ fun vs Hf1 H1 s1 r1 => ?_⟩
  rw [List.append_nil]
  have g1 := g.step s1
  obtain ⟨Rg, q1, q2⟩ := g1.give r1
  exact ⟨Hf1, as, as', ⟨z⟩, Rg, s1.s, q1, hR, fun v Rg' Hf2 H2 st hz al r2 => q v Hf2 H2 (s1.f.trans st.f) (q2 as' Rg' Hf2 H2 hs st hz al) r2⟩
/-- o.m(e, ..), o a bag -/
theorem em_meth (i : Nat) {x : Str} {ι : Type} {b : Bc ι} {cls : String} {fs : List (Str × Pk)} {m : Str} {k : Nat} {R : List Ag → Pk → List Ag → Prop} {as' : List Ag} {pl : Sem Bool} (T : Cls X.K (c cls)) (M : MtG X.prog X.w X.K X.mg X.base c cls m k R) (hr : Room k X.A) (hΓ : Γ[i]? = some (.own (Bg.mk b))) (hrt : b.root ∈ b.ks) (hce : b.ce b.root = ceO cls fs) (hfs : fs.lookup m = none) (hn : i ∉ is) (ha : AsG X c Γ (e :: es) as is) (hR : R (.b b :: as) ⟨z⟩ as') (hs : Shp (.b b :: as) as')
    (hN : X.N[i]? = some x := by rfl) (hv : Vis X.env.scope x := by first | exact Or.inl rfl | exact Or.inr (Or.inl rfl) | exact Or.inr (Or.inr rfl))
    (hd : (x == ("__debug__" : Str)) = false := by decide) (hcd : (x == ("__classdict__" : Str)) = false := by decide)
    (hst : starEach (e :: es) X.env = (false, eval e X.env) :: starEach es X.env := by rfl) (hpl : (backTo pos (starEach es X.env)).any (·.1) = false := by rfl)
    (ht : eval (.Call (.Attribute (.Name x p1) m apos) (e :: es) [] pos) X.env = (do
      let ov ← eval (.Name x p1) X.env
      standAt apos.atName
      let (f, first) ← holding [ov] (getMethod ov m pl)
      callWith pos f first (backTo pos (starEach (e :: es) X.env)) (backToKw pos (keywordEach [] X.env))) := by rfl) : EM X c Γ (.Call (.Attribute (.Name x p1) m apos) (e :: es) [] pos) z (updG Γ (i :: is) as') := fun _ _ σ Hf H g Q q => by
  obtain ⟨f, fd, ps, F, mt, _, hb⟩ := M
  obtain ⟨_, v, e1, ⟨e2, _⟩, _, _⟩ := g.own hΓ
  have e2 : v = .ref (b.ad b.root) := e2
  obtain ⟨u, h1, h2⟩ := rd_own (X := X) i hΓ _ _ _ _ _ g b.root hrt
  rw [hce] at h2
  obtain ⟨dx, fvs, rfl, h3⟩ := h2
  refine ⟨_, pe_meth (pe_var hN hv hd hcd) T mt F hr hb .nil pass0 pa_w hst hpl ht, v, e1, _, dx, fvs, e2, h1, h3.no hfs, ha _ _ σ Hf H g _ fun vs Hf2 H2 s2 r2 => ?_⟩
  rw [List.append_nil]
  have g1 := g.step s2
  obtain ⟨Rg, q1, q2⟩ := g1.give (.b hΓ e1 hn r2)
  exact ⟨Hf2, .b b :: as, as', ⟨z⟩, Rg, s2.s, q1, hR, fun w Rg' Hf3 H3 st hz al r3 => q w Hf3 H3 (s2.f.trans st.f) (q2 as' Rg' Hf3 H3 hs st hz al) r3⟩
theorem em_meth0 (i : Nat) {x : Str} {ι : Type} {b : Bc ι} {cls : String} {fs : List (Str × Pk)} {m : Str} {k : Nat} {R : List Ag → Pk → List Ag → Prop} {as' : List Ag} {pl : Sem Bool} (T : Cls X.K (c cls)) (M : MtG X.prog X.w X.K X.mg X.base c cls m k R) (hr : Room k X.A) (hΓ : Γ[i]? = some (.own (Bg.mk b))) (hrt : b.root ∈ b.ks) (hce : b.ce b.root = ceO cls fs) (hfs : fs.lookup m = none) (hR : R [.b b] ⟨z⟩ as') (hs : Shp [.b b] as')
    (hN : X.N[i]? = some x := by rfl) (hv : Vis X.env.scope x := by first | exact Or.inl rfl | exact Or.inr (Or.inl rfl) | exact Or.inr (Or.inr rfl))
    (hd : (x == ("__debug__" : Str)) = false := by decide) (hcd : (x == ("__classdict__" : Str)) = false := by decide)
    (ht : eval (.Call (.Attribute (.Name x p1) m apos) [] [] pos) X.env = (do
      let ov ← eval (.Name x p1) X.env
      standAt apos.atName
      let (f, first) ← holding [ov] (getMethod ov m pl)
      callWith pos f first (backTo pos (starEach [] X.env)) (backToKw pos (keywordEach [] X.env))) := by rfl) : EM X c Γ (.Call (.Attribute (.Name x p1) m apos) [] [] pos) z (updG Γ [i] as') := fun _ _ σ Hf H g Q q => by
  obtain ⟨f, fd, ps, F, mt, _, hb⟩ := M
  obtain ⟨_, v, e1, ⟨e2, _⟩, _, _⟩ := g.own hΓ
  have e2 : v = .ref (b.ad b.root) := e2
  obtain ⟨u, h1, h2⟩ := rd_own (X := X) i hΓ _ _ _ _ _ g b.root hrt
  rw [hce] at h2
  obtain ⟨dx, fvs, rfl, h3⟩ := h2
  refine ⟨_, pe_meth0 (pe_var hN hv hd hcd) T mt F hr hb .nil pass0 ht, v, e1, _, dx, fvs, e2, h1, h3.no hfs, ?_⟩
  obtain ⟨Rg, q1, q2⟩ := g.give (.b hΓ e1 (by simp) .nil)
  exact ⟨Hf, [.b b], as', ⟨z⟩, Rg, g.same, q1, hR, fun w Rg' Hf3 H3 st hz al r3 => q w Hf3 H3 st.f (q2 as' Rg' Hf3 H3 hs st hz al) r3⟩
/-! ### statements -/
theorem ss_setM (i : Nat) {x : Str} {pos' : Pos} (hN : X.N.Nodup) (h : EM X c Γ e z Γ') (hr : Ss X c W (Γ'.set i (d z)) rest D) (hi : X.N[i]? = some x := by rfl) (hx : Loc X.env.scope x := by first | exact .inl rfl | exact .inr rfl)
    (hs : swapsWith e (some (.Name x pos')) pos.line X.env = pure false := by rfl) (hf : X.fn x = true ∨ X.env.scope.names.lookup x = some .local := by first | exact .inl rfl | exact .inr rfl) : Ss X c W Γ (.Assign [.Name x pos'] e pos :: rest) D := fun _ _ σ Hf H g DD k =>
  ⟨_, pss_cons (ps_set hN hi hx pe_w hs hf) pss_w, h _ _ σ Hf H g _ fun v Hf1 H1 s1 g1 r1 => hr _ _ _ Hf1 H1 (g1.set i r1) DD (k.mono s1)⟩
theorem ss_exprM (h : EM X c Γ e z Γ') (hr : Ss X c W Γ' rest D) (hs : swapsWith e none pos.line X.env = pure false := by rfl) : Ss X c W Γ (.Expr e pos :: rest) D := fun _ _ σ Hf H g DD k =>
  ⟨_, pss_cons (ps_expr pe_w hs) pss_w, h _ _ σ Hf H g _ fun v Hf1 H1 s1 g1 r1 => hr _ _ _ Hf1 H1 g1 DD (k.mono s1)⟩
theorem ss_retM (h : EM X c Γ e z Γ') (hr : D.rt ⟨z⟩ Γ') : Ss X c W Γ (.Return (some e) pos :: rest) D := fun _ _ σ Hf H g DD k =>
  ⟨_, pss_cons (ps_ret pe_w) pss_never, h _ _ σ Hf H g _ fun v Hf1 H1 s1 g1 r1 => k.rt _ Γ' v σ Hf1 H1 hr s1 g1 r1⟩
theorem ss_ifM {cnd : Expr} {a b : List Stmt} {t : Bool} (ht : TM X c Γ cnd t Γ') (h1 : t = true → Ss X c W Γ' a (D.thn X c W rest)) (h2 : t = false → Ss X c W Γ' b (D.thn X c W rest)) : Ss X c W Γ (.If cnd a b pos :: rest) D := fun _ _ σ Hf H g DD k =>
  ⟨_, pss_cons (ps_if pt_w pss_w pss_w) pss_w, ht _ _ σ Hf H g _ fun Hf1 H1 s1 g1 => by
    cases t with
    | true => exact (h1 rfl) _ _ σ Hf1 H1 g1 _ (k.mono s1).thn
    | false => exact (h2 rfl) _ _ σ Hf1 H1 g1 _ (k.mono s1).thn⟩
end
end Pv
set_option maxHeartbeats 0
/-! Dict comprehensions of two clauses, without tests -/
namespace Pv
open Rp (rp)
open Ow (ow)
open Da (toD)
open PySem L2 PySem.Spec PyProof.Rows
abbrev dc2 (kx vx ta ia tb ib : Expr) (sc : Scope) (p : Pos) : Expr := .DictComp kx vx [⟨ta, ia, [], 0⟩, ⟨tb, ib, [], 0⟩] sc p
theorem turn_a (kx vx ta ia tb ib : Expr) (sc : Scope) (p : Pos) (it : Value) (D : Addr) (env : Env) :
    compTurn (dc2 kx vx ta ia tb ib sc p) 0 it (.ref D) env = (do
      standAt ia.pos
      match ← pyNext it with
      | none => pure (.done .next)
      | some u =>
        letOwnedTupleGo ta it u
        assign ta env u
        let y ← eval ib env
        standAt ib.pos
        let y ← foldedSetIterable ib env y
        let _ ← runOwn (.compStart (dc2 kx vx ta ia tb ib sc p) 1 (← holding [y] (pyIter y)) (.ref D) env) env
        again (.compLoop (dc2 kx vx ta ia tb ib sc p) 0 it (.ref D) env)) := by rfl
theorem turn_b (kx vx ta ia tb ib : Expr) (sc : Scope) (p : Pos) (it : Value) (D : Addr) (env : Env) :
    compTurn (dc2 kx vx ta ia tb ib sc p) 1 it (.ref D) env = (do
      standAt ib.pos
      match ← pyNext it with
      | none => pure (.done .next)
      | some u =>
        letOwnedTupleGo tb it u
        assign tb env u
        (do
          let y ← eval kx env
          let z ← holding [y] (eval vx env)
          standAt { kx.pos with endLine := vx.pos.endLine, endCol := vx.pos.endCol }
          holding [y, z] (dictSet D y z))
        again (.compLoop (dc2 kx vx ta ia tb ib sc p) 1 it (.ref D) env)) := by rfl
section
variable {prog : Program} {w : World} {A : Around} {R : Result → Shared → Prop} {s : Shared} {kx vx ta ia tb ib : Expr} {sc : Scope} {p : Pos} {it : Value} {D : Addr} {env : Env}
abbrev nb (prog : Program) (w : World) (A : Around) (env : Env) (R : Result → Shared → Prop) : Value → Shared → Prop := notedBy (model prog w) A env fun e s' => R (.error e) s'
theorem loop_a (hf : ∀ y, foldedSetIterable ib env y = pure y) (I : Nat → Shared → Prop)
    (step : ∀ n s, I n s → wpAny (model prog w) A (pyNext it) (fun r s1 => match r with
      | none => R (.ok .next) s1
      | some u => wpAny (model prog w) A (letOwnedTupleGo ta it u) (fun _ s2 => wpAny (model prog w) A (assign ta env u) (fun _ s3 =>
          wpAny (model prog w) A (eval ib env) (fun y s4 => wpAny (model prog w) A (pyIter y) (fun j s5 =>
            codeAny (model prog w) A (.compStart (dc2 kx vx ta ia tb ib sc p) 1 j (.ref D) env) (fun r s6 => match r with
              | .ok _ => ∃ m, m < n ∧ I m s6
              | .error _ => False) s5) (nb prog w A env R) s4) (nb prog w A env R) s3) (nb prog w A env R) s2) (nb prog w A env R) s1) (nb prog w A env R) s)
    (n : Nat) (h : I n s) : codeAny (model prog w) A (.compLoop (dc2 kx vx ta ia tb ib sc p) 0 it (.ref D) env) R s := by
  refine codeAny_loop rfl I (fun n s hI => ?_) n h
  show wpAny _ A ((compTurn (dc2 kx vx ta ia tb ib sc p) 0 it (.ref D) env).onRaise (fun x => do noteFrame x env; theTreesLotGoes x)) _ _ s
  refine wpAny_noted ?_
  rw [turn_a]
  refine wpAny_bind (wpAny_standAt (wpAny_bind (wpAny_mono (step n s hI) (fun r s1 h1 => ?_) fun _ _ z => z)))
  cases r with
  | none => exact wpAny_pure h1
  | some u =>
    refine wpAny_bind (wpAny_mono h1 (fun _ s2 h2 => ?_) fun _ _ z => z)
    refine wpAny_bind (wpAny_mono h2 (fun _ s3 h3 => ?_) fun _ _ z => z)
    refine wpAny_bind (wpAny_mono h3 (fun y s4 h4 => ?_) fun _ _ z => z)
    refine wpAny_bind (wpAny_standAt (wpAny_bind (wpAny_of_eq (hf y) (wpAny_bind (wpAny_holding (wpAny_mono h4 (fun j s5 h5 => ?_) fun _ _ z => z))))))
    refine wpAny_bind (wpAny_runOwn ?_)
    rw [Around.mark_none]
    refine codeAny_mono h5 fun r s6 h6 => ?_
    cases r with
    | ok f =>
      first
        | exact wpAny_pure ⟨rfl, h6⟩
        | exact wpAny_bind (wpAny_pure (wpAny_pure ⟨rfl, h6⟩))
    | error e => exact h6.elim
theorem loop_b (I : Nat → Shared → Prop)
    (step : ∀ n s, I n s → wpAny (model prog w) A (pyNext it) (fun r s1 => match r with
      | none => R (.ok .next) s1
      | some u => wpAny (model prog w) A (letOwnedTupleGo tb it u) (fun _ s2 => wpAny (model prog w) A (assign tb env u) (fun _ s3 =>
          wpAny (model prog w) A (eval kx env) (fun y s4 => wpAny (model prog w) A (eval vx env) (fun z s5 =>
            wpAny (model prog w) A (dictSet D y z) (fun _ s6 => ∃ m, m < n ∧ I m s6) (nb prog w A env R) s5) (nb prog w A env R) s4) (nb prog w A env R) s3) (nb prog w A env R) s2) (nb prog w A env R) s1) (nb prog w A env R) s)
    (n : Nat) (h : I n s) : codeAny (model prog w) A (.compLoop (dc2 kx vx ta ia tb ib sc p) 1 it (.ref D) env) R s := by
  refine codeAny_loop rfl I (fun n s hI => ?_) n h
  show wpAny _ A ((compTurn (dc2 kx vx ta ia tb ib sc p) 1 it (.ref D) env).onRaise (fun x => do noteFrame x env; theTreesLotGoes x)) _ _ s
  refine wpAny_noted ?_
  rw [turn_b]
  refine wpAny_bind (wpAny_standAt (wpAny_bind (wpAny_mono (step n s hI) (fun r s1 h1 => ?_) fun _ _ z => z)))
  cases r with
  | none => exact wpAny_pure h1
  | some u =>
    refine wpAny_bind (wpAny_mono h1 (fun _ s2 h2 => ?_) fun _ _ z => z)
    refine wpAny_bind (wpAny_mono h2 (fun _ s3 h3 => ?_) fun _ _ z => z)
    refine wpAny_bind (wpAny_bind (wpAny_mono h3 (fun y s4 h4 => ?_) fun _ _ z => z))
    refine wpAny_bind (wpAny_holding (wpAny_mono h4 (fun z s5 h5 => ?_) fun _ _ z => z))
    refine wpAny_bind (wpAny_standAt (wpAny_holding (wpAny_mono h5 (fun _ s6 h6 => ?_) fun _ _ z => z)))
    exact wpAny_pure ⟨rfl, h6⟩
theorem start_b (h0 : codeAny (model prog w) A (.compLoop (dc2 kx vx ta ia tb ib sc p) 1 it (.ref D) env) R s)
    (h : wpAny (model prog w) A (pyIter it) (fun j s' => codeAny (model prog w) A (.compLoop (dc2 kx vx ta ia tb ib sc p) 1 j (.ref D) env) R s') (nb prog w A env R) s) :
    codeAny (model prog w) A (.compStart (dc2 kx vx ta ia tb ib sc p) 1 it (.ref D) env) R s := by
  refine codeAny_of_tree ?_
  show wpAny _ A ((compStart (dc2 kx vx ta ia tb ib sc p) 1 it (.ref D) env).onRaise (fun x => do noteFrame x env; standAt theWindowsPlace)) _ _ s
  refine wpAny_notedAt ?_
  unfold compStart
  show wpAny _ A (ask >>= _) _ _ s
  refine wpAny_bind (wpAny_askSetting (wpAny_ite ?_))
  split
  · first
      | exact wpAny_bind (wpAny_pure (wpAny_pure (And.intro rfl h0)))
      | exact wpAny_pure (And.intro rfl h0)
  · first
      | exact wpAny_bind (wpAny_rule (wpAny_bind (wpAny_standAt (wpAny_bind (wpAny_mono h (fun j s' z => wpAny_pure (And.intro rfl z)) fun _ _ x => x)))))
      | (refine wpAny_bind (wpAny_rule ?_); show wpAny _ _ (standAt ib.pos >>= _) _ _ s; exact wpAny_bind (wpAny_standAt (wpAny_bind (wpAny_mono h (fun j s' z => wpAny_pure (And.intro rfl z)) fun _ _ x => x))))
end
/-- what the comprehension does -/
def tDc2 (wa : TI) (ga : TG) (wb : TI) (gb : TG) (tk tv : TE) (vs v1 : List Nat) : TE := fun σ H Q => wa σ H fun J Ha => ∀ D, Ha D = none → ∃ W : Nat → Nat → Hp → Prop, (∃ m, W 0 m (upd Ha D (.dT []))) ∧ ∀ i m H, W i m H →
  (J.stop i H ∧ Q (.ref D) H) ∨ (J.go i H ∧ ∃ N : Hp → Prop, (∀ G, N G → ∃ q, q < m ∧ W (i + 1) q G) ∧ ∀ x G, J.yld i H x G → ga x (wipe σ vs) G fun σ2 H2 => wipe σ2 vs = wipe σ vs ∧ wb σ2 H2 fun J1 H4 => ∃ W1 : Nat → Nat → Hp → Prop, (∃ m, W1 0 m H4) ∧ ∀ j k H, W1 j k H →
      (J1.stop j H ∧ N H) ∨ (J1.go j H ∧ ∃ N1 : Hp → Prop, (∀ G, N1 G → ∃ q, q < k ∧ W1 (j + 1) q G) ∧ ∀ x G, J1.yld j H x G → gb x (wipe σ2 v1) G fun σ3 H5 => wipe σ3 v1 = wipe σ2 v1 ∧
        tk σ3 H5 fun y H6 => tv σ3 H6 fun z H7 => ∃ kvs k a, y = .ref a ∧ H7 D = some (.dT kvs) ∧ H7 a = some (.tup (k.map kV)) ∧ kvs.length < sizeLine ∧ N1 (upd H7 D (.dT (putK kvs k z)))))
section
variable {X : Cx} {kx vx ta ia tb ib : Expr} {sc : Scope} {own : List (Str × Nat)} {v1 : List Nat} {p : Pos} {wa wb : TI} {ga gb : TG} {tk tv : TE}
theorem pe_dc2 (hu : X.A.units + 1 < cLine) (hc : X.calm = true) (hN : X.N.Nodup) (hi : PI X ta ia wa) (ok : BlkOk X.N X.env.scope sc own) (hv : ∀ i ∈ v1, i ∈ own.map (·.2))
    (hga : Blk X sc fun Y => PG Y ta ga) (hib : Blk X sc fun Y => PI Y tb ib wb) (hgb : Blk X sc fun Y => PG Y tb gb) (hk : Blk X sc fun Y => PE Y kx tk) (he : Blk X sc fun Y => PE Y vx tv) (hs : ∀ x, foldedSetIterable ia X.env x = pure x) (hs1 : ∀ env x, foldedSetIterable ib env x = pure x) :
    PE X (dc2 kx vx ta ia tb ib sc p) (tDc2 wa ga wb gb tk tv (own.map (·.2)) v1) := by
  refine ⟨fun pins s σ H Q I h => ?_⟩
  rw [arm_eval_DictComp]
  have fr : ∀ y ∈ sc.names, y.2 = .free → ∃ c, X.env.cells.lookup y.1 = some c := fun y hy e => (ok.free y hy e).elim (fun z => I.ok.has _ (.inl z)) fun z => I.ok.has _ (.inr z)
  refine wpAny_comprehension_free rfl hs (closure_ok fr) ok.kind (fun y hy e => (ok.uniq y hy).trans (congrArg some e)) (thn (hi.run pins s σ H _ I h) fun xv s1 hx => thn hx fun itv s2 h2 => ?_)
  obtain ⟨it, fp, tn, J, H2, rfl, I2, T0, st2, f2, q⟩ := h2
  refine wpAny_newObj_type (newEnv_comp ?_)
  have dn : H2 s2.heap.objs.size = none := I2.hok.fresh (Nat.le_refl _)
  obtain ⟨W, ⟨m0, w0⟩, step⟩ := q _ dn
  generalize hs3 : ({ s2 with heap := s2.heap.push { cls := .type "dict", data := .dict #[] } } : Shared) = s3
  have hh3 : s3.heap = s2.heap.push { cls := .type "dict", data := .dict #[] } := by rw [← hs3]
  have I3 : L2.Inv X pins σ (upd H2 s2.heap.objs.size (.dT [])) s3 := by
    rw [← hs3]
    exact I2.laid (t' := s2.toks) (fun b ob z => Heap.get?_push_of_some _ z) (Nat.le_refl _) (empty_ok (.inr rfl) s2.heap I2.big)
  have f3 : ∀ b ∈ fp, FpOk X pins (upd H2 s2.heap.objs.size (.dT [])) b ∧ b < s3.heap.objs.size := fun b hb => by
    obtain ⟨ob, z, _⟩ := T0.obj _ _ st2 b hb
    have lt := Heap.lt_size z
    exact ⟨⟨(upd_ne (Nat.ne_of_lt lt)).trans (f2 b hb).1, (f2 b hb).2⟩, by rw [hh3, Heap.size_push]; exact Nat.lt_succ_of_lt lt⟩
  have st3 : tn 0 s3.heap := T0.keep _ _ _ st2 fun b _ ob z => by rw [hh3]; exact Heap.get?_push_of_some _ z
  have I4 := block_start I3 ok hN f3
  have pga := hga s3 (upd H2 s2.heap.objs.size (.dT [])) s3.heap.objs.size (cellsFrom (s3.heap.objs.size + 1) sc.names (cloFrom X.env.cells sc.names [])) fp
  have pib := hib s3 (upd H2 s2.heap.objs.size (.dT [])) s3.heap.objs.size (cellsFrom (s3.heap.objs.size + 1) sc.names (cloFrom X.env.cells sc.names [])) fp
  have pgb := hgb s3 (upd H2 s2.heap.objs.size (.dT [])) s3.heap.objs.size (cellsFrom (s3.heap.objs.size + 1) sc.names (cloFrom X.env.cells sc.names [])) fp
  have pk := hk s3 (upd H2 s2.heap.objs.size (.dT [])) s3.heap.objs.size (cellsFrom (s3.heap.objs.size + 1) sc.names (cloFrom X.env.cells sc.names [])) fp
  have pe := he s3 (upd H2 s2.heap.objs.size (.dT [])) s3.heap.objs.size (cellsFrom (s3.heap.objs.size + 1) sc.names (cloFrom X.env.cells sc.names [])) fp
  generalize hD : s2.heap.objs.size = D at *
  show codeAny _ _ (.compStart (dc2 kx vx ta ia tb ib sc p) 0 (.ref it) (.ref D) (compEnvC sc (cellsFrom (s3.heap.objs.size + 1) sc.names (cloFrom X.env.cells sc.names [])) s3.heap.objs.size X.env)) (compPost (model X.prog X.w) X.A X.xe none (EP X pins σ Q) (.ref D) s3.heap.objs.size) { s3 with heap := pushCells (s3.heap.push { cls := .type "dict", data := .dict #[] }) sc.names }
  generalize hce : compEnvC sc (cellsFrom (s3.heap.objs.size + 1) sc.names (cloFrom X.env.cells sc.names [])) s3.heap.objs.size X.env = ce at I4 pga pib pgb pk pe ⊢
  have cL : ce.locals = s3.heap.objs.size := by rw [← hce]; rfl
  generalize hH3 : upd H2 D (.dT []) = H3 at I3 I4 pga pib pgb pk pe w0 f3
  generalize hs4 : ({ s3 with heap := pushCells (s3.heap.push { cls := .type "dict", data := .dict #[] }) sc.names } : Shared) = s4 at I4 ⊢
  have st4 : tn 0 s4.heap := T0.keep _ _ _ st3 fun b _ ob z => by rw [← hs4]; exact pushCells_keeps _ _ _ _ (Heap.get?_push_of_some _ z)
  have fpk : ∀ {τ : L2.St} {G : Hp} {u : Shared}, L2.Inv (X.blk s3 H3 sc ce fp) [] τ G u → (∀ b ∈ fp, G b = none) → ∀ b ∈ fp, FpOk (X.blk s3 H3 sc ce fp) [] G b := fun J' hn b hb =>
    ⟨hn b hb, (J'.ok.exf b hb).1, J'.ok.exfs b hb, .inl hb, fun x c z => (J'.ok.exf b hb).2 x c z, fun q hq => by cases hq⟩
  have loop : codeAny (model X.prog X.w) X.A (.compLoop (dc2 kx vx ta ia tb ib sc p) 0 (.ref it) (.ref D) ce) (compPost (model X.prog X.w) X.A X.xe none (EP X pins σ Q) (.ref D) s3.heap.objs.size) s4 := by
    refine loop_a (hs1 ce) (fun n u => ∃ i G, L2.Inv (X.blk s3 H3 sc ce fp) [] (wipe σ (own.map (·.2))) G u ∧ tn i u.heap ∧ (∀ b ∈ fp, G b = none) ∧ W i n G) (fun n s5 hs5 => ?_) m0 ⟨0, H3, I4, st4, fun b hb => (f3 b hb).1.1, w0⟩
    obtain ⟨i, H5, I5, st5, n5, w5⟩ := hs5
    rcases step i n H5 w5 with ⟨stop, qq⟩ | ⟨go, N, hNx, next⟩
    · refine thnF (T0.done (X.blk s3 H3 sc ce fp) rfl rfl rfl hc i [] s5 _ H5 (fun _ _ => False) I5 (fpk I5 n5) st5 stop) fun r s6 h6 => ?_
      obtain ⟨rfl, I6⟩ := h6
      have I7 : L2.Inv X pins σ H5 s6 := I3.call' (ch := fp) I6.os I6.base I6.hok I6.bare fun b hb => ⟨(f3 b hb).1.2.2.2.1, (f3 b hb).1.2.1, (f3 b hb).1.2.2.2.2.1, (f3 b hb).1.2.2.2.2.2⟩
      have nC : H5 s3.heap.objs.size = none := by rw [← cL]; exact I6.free
      obtain ⟨m, hn, _⟩ := I6.loc
      have hn : s6.heap.Ns ce.locals m := hn
      rw [cL] at hn
      obtain ⟨f0, f1, _, f3', f4, f5⟩ := I3.fpOk (Nat.le_refl _) nC
      exact ⟨m, hn, fun g sb => ⟨.ref D, H5, I7.turned (t' := s6.toks) (fun b ob hb z => (sb.2 b hb).trans z) f0 f1 f3' f4 f5, rfl, qq⟩⟩
    · refine thnF (T0.item (X.blk s3 H3 sc ce fp) rfl rfl rfl hc i [] s5 _ H5 (fun _ _ => False) I5 (fpk I5 n5) st5 go) fun r s6 h6 => ?_
      obtain ⟨u, rfl, h6⟩ := h6
      refine thnF h6 fun _ s7 h7 => ?_
      obtain ⟨x, H7, I7, r7, y7, st7, n7⟩ := h7
      have J7 := I7.pinned (fpk I7 n7) (T0.obj _ _ st7)
      refine thnF (pga.run _ s7 _ H7 x u _ J7 r7 (next x H7 y7)) fun _ s8 h8 => ?_
      obtain ⟨σ8, H8, I8, hw8, q8⟩ := h8
      have fin : ∀ {τ : L2.St} {u : Shared} {G : Hp}, L2.Inv (X.blk s3 H3 sc ce fp) ([] ++ pinsAt fp s7.heap) τ G u → (wipe σ (own.map (·.2))).length = τ.length → (∀ (j : Nat) v, (wipe σ (own.map (·.2)))[j]? = some (some v) → τ[j]? = some (some v)) → N G →
          ∃ m, m < n ∧ ∃ i G, L2.Inv (X.blk s3 H3 sc ce fp) [] (wipe σ (own.map (·.2))) G u ∧ tn i u.heap ∧ (∀ b ∈ fp, G b = none) ∧ W i m G := fun {τ u G} J' hl hk nx => by
        obtain ⟨q, hq, wq⟩ := hNx G nx
        have pin : ∀ b ∈ fp, ∀ ob, s7.heap.get? b = some ob → u.heap.get? b = some ob ∧ G b = none := fun b hb ob z => by
          have y := J'.pin (b, ob) (List.mem_append_right _ (List.mem_append_right _ (mem_pinsAt hb z)))
          exact ⟨y.1, y.2.1⟩
        refine ⟨q, hq, i + 1, G, (J'.unpinned (pins := [])).weak hl hk, T0.keep _ _ _ st7 fun b hb ob z => (pin b hb ob z).1, fun b hb => ?_, wq⟩
        obtain ⟨ob, z, _⟩ := T0.obj _ _ st7 b hb
        exact (pin b hb ob z).2
      have l8 : (wipe σ (own.map (·.2))).length = σ8.length := by rw [← hw8, wipe_length]
      have k9 : ∀ (j : Nat) v, (wipe σ (own.map (·.2)))[j]? = some (some v) → (wipe σ8 v1)[j]? = some (some v) := fun j v z => by
        rw [← hw8] at z
        obtain ⟨z1, z2⟩ := wipe_some z
        rw [wipe_out fun y => z2 (hv j y)]
        exact z1
      refine thnF (pib.run _ s8 σ8 H8 _ I8 q8) fun xv s10 hx => thnF hx fun itv s11 h11 => ?_
      obtain ⟨jt, fq, tm, J1, H11, rfl, I11, T1, st11, f11, W1, ⟨m1, w1⟩, step1⟩ := h11
      have fqk : ∀ {G : Hp}, (∀ b ∈ fq, G b = none) → ∀ b ∈ fq, FpOk (X.blk s3 H3 sc ce fp) ([] ++ pinsAt fp s7.heap) G b := fun hn b hb => ⟨hn b hb, (f11 b hb).2⟩
      have inner : codeAny (model X.prog X.w) X.A (.compLoop (dc2 kx vx ta ia tb ib sc p) 1 (.ref jt) (.ref D) ce)
          (fun r u => match r with
            | .ok _ => ∃ m, m < n ∧ ∃ i G, L2.Inv (X.blk s3 H3 sc ce fp) [] (wipe σ (own.map (·.2))) G u ∧ tn i u.heap ∧ (∀ b ∈ fp, G b = none) ∧ W i m G
            | .error _ => False) s11 := by
        refine loop_b (fun k u => ∃ j G, L2.Inv (X.blk s3 H3 sc ce fp) ([] ++ pinsAt fp s7.heap) (wipe σ8 v1) G u ∧ tm j u.heap ∧ (∀ b ∈ fq, G b = none) ∧ W1 j k G) (fun k s12 hs12 => ?_) m1 ⟨0, H11, I11.weak (wipe_length _ _) (fun j v z => (wipe_some z).1), st11, fun b hb => (f11 b hb).1, w1⟩
        obtain ⟨j, H12, I12, st12, n12, w12⟩ := hs12
        rcases step1 j k H12 w12 with ⟨stop1, nx1⟩ | ⟨go1, N1, hN1, next1⟩
        · refine thnF (T1.done (X.blk s3 H3 sc ce fp) rfl rfl rfl hc j _ s12 (wipe σ8 v1) H12 (fun _ _ => False) I12 (fqk n12) st12 stop1) fun r s13 h13 => ?_
          obtain ⟨rfl, I13⟩ := h13
          exact fin I13 (l8.trans (wipe_length σ8 v1).symm) k9 nx1
        · refine thnF (T1.item (X.blk s3 H3 sc ce fp) rfl rfl rfl hc j _ s12 (wipe σ8 v1) H12 (fun _ _ => False) I12 (fqk n12) st12 go1) fun r s13 h13 => ?_
          obtain ⟨u1, rfl, h13⟩ := h13
          refine thnF h13 fun _ s14 h14 => ?_
          obtain ⟨x1, H14, I14, r14, y14, st14, n14⟩ := h14
          have J14 := I14.pinned (fqk n14) (T1.obj _ _ st14)
          refine thnF (pgb.run _ s14 (wipe σ8 v1) H14 x1 u1 _ J14 r14 (next1 x1 H14 y14)) fun _ s15 h15 => ?_
          obtain ⟨σ15, H15, I15, hw15, q15⟩ := h15
          refine thnF (pk.run _ s15 σ15 H15 _ I15 q15) fun z s16 h16 => ?_
          obtain ⟨yk, H16, I16, r16, q16⟩ := h16
          refine thnF (pe.run _ s16 σ15 H16 _ I16 q16) fun z2 s17 h17 => ?_
          obtain ⟨yv, H17, I17, r17, kvs, kk, ka, rfl, hD17, ha17, hz17, nx⟩ := h17
          cases r16
          refine dset_t (X := X.blk s3 H3 sc ce fp) hu I17 hD17 ha17 hz17 r17 fun s18 I18 => ?_
          obtain ⟨q, hq, wq⟩ := hN1 _ nx
          have pin : ∀ b ∈ fq, ∀ ob, s14.heap.get? b = some ob → s18.heap.get? b = some ob ∧ (upd H17 D (.dT (putK kvs kk yv))) b = none := fun b hb ob z => by
            have y := I18.pin (b, ob) (List.mem_append_right _ (List.mem_append_right _ (mem_pinsAt hb z)))
            exact ⟨y.1, y.2.1⟩
          refine ⟨q, hq, j + 1, _, I18.unpinned.weak (by rw [← hw15, wipe_length]) (fun j v z => by rw [← hw15] at z; exact (wipe_some z).1), T1.keep _ _ _ st14 fun b hb ob z => (pin b hb ob z).1, fun b hb => ?_, wq⟩
          obtain ⟨ob, z, _⟩ := T1.obj _ _ st14 b hb
          exact (pin b hb ob z).2
      exact start_b inner (T1.self X.A 0 _ _ _ st11 inner)
  exact codeAny_compStart_dict loop (T0.self X.A 0 _ _ _ st4 loop)
end
end Pv
set_option maxHeartbeats 0
/-! enumerate of an own object whose __iter__ walks a tuple -/
namespace Pv
open Rp (rp)
open Ow (ow)
open Da (toD)
open PySem L2
/-- what iter(o) gives -/
theorem own_itT {X : Cx} {C f : Addr} {fld : Str} (T : ItFt X C fld f) {A : Around} {pins : List (Addr × Obj)} {σ : L2.St} {H : Hp} {s : Shared} {a dx d : Addr} {fs : List (Str × V)} {zs : List V} {Q : Value → Shared → Prop} (sb : Sub X 1 A) (I : L2.Inv X pins σ H s)
    (ha : H a = some (.ins C dx fs)) (hl : fs.lookup fld = some (.ref d)) (hd : SqT X.K H d zs)
    (k : ∀ it s', s.heap.objs.size ≤ it → it < s'.heap.objs.size → L2.Inv X pins σ H s' → s'.heap.IsTupleIter it d 0 → FpOk X pins H it → Q (.ref it) s') : wpAny (model X.prog X.w) A (pyIter (.ref a)) Q X.xe s := by
  obtain ⟨mA, J, _⟩ := ins_get I.hok ha
  obtain ⟨odA, J, _⟩ := J.look
  obtain ⟨m, hF⟩ := I.fr
  obtain ⟨fd, N, ps, x, qual, st, F, S, hb, h1, hps⟩ := T.ex
  refine PySem.W.owit_iter hF I.ok.mod.kin J T.it T.itF ?_
  have e0 : Env0 X.prog X.w X.K X.mg X.base A X.stack s H := { I.env0 with frames := by rw [sb.fr]; exact I.env0.frames }
  refine wpAny_call (codeAny_mono (run_body (CI := CX0) (k := 0) (N := N) (E := E0) (Q := fun v H' => ∃ it, v = .ref it ∧ H it = none ∧ s.heap.objs.size ≤ it ∧ H' = upd H it (itT it d)) F S sb.room e0 hb (vs := [.ref a]) (.cons rfl .nil) (by rw [h1]; rfl) fun cdv hr => ⟨_, hps _ rfl rfl rfl rfl rfl, ?_⟩) fun r s' hq => ?_)
  · refine ⟨.ref a, ?_, a, C, dx, fs, .ref d, rfl, ha, T.cl, T.na, hl, d, zs, rfl, hd, fun it n1 n2 => ⟨it, rfl, n1, n2, rfl⟩⟩
    unfold L2.start; rfl
  · cases r with
    | error e => exact hq.elim
    | ok fl =>
      cases fl with
      | next => exact hq.elim
      | brk => exact hq.elim
      | cont => exact hq.elim
      | ret u =>
        obtain ⟨v, H', I', rv, it, rfl, n1, n2, rfl⟩ := I.after hq
        cases rv
        have hk : s'.heap.IsTupleIter it d 0 := (I'.hok it _ upd_same).1
        have fp := ItX.inv_fp I' (a := it) upd_same (Nat.le_trans I.sz n2)
        have I2 := ItX.inv_drop I' (a := it) upd_same
        rw [ItX.dropH_upd n1] at I2 fp
        obtain ⟨oi, ei, ci, di⟩ := id hk
        unfold PySem.W.OwitIt
        refine wpAny_bind (((PySem.W.Looks.ld ei).andThen .now : PySem.W.Looks _ _ (typeOf (.ref it)) oi.cls).here ?_)
        rw [ci]
        show wpAny _ _ (typeLookup (.type "tuple_iterator") (Str.ofString "__next__")) _ _ _
        rw [show typeLookup (.type "tuple_iterator") (Str.ofString "__next__") = _ from PySem.F.slot_tuple_iterator_next.lookup]
        exact wpAny_pure (k it s' n2 (Heap.lt_size ei) I2 hk fp)
/-- enumerate(o), whatever iter(o) does -/
theorem enum_in {prog : Program} {w : World} (v : Value) : MeetsIn prog w (Builtin.«enumerate.__new__» { pos := [.type "enumerate", v] }) fun A R s => wpAny (model prog w) A.in1 (pyIter v) (fun u s1 => ∃ it, u = .ref it ∧ R (.ok (.ret (.ref s1.heap.objs.size))) { s1 with heap := s1.heap.push { cls := .type "enumerate", data := .fields #[.none, .bool false, .ref it, rawInt 0, .none, .none] } }) (fun e s' => R (.error e) s') s :=
  MeetsIn.of_wp fun A R s h => by
    have hsub := sub_enumerate
    refine wpAny_bind ?_
    show wpAny _ _ (_ >>= _) _ _ _
    refine wpAny_bind ?_
    refine wpAny_pure ?_
    refine wpAny_ite_false rfl ?_
    refine wpAny_bind ?_
    refine wpAny_of_eq hsub ?_
    refine wpAny_ite_false rfl ?_
    refine wpAny_pure ?_
    refine wpAny_ite_true rfl ?_
    refine wpAny_bind ?_
    show wpAny _ _ (_ >>= _) _ _ _
    refine wpAny_bind ?_
    refine wpAny_stack_any fun st => ?_
    refine wpAny_pure ?_
    split
    · rename_i c tail kw snd tl hx
      generalize (c == Value.type "enumerate") = short
      cases short
      · refine wpAny_ite_false rfl ?_
        refine wpAny_bind ?_
        refine wpAny_pure ?_
        refine wpAny_bind (wpAny_mono h (fun u s1 h1 => ?_) fun _ _ z => z)
        obtain ⟨it, rfl, h1⟩ := h1
        refine wpAny_bind ?_
        show wpAny _ _ (newObj (Value.type "enumerate") (Data.fields (Builtin.SmallTypes.ownedTupleFields ++ [Value.ref it, rawInt 0, Value.none, Value.none]).toArray)) _ _ _
        rw [newF (Nat.le_of_ble_eq_true rfl)]
        refine wpAny_bind (wpAny_alloc' (wpAny_pure ?_))
        exact wpAny_pure ⟨_, rfl, h1⟩
      · refine wpAny_ite_true rfl ?_
        refine wpAny_bind ?_
        refine wpAny_pure ?_
        refine wpAny_bind (wpAny_mono h (fun u s1 h1 => ?_) fun _ _ z => z)
        obtain ⟨it, rfl, h1⟩ := h1
        refine wpAny_bind ?_
        show wpAny _ _ (newObj (Value.type "enumerate") (Data.fields (Builtin.SmallTypes.ownedTupleFields ++ [Value.ref it, rawInt 0, Value.none, Value.none]).toArray)) _ _ _
        rw [newF (Nat.le_of_ble_eq_true rfl)]
        refine wpAny_bind (wpAny_alloc' (wpAny_pure ?_))
        exact wpAny_pure ⟨_, rfl, h1⟩
    · refine wpAny_ite_false rfl ?_
      refine wpAny_bind ?_
      refine wpAny_pure ?_
      refine wpAny_bind (wpAny_mono h (fun u s1 h1 => ?_) fun _ _ z => z)
      obtain ⟨it, rfl, h1⟩ := h1
      refine wpAny_bind ?_
      show wpAny _ _ (newObj (Value.type "enumerate") (Data.fields (Builtin.SmallTypes.ownedTupleFields ++ [Value.ref it, rawInt 0, Value.none, Value.none]).toArray)) _ _ _
      rw [newF (Nat.le_of_ble_eq_true rfl)]
      refine wpAny_bind (wpAny_alloc' (wpAny_pure ?_))
      exact wpAny_pure ⟨_, rfl, h1⟩
theorem call_enum_own {X : Cx} {C f : Addr} {fld : Str} (T : ItFt X C fld f) {pins : List (Addr × Obj)} {σ : L2.St} {H : Hp} {s : Shared} {a dx d : Addr} {fs : List (Str × V)} {zs : List V} {Q : Value → Shared → Prop} (hr : Room 3 X.A) (I : L2.Inv X pins σ H s)
    (ha : H a = some (.ins C dx fs)) (hl : fs.lookup fld = some (.ref d)) (hd : SqT X.K H d zs)
    (k : ∀ e it s', L2.Inv X pins σ H s' → IsEnum s'.heap e it 0 .none → s'.heap.IsTupleIter it d 0 → e ≠ it → FpOk X pins H it → FpOk X pins H e → Q (.ref e) s') : wpAny (model X.prog X.w) X.A (call (.type "enumerate") [.ref a]) Q X.xe s := by
  refine callType_newIn F.called_enumerate (by decide) (F.typeCall_enumerate_1 (.ref a)) (F.newCall_enumerate_1 (.ref a)) (fun obj => F.args_object_init_2 obj (.ref a)) F.entry_enumerate_new (enum_in (.ref a)) ?_
  show wpAny _ X.A.in1.in1 _ _ _ _
  refine own_itT T ⟨(hr.in1).in1, rfl⟩ I ha hl hd fun it s1 h1 h2 I1 hit fp => ⟨it, rfl, ?_⟩
  have he := Heap.get?_push_size s1.heap (o := { cls := .type "enumerate", data := .fields #[.none, .bool false, .ref it, rawInt 0, .none, .none] }) rfl
  have I2 : L2.Inv X pins σ H { s1 with heap := s1.heap.push { cls := .type "enumerate", data := .fields #[.none, .bool false, .ref it, rawInt 0, .none, .none] } } := I1.kept (t' := s1.toks) fun b o z => Heap.get?_push_of_some _ z
  show Shared.TypeIs _ (.ref s1.heap.objs.size) "enumerate" ∧ Q (.ref s1.heap.objs.size) _
  exact ⟨⟨_, he, rfl⟩, k _ it _ I2 he (hit.at fun o z => Heap.get?_push_of_some _ z) (Nat.ne_of_gt h2) fp (I1.fpOk (Nat.le_refl _) (I1.hok.fresh (Nat.le_refl _)))⟩
theorem pi_enumO {X : Cx} {C f : Addr} {fld : Str} (T : ItFt X C fld f) (hr : Room 3 X.A) {elts : List Expr} {kk : Nat} {tpos p pos : Pos} {e : Expr} {ta : TA} (hg : Gl X "enumerate") (hm : X.mg "enumerate" = none) (ha : PA X [e] ta) (hs : starEach [e] X.env = [(false, eval e X.env)]) :
    PI X (.Tuple elts kk tpos) (.Call (.Name "enumerate" p) [e] [] pos) (fun σ H R => ta σ H fun vs H1 => ∃ a dx fs d zs, vs = [.ref a] ∧ H1 a = some (.ins C dx fs) ∧ fs.lookup fld = some (.ref d) ∧ SqT X.K H1 d zs ∧ R (IteT X.K d) H1) := ⟨fun pins s σ H R I h => by
  refine PyProof.Rows.Call_ (ld_blt I hg hm PyProof.Rows.boot_enumerate (PyProof.Rows.callWith_type1 (thn (ha.run pos pins s σ H _ I h) fun us s1 ⟨vs, H1, I1, r1, a, dx, fs, d, zs, e1, ha1, hl, hd, q⟩ => ?_) (by rw [hs]; rfl) (by rfl)))
  subst e1
  cases r1 with
  | cons r rr =>
    cases rr
    cases r
    refine call_enum_own T hr I1 ha1 hl hd fun e it s2 I2 he hit hne f1 f2 => ?_
    refine wpAny_pyIter_enum he ?_
    exact ⟨e, [e, it], _, IteT X.K d, H1, rfl, I2, turn_enumT d _ _, ⟨⟨_, he⟩, hit, hne⟩, fun b hb => by
      rcases List.mem_cons.mp hb with rfl | hb
      · exact f2
      · rw [List.mem_singleton.mp hb]; exact f1, q⟩⟩
section
variable {X : Cx} {c : CL} {Γ : List Sl} {γ α : Type} [Ob γ] [Rp α] {ob : γ} {fld : Str} {get : γ → Tup α}
theorem i_enumO {elts : List Expr} {kk : Nat} {tpos p pos : Pos} {e : Expr} (B : ItBt X.K X.mg c γ α fld get) (hr : Room 3 X.A) (h : E X c Γ e ob) (hm : X.mg "enumerate" = none) (hg : Gl X "enumerate" := by rfl) (hs : starEach [e] X.env = [(false, eval e X.env)] := by rfl) : I X c Γ (.Tuple elts kk tpos) (.Call (.Name "enumerate" p) [e] [] pos) (nums (get ob).l) := fun _ _ σ Hf H g R k => by
  obtain ⟨f, hF⟩ := B.ex
  refine ⟨_, pi_enumO (hF X rfl rfl) hr hg hm (pa_cons pe_w pa_nil (by rw [hs]; rfl)) hs, h _ _ σ Hf H g _ fun v Hf1 H1 s1 r1 => ?_⟩
  obtain ⟨q, dx, fvs, rfl, h1, h2⟩ := Ob.iff.mp r1
  obtain ⟨w, h3, t, vs, h4, h5, h6⟩ := h2.get (B.at_ ob)
  exact ⟨q, dx, fvs, t, vs, rfl, s1.s _ _ h1, by rw [h3, h4], sqT_of (s1.s _ _ h5), k _ Hf1 H1 s1 (wk_enumT (sqT_of h5) h6)⟩
end
end Pv
set_option maxHeartbeats 0
/-! An exception that leaves a comprehension within a def -/
namespace Pv
open Rp (rp)
open Ow (ow)
open Da (toD)
open PySem L2 PySem.Spec PyProof.Rows
section
open HandSPX
variable {M : Model} {A : Around} {E : Value → Shared → Prop} {s : Shared} {env : Env} {outer : List Env} {L e : Addr} {B : Heap} {Z : Obj → Prop} {fl : Value}
/-- whatever flight the exception has: the frame notes it -/
theorem note_any {Q : Unit → Shared → Prop} (hZ : PXN.Steady1 Z) (hfr : A.frames = some (env :: outer)) (hf : env.frame = some L) (kb : B.StaysIn s.heap) (hn : B.get? e = none) (hl : s.heap.FunFrames B (env :: outer)) (ht : TracedZ s.heap B e Z fl)
    (hQ : ∀ h' fl', B.StaysIn h' → h'.FunFrames B (env :: outer) → TracedZ h' B e Z fl' → s.heap.UpToSlots h' → Q () { s with heap := h' }) : wpAny M A (noteFrame (.ref e) env) Q E s := by
  have ht0 := ht
  obtain ⟨oe, vs, T, oT, ts, he, hz, hd, h1, nT, Te, hT, dT, h3⟩ := ht
  unfold noteFrame
  simp only [hf]
  refine wpAny_bind (wpAny_field he hd h1 ?_)
  rw [if_pos (show (Value.ref T != Value.none) = true from by simp)]
  refine wpAny_bind (wpAny_field hT dT h3 ?_)
  by_cases hb : (fl == rawInt L) = true
  · rw [if_pos hb]
    exact wpAny_pure (hQ s.heap fl kb hl ht0 (Heap.UpToSlots.refl _))
  rw [if_neg hb]
  refine wpAny_bind (wpAny_setField hT dT (Array.getElem?_eq_some_iff.mp h3).1 ?_)
  have oth : ∀ b, b ≠ T → (s.heap.update T (Obj.mapFields (·.setIfInBounds 3 Value.none))).get? b = s.heap.get? b := fun b hb => Heap.get?_update_other _ _ (Ne.symm hb)
  have nr : ∀ b o, s.heap.get? b = some o → (∀ vs, o.data ≠ .fields vs) → b ≠ T := fun b o q hnf z => by
    rw [z, hT] at q; cases q; exact hnf ts dT
  refine PXN.wpAny_entryZ hZ hfr (hl.of_keeps fun b o q hnf => ⟨o, (oth b (nr b o q hnf)).trans q, rfl⟩) hf ((oth e (Ne.symm Te)).trans he) (fun b o q => (oth b fun z => by rw [z, nT] at q; cases q).trans (kb b o q)) hn hd (Array.getElem?_eq_some_iff.mp h1).1 hz fun h' hN => ?_
  obtain ⟨x1, x2, x3, x4⟩ := hN
  exact hQ h' _ x1 x2 x3 fun b o q hnf => x4 b o ((oth b (nr b o q hnf)).trans q) hnf
/-- .. and it leaves -/
theorem leave_any {Q : Unit → Shared → Prop} (hZ : PXN.Steady1 Z) (hfr : A.frames = some (env :: outer)) (hf : env.frame = some L) (kb : B.StaysIn s.heap) (hn : B.get? e = none) (hl : s.heap.FunFrames B (env :: outer)) (ht : TracedZ s.heap B e Z fl)
    (hQ : ∀ h', FlyingZ B outer e Z h' → s.heap.UpToSlots h' → Q () { s with heap := h' }) : wpAny M A (leaving env (.ref e)) Q E s := by
  unfold leaving
  refine wpAny_bind (note_any hZ hfr hf kb hn hl ht fun h1 fl1 k1 l1 t1 u1 => ?_)
  refine setFlight_anyZ (fr := none) k1 l1 t1 fun h2 k2 l2 t2 u2 => ?_
  obtain ⟨_, _, l3⟩ := l2
  exact hQ h2 ⟨k2, hn, l3, t2⟩ (u1.trans u2)
theorem note_env {env' : Env} {u : Value} (h : env'.frame = env.frame) : noteFrame u env' = noteFrame u env := by
  unfold noteFrame PySem.frameOf
  rw [h]
theorem FunFrames_move {h h' B B' : Heap} : ∀ {l : List Env}, h.FunFrames B l → (∀ b ∈ frs l, B'.get? b = none ∧ ∀ o, h.get? b = some o → h'.get? b = some o) → h'.FunFrames B' l
  | [], _, _ => trivial
  | env :: l, ⟨hk, ⟨L, o, hf, _, ho, hd⟩, hr⟩, hm => by
    have m : L ∈ frs (env :: l) := List.mem_filterMap.mpr ⟨env, List.mem_cons_self, hf⟩
    exact ⟨hk, ⟨L, o, hf, (hm L m).1, (hm L m).2 o ho, hd⟩, FunFrames_move hr fun b hb => by
      obtain ⟨x, hx, q⟩ := List.mem_filterMap.mp hb
      exact hm b (List.mem_filterMap.mpr ⟨x, List.mem_cons_of_mem _ hx, q⟩)⟩
end
section
open HandSPX
variable {X : Cx} {pins : List (Addr × Obj)} {σ : L2.St} {H3 : Hp} {s3 : Shared} {W : WX} {E : XK}
/-- an exception that a call within the comprehension's block let out -/
theorem comp_err {E₁ : Value → Shared → Prop} {scope : Scope} {ce : Env} {fp : List Addr} {pins' : List (Addr × Obj)} {σb : L2.St} {Hb : Hp} {sb s' : Shared} {u acc : Value} {Qf : Value → Shared → Prop} {xe' : Value → Shared → Prop} {pn : List (Addr × Obj)}
    (hs : X.stack = X.env :: X.outer) (hf : X.env.frame = some X.env.locals) (hex : X.ex = []) (hpn : X.pn = [])
    (hx : X.xe = fun e s' => wpAny (model X.prog X.w) X.A (leaving X.env e) (fun _ s'' => L2N.CX X.prog X.w X.outer X.H_0 X.s_0 E e s'') E₁ s')
    (I3 : Inv X pins σ H3 s3) (f3 : ∀ b ∈ fp, FpOk X pins H3 b) (hL : ce.locals = s3.heap.objs.size) (hcf : ce.frame = X.env.frame)
    (J : Inv ((X.blk s3 H3 scope ce fp).tr pn xe') pins' σb Hb sb) (hc : L2N.CX X.prog X.w X.stack Hb sb E u s') :
    notedBy (model X.prog X.w) X.A ce (fun e s' => compPost (model X.prog X.w) X.A X.xe none Qf acc s3.heap.objs.size (.error e) s') u s' := by
  obtain ⟨a, B, sI, pins2, σ2, H', cls, d, rfl, I, nb, up, sky, na, os, ag, w⟩ := L2N.XE.of_call (W := fun cls d _ H => E cls d H) J (fun _ _ _ h => h) hc
  have sky : Sky B X.stack a (L2N.Zn cls d) ce.locals s'.heap := sky
  have hfr : X.A.frames = some (X.env :: X.outer) := by rw [I3.ok.frames, hs]
  have nb : ∀ b o, sI.heap.get? b = some o → b ∉ frs X.stack → B.get? b = some o := nb
  unfold notedBy
  rw [note_env hcf]
  rw [hs] at sky
  have hst : (X.blk s3 H3 scope ce fp).stack = X.env :: X.outer := hs
  have cx : X.env.locals < s3.heap.objs.size := I3.lt
  have cs : ∀ b ∈ frs X.stack, b ≠ s3.heap.objs.size := fun b hb z => by
    obtain ⟨_, o, ho, _⟩ := I3.stack.mem hb
    rw [z] at ho
    exact absurd (Heap.lt_size ho) (Nat.lt_irrefl _)
  obtain ⟨m, hm, _⟩ := id I.loc
  have hm : sI.heap.Ns ce.locals m := hm
  rw [hL] at hm sky
  obtain ⟨oC, es, ep, hoC, hrC⟩ := hm
  have bC : B.get? s3.heap.objs.size = some oC := nb _ _ hoC fun z => cs _ z rfl
  have nC : H' s3.heap.objs.size = none := by
    have z : H' ce.locals = none := I.free
    rw [hL] at z; exact z
  obtain ⟨B', b1, b2⟩ := restrict B fun b => b != s3.heap.objs.size
  obtain ⟨G, g1, g2⟩ := restrict sI.heap fun b => b != s3.heap.objs.size
  have bB : ∀ b o, B'.get? b = some o → b ≠ s3.heap.objs.size ∧ B.get? b = some o := fun b o q => by
    by_cases z : b = s3.heap.objs.size
    · rw [b2 b (by simp [z])] at q; cases q
    · rw [b1 b (by simpa using z)] at q; exact ⟨z, q⟩
  have gG : ∀ b o, G.get? b = some o → b ≠ s3.heap.objs.size ∧ sI.heap.get? b = some o := fun b o q => by
    by_cases z : b = s3.heap.objs.size
    · rw [g2 b (by simp [z])] at q; cases q
    · rw [g1 b (by simpa using z)] at q; exact ⟨z, q⟩
  have bN : ∀ b, B.get? b = none → B'.get? b = none := fun b q => by
    cases z : B'.get? b with
    | none => rfl
    | some o => rw [(bB b o z).2] at q; cases q
  have I7 : Inv X pins σ H' sI := I3.call' (ch := fp) I.os I.base I.hok I.bare fun b hb => ⟨(f3 b hb).2.2.2.1, (f3 b hb).2.1, (f3 b hb).2.2.2.2.1, (f3 b hb).2.2.2.2.2⟩
  obtain ⟨p0, p1, p2, p3, p4, p5⟩ := I3.fpOk (Nat.le_refl _) nC
  have I9 : Inv X pins σ H' { sI with heap := G } := I7.turned (t' := sI.toks) (fun b o hb q => (g1 b (by simpa using hb)).trans q) p0 p1 p3 p4 p5
  have nb' : ∀ b o, G.get? b = some o → b ∉ frs X.stack → B'.get? b = some o := fun b o q hb => by
    obtain ⟨z, q⟩ := gG b o q
    rw [b1 b (by simpa using z)]
    exact nb b o q hb
  have hex' : ∀ b, b ∉ X.ex := fun b hb => by rw [hex] at hb; cases hb
  have nst : ∀ b o, X.s_0.heap.get? b = some o → b ∉ X.fs → b ∉ frs X.stack := fun b o q hb hm => by
    rcases List.mem_cons.mp (I3.stkSub b hm) with z | z
    · have h1 := Heap.lt_size q
      rw [z] at h1
      exact absurd (Nat.lt_of_lt_of_le h1 I3.ok.above) (Nat.lt_irrefl _)
    · exact hb z
  have sub : ∀ b ∈ X.fs, b ∈ frs X.stack := fun b hb => by
    rw [hs]
    obtain ⟨v, hv, q⟩ := List.mem_filterMap.mp hb
    exact List.mem_filterMap.mpr ⟨v, List.mem_cons_of_mem _ hv, q⟩
  have aN : B.get? a = none := by rcases sky with ⟨_, q, _⟩ | ⟨_, q, _⟩ | ⟨_, q, _⟩ <;> exact q
  have aC : a ≠ s3.heap.objs.size := fun z => by rw [z, bC] at aN; cases aN
  have fin : ∀ h1 fl1, B.StaysIn h1 → h1.FunFrames B (X.env :: X.outer) → TracedZ h1 B a (L2N.Zn cls d) fl1 → s'.heap.UpToSlots h1 → compPost (model X.prog X.w) X.A X.xe none Qf acc s3.heap.objs.size (.error (.ref a)) { s' with heap := h1 } := fun h1 fl1 k1 l1 t1 u1 => by
    refine ⟨m, ⟨oC, es, ep, k1 _ _ bC, hrC⟩, fun h4 sb4 cenv _ => ?_⟩
    have k4 : ∀ b, b ≠ s3.heap.objs.size → h4.get? b = h1.get? b := fun b hb => sb4.2 b hb
    have S4 : B'.StaysIn h4 := fun b o q => by
      obtain ⟨z, q⟩ := bB b o q
      rw [k4 b z]; exact k1 b o q
    have L4 : h4.FunFrames B' (X.env :: X.outer) := FunFrames_move l1 fun b hb => by
      have hb' : b ∈ frs X.stack := by rw [hs]; exact hb
      exact ⟨bN b (l1.mem hb).1, fun o q => by rw [k4 b (cs b hb')]; exact q⟩
    obtain ⟨oe, vs, T, oT, ts, he, hz, hd, h1', nT, Te, hT, dT, h3'⟩ := t1
    have TC : T ≠ s3.heap.objs.size := fun z => by rw [z, bC] at nT; cases nT
    have e4 : h4.get? a = some oe := by rw [k4 a aC]; exact he
    have T4 : TracedZ h4 B' a (L2N.Zn cls d) fl1 := ⟨oe, vs, T, oT, ts, e4, hz, hd, h1', bN T nT, Te, by rw [k4 T TC]; exact hT, dT, h3'⟩
    unfold PySem.passOn
    refine wpAny_bind (wpAny_field (s := { s' with heap := h4 }) e4 hd h1' ?_)
    rw [if_neg (show ¬ (Value.ref T == Value.none) = true from by simp)]
    refine wpAny_bind (setFlight_anyZ (fr := cenv.frame) S4 L4 T4 fun h5 k5 l5 t5 u5 => ?_)
    refine wpAny_throw ?_
    rw [hx]
    refine leave_any L2N.Zn.steady hfr hf k5 (bN a aN) l5 t5 fun h6 fl6 u6 => ?_
    refine ⟨a, B', H', cls, d, rfl, fl6, I9.inGround nb', ⟨fun b o q n hb => nb' b o (I9.base.keep b o q n hb (hex' b)) (nst b o q hb), fun b o q hb => ?_, fun b o q n => I9.base.free b o q n (hex' b), fun b o q hb => ?_, I9.base.tups, I9.base.frzs, I9.base.tbls⟩, na, os.trans I9.os, ag, w⟩
    · obtain ⟨_, o₀, e₀, hnf⟩ := I3.ok.funs.mem hb
      rw [q] at e₀; cases e₀
      obtain ⟨sl, q1⟩ := I9.base.slot b o q (I3.ok.frf b hb) hb (hex' b)
      obtain ⟨zb, q1⟩ := gG b _ q1
      obtain ⟨sl2, q2⟩ := up b _ q1 hnf
      obtain ⟨sl3, q3⟩ := u1 b _ q2 hnf
      have q4 : h4.get? b = some { o with slots := sl3 } := by rw [k4 b zb]; exact q3
      obtain ⟨sl5, q5⟩ := u5 b _ q4 hnf
      obtain ⟨sl6, q6⟩ := u6 b _ q5 hnf
      exact ⟨sl6, q6⟩
    · obtain ⟨o', q1⟩ := I9.base.there b o q (hex' b)
      exact ⟨o', nb' b o' q1 (nst b o q hb)⟩
  rcases sky with ⟨hB, hn, hl, oe, vs, he, hz, hd, h1⟩ | ⟨hB, hn, hl, ht⟩ | ⟨hB, hn, hl, ht⟩
  · exact PXN.look_newZ L2N.Zn.steady hfr hl hf he hB hn hd h1 hz fun h' hh up' => fin h' _ hh.1 hh.2.2.1 hh.2.2.2 up'
  · exact note_any L2N.Zn.steady hfr hf hB hn hl ht fin
  · exact note_any L2N.Zn.steady hfr hf hB hn hl ht fin
end
end Pv
set_option maxHeartbeats 0
/-! [e for x in ..] within a def: an e raises -/
namespace Pv
open Rp (rp)
open Ow (ow)
open Da (toD)
open PySem L2 PySem.Spec PyProof.Rows
/-- X is a def's own context, E what its caller takes -/
structure Dx (X : Cx) (E : XK) : Prop where
  stk : X.stack = X.env :: X.outer
  frm : X.env.frame = some X.env.locals
  ex : X.ex = []
  pn : X.pn = []
  xe : ∃ E₁ : Value → Shared → Prop, X.xe = fun e s' => wpAny (model X.prog X.w) X.A (leaving X.env e) (fun _ s'' => L2N.CX X.prog X.w X.outer X.H_0 X.s_0 E e s'') E₁ s'
theorem dx_def {P : Program} {w : World} {K : PySem.W.Frag} {mg : Str → Option Value} {base : Heap} {N : List Str} {qual : Str} {scope : Scope} {f : Addr} {cdv : Value} {A : Around} {outer : List Env} {s : Shared} {H : Hp} {E : XK} : Dx (cxOf (L2N.CX P w) P w K mg base N qual scope f cdv A outer s H E) E :=
  ⟨rfl, rfl, rfl, rfl, _, rfl⟩
abbrev xB (X : Cx) (s : Shared) (H : Hp) (scope : Scope) (ce : Env) (fp : List Addr) (pn : List (Addr × Obj)) (xe : Value → Shared → Prop) : Cx := (X.blk s H scope ce fp).tr pn xe
/-- .. in each block that lets E out -/
def BlkX (X : Cx) (scope : Scope) (E : XK) (p : Cx → Prop) : Prop :=
  ∀ (s : Shared) (H : Hp) (C : Addr) (cl : List (Str × Addr)) (fp : List Addr) (pn : List (Addr × Obj)) (xe : Value → Shared → Prop), (∀ σ, PassesAt (L2N.CX X.prog X.w) (xB X s H scope (compEnvC scope cl C X.env) fp pn xe) σ E) → p (xB X s H scope (compEnvC scope cl C X.env) fp pn xe)
def bX (X : Cx) (scope : Scope) (E : XK) (e : Expr) : TE := fun σ H Q => BlkX X scope E fun Y => wE Y e σ H Q
section
variable {X : Cx}
theorem lcx_core {pins : List (Addr × Obj)} {s : Shared} {σ : L2.St} {H : Hp} {Q : VK} {E : XK} {elt tg iter : Expr} {ifs : List Expr} {scope : Scope} {own : List (Str × Nat)} {pos pos' : Pos} {wi : TI} {g : TG} {tt : TT} {Qf : Value → Shared → Prop}
    (D0 : Dx X E) (hc : X.calm = true) (hN : X.N.Nodup) (I : Inv X pins σ H s) (hi : PI X tg iter wi) (ok : BlkOk X.N X.env.scope scope own)
    (hg : ∀ (s : Shared) (H : Hp) (C : Addr) (cl : List (Str × Addr)) (fp : List Addr), PG (X.blk s H scope (compEnvC scope cl C X.env) fp) tg g) (ht : ∀ (s : Shared) (H : Hp) (C : Addr) (cl : List (Str × Addr)) (fp : List Addr), PTs (X.blk s H scope (compEnvC scope cl C X.env) fp) ifs tt)
    (hs : ∀ x, foldedSetIterable iter X.env x = pure x) (h : tLc wi g tt (bX X scope E elt) (own.map (·.2)) σ H Q)
    (hQf : ∀ D C s' m H', Inv X pins σ H' s' → Q (.ref D) H' → s'.heap.Ns C m → FpOk X pins H' C → compPost (model X.prog X.w) X.A X.xe none Qf (.ref D) C (.ok .next) s') :
    wpAny (model X.prog X.w) X.A (comprehension (.ListComp elt [⟨tg, iter, ifs, 0⟩] scope pos) scope X.env pos' (newList []) false (eval iter X.env) none) Qf X.xe s := by
  obtain ⟨dS, dF, dE, dP, E₁, dX⟩ := D0
  have free : ∀ y ∈ scope.names, y.2 = .free → ∃ c, X.env.cells.lookup y.1 = some c := fun y hy e => (ok.free y hy e).elim (fun k => I.ok.has _ (.inl k)) fun k => I.ok.has _ (.inr k)
  refine wpAny_comprehension_free (use := none) rfl hs (closure_ok free) ok.kind (fun y hy e => by rw [ok.uniq y hy, e]) (thn (hi.run pins s σ H _ I h) fun xv s1 hx => thn hx fun itv s2 ⟨it, fp, tn, J, H2, e, I2, T, t2, f2, q⟩ => ?_)
  subst e
  refine wpAny_newObj_type (newEnv_comp ?_) (by show 0 ≤ sizeLine; decide)
  obtain ⟨D, hD⟩ : ∃ D, s2.heap.objs.size = D := ⟨_, rfl⟩
  rw [hD]
  obtain ⟨W, ⟨m0, w0⟩, turn⟩ := q D (I2.hok.fresh (Nat.le_of_eq hD))
  obtain ⟨s3, hs3⟩ : ∃ s3 : Shared, ({ s2 with heap := s2.heap.push { cls := .type "list", data := .seq ([] : List Value).toArray } } : Shared) = s3 := ⟨_, rfl⟩
  rw [hs3]
  have k3 : s3.heap = s2.heap.push { cls := .type "list", data := .seq ([] : List Value).toArray } := by rw [← hs3]
  have I3 : Inv X pins σ (upd H2 D (.lst [])) s3 := by
    subst hs3
    exact I2.laid (t' := s2.toks) (fun b o e => Heap.get?_push_of_some _ e) (Nat.le_of_eq hD) ⟨Nat.zero_le _, [], 0, .nil, by rw [← hD]; exact Heap.get?_push_size _ rfl⟩
  have below : ∀ b ∈ fp, b < s2.heap.objs.size := fun b hb => let ⟨_, e, _⟩ := T.obj _ _ t2 b hb; Heap.lt_size e
  have f3 : ∀ b ∈ fp, FpOk X pins (upd H2 D (.lst [])) b ∧ b < s3.heap.objs.size := fun b hb => by
    have z := below b hb
    exact ⟨⟨by rw [upd_ne (by rw [← hD]; exact Nat.ne_of_lt z)]; exact (f2 b hb).1, (f2 b hb).2⟩, by rw [k3, Heap.size_push]; exact Nat.lt_succ_of_lt z⟩
  have t3 : tn 0 s3.heap := T.keep _ _ _ t2 fun b _ o e => by rw [k3]; exact Heap.get?_push_of_some _ e
  have I4 := block_start I3 ok hN f3
  obtain ⟨ce, hce⟩ : ∃ ce, compEnvC scope (cellsFrom (s3.heap.objs.size + 1) scope.names (cloFrom X.env.cells scope.names [])) s3.heap.objs.size X.env = ce := ⟨_, rfl⟩
  have pg := hg s3 (upd H2 D (.lst [])) s3.heap.objs.size (cellsFrom (s3.heap.objs.size + 1) scope.names (cloFrom X.env.cells scope.names [])) fp
  have pt := ht s3 (upd H2 D (.lst [])) s3.heap.objs.size (cellsFrom (s3.heap.objs.size + 1) scope.names (cloFrom X.env.cells scope.names [])) fp
  show codeAny _ _ (.compStart (.ListComp elt [⟨tg, iter, ifs, 0⟩] scope pos) 0 (.ref it) (.ref D) (compEnvC scope (cellsFrom (s3.heap.objs.size + 1) scope.names (cloFrom X.env.cells scope.names [])) s3.heap.objs.size X.env)) (compPost (model X.prog X.w) X.A X.xe none Qf (.ref D) s3.heap.objs.size) { s3 with heap := pushCells (s3.heap.push { cls := .type "dict", data := .dict #[] }) scope.names }
  have pe : ∀ {pn : List (Addr × Obj)} {xe : Value → Shared → Prop}, (∀ σ, PassesAt (L2N.CX X.prog X.w) (xB X s3 (upd H2 D (.lst [])) scope ce fp pn xe) σ E) → PE (xB X s3 (upd H2 D (.lst [])) scope ce fp pn xe) elt (bX X scope E elt) := fun {pn xe} ps => by
    subst hce
    exact ⟨fun pins st σ H' Q I q => pe_w.run pins st σ H' Q I (q s3 _ s3.heap.objs.size _ fp pn xe ps)⟩
  rw [hce] at I4 pg pt ⊢
  have cL : ce.locals = s3.heap.objs.size := by subst hce; rfl
  have cF : ce.frame = X.env.frame := by subst hce; rfl
  obtain ⟨H3, hH3⟩ : ∃ H3, upd H2 D (.lst []) = H3 := ⟨_, rfl⟩
  rw [hH3] at I3 I4 pg pt w0 f3
  have pe : ∀ {pn : List (Addr × Obj)} {xe : Value → Shared → Prop}, (∀ σ, PassesAt (L2N.CX X.prog X.w) (xB X s3 H3 scope ce fp pn xe) σ E) → PE (xB X s3 H3 scope ce fp pn xe) elt (bX X scope E elt) := by subst hH3; exact pe
  obtain ⟨s4, hs4⟩ : ∃ s4 : Shared, ({ s3 with heap := pushCells (s3.heap.push { cls := .type "dict", data := .dict #[] }) scope.names } : Shared) = s4 := ⟨_, rfl⟩
  rw [hs4] at I4 ⊢
  have t4 : tn 0 s4.heap := T.keep _ _ _ t3 fun b _ o e => by rw [← hs4]; exact pushCells_keeps _ _ _ _ (Heap.get?_push_of_some _ e)
  have stat : ∀ {σ' : L2.St} {H' : Hp} {s' : Shared}, Inv (X.blk s3 H3 scope ce fp) [] σ' H' s' → (∀ b ∈ fp, H' b = none) → ∀ b ∈ fp, FpOk (X.blk s3 H3 scope ce fp) [] H' b := fun {σ' H' s'} J hn b hb =>
    ⟨hn b hb, (J.ok.exf b hb).1, J.ok.exfs b hb, .inl hb, fun x c e => (J.ok.exf b hb).2 x c e, fun p hp => absurd (show p ∈ ([] : List (Addr × Obj)) ++ [] from hp) (by simp)⟩
  have loop : codeAny (model X.prog X.w) X.A (.compLoop (.ListComp elt [⟨tg, iter, ifs, 0⟩] scope pos) 0 (.ref it) (.ref D) ce) (compPost (model X.prog X.w) X.A X.xe none Qf (.ref D) s3.heap.objs.size) s4 := by
    refine compLoop_any (fun n s' => ∃ i H', Inv (X.blk s3 H3 scope ce fp) [] (wipe σ (own.map (·.2))) H' s' ∧ tn i s'.heap ∧ (∀ b ∈ fp, H' b = none) ∧ W i n H') ?_ m0 ⟨0, H3, I4, t4, fun b hb => (f3 b hb).1.1, w0⟩
    rintro n s5 ⟨i, H5, I5, t5, n5, w5⟩
    rcases turn i n H5 w5 with ⟨stop, qq⟩ | ⟨go, Nx, hNx, step⟩
    · refine thnF (T.done (X.blk s3 H3 scope ce fp) rfl rfl rfl hc i [] s5 _ H5 (fun _ _ => False) I5 (stat I5 n5) t5 stop) fun r s6 ⟨hr, I6⟩ => ?_
      subst hr
      have I7 : Inv X pins σ H5 s6 := I3.call' (ch := fp) I6.os I6.base I6.hok I6.bare fun b hb => ⟨(f3 b hb).1.2.2.2.1, (f3 b hb).1.2.1, (f3 b hb).1.2.2.2.2.1, (f3 b hb).1.2.2.2.2.2⟩
      have nC : H5 s3.heap.objs.size = none := by rw [← cL]; exact I6.free
      obtain ⟨m, hn, _⟩ := I6.loc
      have hn : s6.heap.Ns ce.locals m := hn
      exact hQf D s3.heap.objs.size s6 m H5 I7 qq (by rw [← cL]; exact hn) (I3.fpOk (Nat.le_refl _) nC)
    · refine thnF (T.item (X.blk s3 H3 scope ce fp) rfl rfl rfl hc i [] s5 _ H5 (fun _ _ => False) I5 (stat I5 n5) t5 go) fun r s6 ⟨u, hr, h6⟩ => ?_
      subst hr
      refine thnF h6 fun _ s7 ⟨x, H7, I7, r7, y7, t7, n7⟩ => ?_
      refine thnF (pg.run _ s7 _ H7 x u _ (I7.pinned (stat I7 n7) (T.obj _ _ t7)) r7 (step x H7 y7)) fun _ s8 ⟨σ8, H8, I8, hw8, q8⟩ => ?_
      refine thnF (pt.run _ s8 σ8 H8 _ I8 q8) fun b s9 ⟨H9, I9, q9⟩ => ?_
      have fin : ∀ {s' : Shared} {H' : Hp}, Inv (X.blk s3 H3 scope ce fp) ([] ++ pinsAt fp s7.heap) σ8 H' s' → Nx H' → ∃ m, m < n ∧ ∃ i H', Inv (X.blk s3 H3 scope ce fp) [] (wipe σ (own.map (·.2))) H' s' ∧ tn i s'.heap ∧ (∀ b ∈ fp, H' b = none) ∧ W i m H' := fun {s' H'} J nx => by
        obtain ⟨m', hm, w'⟩ := hNx H' nx
        have pin : ∀ b ∈ fp, ∀ o, s7.heap.get? b = some o → s'.heap.get? b = some o ∧ H' b = none := fun b hb o e =>
          let z := J.pin (b, o) (List.mem_append_right _ (List.mem_append_right _ (mem_pinsAt hb e)))
          ⟨z.1, z.2.1⟩
        refine ⟨m', hm, i + 1, H', (J.unpinned (pins := [])).weak (by rw [← hw8, wipe_length]) (fun j v e => (wipe_some (by rw [← hw8] at e; exact e)).1), T.keep _ _ _ t7 fun b hb o e => (pin b hb o e).1, fun b hb => ?_, w'⟩
        obtain ⟨o, e, _⟩ := T.obj _ _ t7 b hb
        exact (pin b hb o e).2
      cases b with
      | false =>
        simp only [Bool.false_eq_true, if_false] at q9 ⊢
        exact fin I9 q9
      | true =>
        simp only [if_true] at q9 ⊢
        have ps : ∀ σ, PassesAt (L2N.CX X.prog X.w) (xB X s3 H3 scope ce fp ((X.blk s3 H3 scope ce fp).pn ++ ([] ++ pinsAt fp s7.heap)) (notedBy (model X.prog X.w) X.A ce fun e s' => compPost (model X.prog X.w) X.A X.xe none Qf (.ref D) s3.heap.objs.size (.error e) s')) σ E :=
          fun σ pins' H s e s' J cx => comp_err dS dF dE dP dX I3 (fun b hb => (f3 b hb).1) cL cF J cx
        refine thn ((pe ps).run _ s9 σ8 H9 _ (I9.toTry _) q9) fun z s10 ⟨yv, H10, J10, r10, acc, hD10, hz10, nx⟩ => ?_
        exact app_ok (X := X.blk s3 H3 scope ce fp) (J10.ofTry I9.ok) hD10 hz10 r10 fun s11 I11 => fin I11 nx
  exact codeAny_compStart_list loop (T.self X.A 0 _ _ _ t4 loop)
theorem pe_lcx {E : XK} {elt tg iter : Expr} {ifs : List Expr} {scope : Scope} {own : List (Str × Nat)} {pos : Pos} {wi : TI} {g : TG} {tt : TT} (D0 : Dx X E) (hc : X.calm = true) (hN : X.N.Nodup) (hi : PI X tg iter wi) (ok : BlkOk X.N X.env.scope scope own)
    (hg : ∀ (s : Shared) (H : Hp) (C : Addr) (cl : List (Str × Addr)) (fp : List Addr), PG (X.blk s H scope (compEnvC scope cl C X.env) fp) tg g) (ht : ∀ (s : Shared) (H : Hp) (C : Addr) (cl : List (Str × Addr)) (fp : List Addr), PTs (X.blk s H scope (compEnvC scope cl C X.env) fp) ifs tt)
    (hs : ∀ x, foldedSetIterable iter X.env x = pure x := by intro _; rfl) : PE X (.ListComp elt [⟨tg, iter, ifs, 0⟩] scope pos) (tLc wi g tt (bX X scope E elt) (own.map (·.2))) :=
  ⟨fun pins s σ H Q I h => by
    rw [eval_ListComp]
    exact lcx_core D0 hc hN I hi ok hg ht hs h fun D C s' m H' J q hn ⟨f0, f1, f2, f3, f4, f5⟩ => ⟨m, hn, fun h'' sb => ⟨.ref D, H', J.turned (t' := s'.toks) (fun b o hb e => (sb.2 b hb).trans e) f0 f1 f3 f4 f5, rfl, q⟩⟩⟩
end
end Pv
set_option maxHeartbeats 0
/-! .. told of typed values -/
namespace Pv
open Rp (rp)
open Ow (ow)
open Da (toD)
open PySem L2
section
variable {X : Cx} {c : CL} {Γ : List Sl} {Ex : XK} {α : Type} [Rp α] {xs ys : List α} {a : α} {tg iter elt : Expr} {scope : Scope} {vs ts : List Nat} {gf : α → List Sl → List Sl} {own : List (Str × Nat)} {pos : Pos} {xn : Xn}
theorem xp_lc {β : Type} [Rp β] {f : α → β} (D0 : Dx X Ex) (hc : X.calm = true) (hN : X.N.Nodup) (ok : blkC X.N X.env.scope scope own = true) (hv : vs = own.map (·.2)) (hi : I X c Γ tg iter (xs ++ a :: ys)) (hts : ∀ j ∈ ts, j ∈ vs) (hl : (xs ++ a :: ys).length < 1000000)
    (hg : ∀ x, x ∈ xs ++ a :: ys → Blk X scope fun Y => G Y c tg x ts (gf x)) (he : ∀ x, x ∈ xs → BlkX X scope Ex fun Y => E Y c (gf x (wipeG Γ vs)) elt (f x)) (hx : BlkX X scope Ex fun Y => Xp Y c (fun cls d _ H => Ex cls d H) (gf a (wipeG Γ vs)) elt xn)
    (hs : ∀ x, foldedSetIterable iter X.env x = pure x := by intro _; rfl) : Xp X c (fun cls d _ H => Ex cls d H) Γ (.ListComp elt [⟨tg, iter, [], 0⟩] scope pos) xn := fun H0f H0 σ Hf H g q Q => by
  subst hv
  have ht : ∀ x, Blk X scope fun Y => Ts Y c (gf x (wipeG Γ (own.map (·.2)))) [] true := fun x _ _ _ _ _ => ts_nil
  refine ⟨_, pe_lcx D0 hc hN pi_w (blkOk_by ok) pg_b pts_b hs, ?_⟩
  refine hi _ _ σ Hf H g _ fun J Hf1 H1 s1 wk => fun D hD => ?_
  have hD1 : Hf1 D = none := s1.s.free hD
  have hlen : xs.length < (xs ++ a :: ys).length := by simp
  refine ⟨fun i m H2 => m = xs.length - i ∧ i ≤ xs.length ∧ ∃ Hf2 us, Stp Hf1 H1 Hf2 H2 ∧ Hf2 D = none ∧ H2 D = some (.lst us) ∧ RpL X.K c Hf2 us ((xs.take i).map f),
    ⟨xs.length, rfl, Nat.zero_le _, Hf1, [], ⟨Same.refl _, same_new hD, s1.s.trans (same_new hD), fun _ _ z _ _ => z⟩, hD1, upd_same, .nil⟩, ?_⟩
  rintro i m H2 ⟨rfl, hil, Hf2, us, s2, hD2, hu, ru⟩
  have hlt : i < (xs ++ a :: ys).length := Nat.lt_of_le_of_lt hil hlen
  refine .inr ⟨wk.go i H2 hlt (s2.f.trans s2.s), fun H3 => i < xs.length ∧ ∃ Hf3 us, Stp Hf1 H1 Hf3 H3 ∧ Hf3 D = none ∧ H3 D = some (.lst us) ∧ RpL X.K c Hf3 us ((xs.take (i + 1)).map f), fun H3 ⟨h0, h3⟩ => ⟨xs.length - (i + 1), by omega, rfl, h0, h3⟩, fun x H3 y => ?_⟩
  obtain ⟨Hf3, s3, b, hb, rb⟩ := wk.yld i Hf2 H2 x H3 s2.f s2.s hlt y
  have g1 := (g.step s1).step (s2.trans s3)
  intro bs bH bC bcl bfp
  refine hg b (List.mem_of_getElem? hb) bs bH bC bcl bfp _ _ _ _ Hf3 H3 (g1.wipe _) x rb _ fun σ2 g2' w2 => ?_
  have g2 := g2' _ _ _ (g1.wipe _)
  refine ⟨(wipe_ext hts w2).trans wipe_wipe, fun cs cH cC ccl cfp => ht b cs cH cC ccl cfp _ _ σ2 Hf3 H3 g2 _ fun Hf4 H4 s4 => ?_⟩
  rw [if_pos rfl]
  by_cases z : i < xs.length
  · have hb' : xs[i]? = some b := by rw [← hb, List.getElem?_append_left z]
    have hm : b ∈ xs := List.mem_of_getElem? hb'
    refine fun es eH eC ecl efp epn exe ps => he b hm es eH eC ecl efp epn exe ps _ _ σ2 Hf4 H4 (g2.step s4) _ fun w Hf5 H5 s5 r5 => ?_
    have hD4 : H4 D = some (.lst us) := s4.h _ _ (s3.h _ _ hu)
    have hDf4 : Hf4 D = none := s4.d _ _ (s3.d _ _ hD2 hu trivial) (s3.h _ _ hu) trivial
    have hDf5 : Hf5 D = none := s5.d _ _ hDf4 hD4 trivial
    have s25 := (s2.trans (s3.trans s4)).trans s5
    have hus : us.length ≤ i := by
      rw [ru.len, List.length_map, List.length_take]; exact Nat.min_le_left _ _
    refine ⟨us, s5.h _ _ hD4, Nat.lt_of_le_of_lt hus (Nat.lt_of_lt_of_le (Nat.lt_trans hlt hl) (by decide)), z, Hf5, us ++ [w], ⟨s25.f, fun b o e => ?_, fun b o e => ?_, s25.d⟩, hDf5, upd_same, ?_⟩
    · rw [upd_ne (ne_of_none e hD)]; exact s25.h b o e
    · rw [upd_ne (ne_of_none e hDf5)]; exact s25.s b o e
    · rw [take_succ' hb', List.map_append]
      exact paired_append (ru.mono ((s3.f.trans s4.f).trans s5.f)) (.cons r5 .nil)
  · have hi' : i = xs.length := by omega
    subst hi'
    have : b = a := by rw [List.getElem?_append_right (Nat.le_refl _), Nat.sub_self] at hb; exact (Option.some.inj hb).symm
    subst this
    exact fun es eH eC ecl efp epn exe ps => hx es eH eC ecl efp epn exe ps _ _ σ2 Hf4 H4 (g2.step s4) (fun cls dd Hf' H' s r => q cls dd Hf' H' (s1.trans ((s2.trans (s3.trans s4)).trans s)) r) _
end
section
variable {X : Cx} {c : CL} {Γ : List Sl} {W : WX} {e : Expr} {es : List Expr} {pos apos p0 : Pos} {x : Xn}
/-- a call that raises, where what it lets out is taken -/
theorem xp_callP {y : Str} {k : Nat} {RX : List Pk → Xn → Prop} {as : List Pk} (h : DfX X.prog X.w X.K X.mg X.base c y k RX) (tk : ∀ σ, PassesAt (L2N.CX X.prog X.w) X σ (WE W σ)) (hr : Room k X.A) (ha : As X c Γ (e :: es) as) (hR : RX as x) (hg : Gl X y := by rfl) (hdb : (y == ("__debug__" : Str)) = false := by decide)
    (he : starEach (e :: es) X.env = (false, eval e X.env) :: starEach es X.env := by rfl) (hpl : (backTo pos (starEach es X.env)).any (·.1) = false := by rfl) : Xp X c W Γ (.Call (.Name y p0) (e :: es) [] pos) x := fun _ _ σ Hf H g q Q => by
  obtain ⟨f, fd, ps, hF, hm, hk, hb⟩ := h
  exact ⟨_, pe_callS hF hr hg hm hk hb tk pa_w hdb he hpl, ha _ _ σ Hf H g _ fun vs Hf1 H1 s1 r1 => ⟨Hf1, as, x, s1.s, r1, hR, fun cls dd Hf2 H2 s2 r2 => q cls dd Hf2 H2 (s1.trans s2) r2⟩⟩
end
end Pv
set_option maxHeartbeats 0
/-! several clauses, each 'except C as e' -/
namespace Pv
open Rp (rp)
open Ow (ow)
open Da (toD)
open PySem L2 PySem.Spec PyProof.Rows
abbrev Xcl := Value × Nat × (Addr → Value → Option Addr → TS)
/-- what the clauses wish of an exception of the body, one after the other; slot i is the clause's own name -/
def wCls (K : PySem.W.Frag) (Wout : WX) (D : Ends) : List Xcl → WX
  | [] => Wout
  | (c, i, ts) :: r => fun cls d σ H => ∃ b, PySem.W.exmOne K cls c = some b ∧
      (b = true → ∀ a, H a = none → ts a cls d { nx := fun σ' H' => D.nx (σ'.set i none) H', rt := D.rt, bk := fun σ' H' => D.bk (σ'.set i none) H', ct := fun σ' H' => D.ct (σ'.set i none) H' } (σ.set i (some (.ref a))) H) ∧ (b = false → wCls K Wout D r cls d σ H)
inductive ClsOk (X : Cx) : List ExceptHandler → List Xcl → Prop
  | nil : ClsOk X [] []
  | cons {x n : Str} {i : Nat} {c : Value} {ts : Addr → Value → Option Addr → TS} {b₀ : Stmt} {suite : List Stmt} {np pos' : Pos} {hds : List ExceptHandler} {l : List Xcl} (hc : Names X x c) (hi : X.N[i]? = some n) (hln : X.env.kindOf n = some .local)
      (hsu : ∀ (a : Addr) (oe : Obj) (cls : Value) (d : Option Addr) (pn : List (Addr × Obj)), L2N.Zn cls d oe → (∃ vs, oe.data = .fields vs) → PSs (X.suite a ((a, oe) :: pn)) (b₀ :: suite) (ts a cls d)) (r : ClsOk X hds l) :
      ClsOk X (.ExceptHandler (some (.Name x np)) (some n) (b₀ :: suite) pos' :: hds) ((c, i, ts) :: l)
section
variable {X : Cx} {body : List Stmt} {h₀ : ExceptHandler} {hds : List ExceptHandler} {l : List Xcl} {pos : Pos} {tb : WX → TS} {Wout : WX}
theorem ps_try_cls (hs : X.stack = X.env :: X.outer) (hf : X.env.frame = some X.env.locals) (hN : X.N.Nodup) (tk : L2N.Takes X Wout)
    (hb : ∀ (W : WX) (pn : List (Addr × Obj)) (xe : Value → Shared → Prop), L2N.Takes (X.tr pn xe) W → PassesOwn (model X.prog X.w) X.A X.env xe → PSs (X.tr pn xe) body (tb W))
    (hh : ClsOk X (h₀ :: hds) l) : PS X (.Try body (h₀ :: hds) [] [] pos) (fun D σ H => tb (wCls X.K Wout D l) D σ H) := ⟨fun pins s σ H D I h => by
  have ok := I.ok
  refine wpAny_Try_except (wpAny_mono ((hb (wCls X.K Wout D l) (X.pn ++ pins) (fun e s₁ => wpAny (model X.prog X.w) X.A (noteFrame e X.env) (fun _ s₂ => wpAny (model X.prog X.w) X.A (setFlight e none) (fun _ s₃ =>
    wpAny (model X.prog X.w) X.A (handleBy e X.env (h₀ :: hds)) (SP X pins D) X.xe s₃) X.xe s₂) X.xe s₁) (fun u s' xx => ?_) PassesOwn.looking).run [] s σ H D (I.toTry _) h) (fun f s1 hsp => ?_) (fun e s1 he => he))
  · obtain ⟨a, B, sI, pins', σ', H', cls, d, rfl, J', nb, up, sky, na, os, ag, w⟩ := xx
    have J : Inv X pins σ' H' sI := J'.ofTry ok
    have sky : Sky B (X.env :: X.outer) a (L2N.Zn cls d) X.env.locals s'.heap := by rw [← hs]; exact sky
    show wpAny (model X.prog X.w) X.A (noteFrame (.ref a) X.env) _ _ _
    refine L2N.Sky.land L2N.Zn.steady (by rw [ok.frames, hs]) hf sky fun h3 fl3 up3 => ?_
    have J3 : Inv X pins σ' H' { s' with heap := h3 } := J.landed nb fl3.1 (up.trans up3) os ag
    obtain ⟨oe3, vs3, he3, hz3, hd3⟩ := fl3.there
    have nfr : a ∉ frs (X.env :: X.outer) := fun hm => by
      obtain ⟨_, o', e', hnf⟩ := fl3.2.2.1.mem hm
      rw [he3] at e'; cases e'
      exact hnf _ hd3
    have nL : a ≠ X.env.locals := fun z => nfr (List.mem_filterMap.mpr ⟨X.env, List.mem_cons_self, by rw [hf, z]⟩)
    have nF : a ∉ X.fs := fun hm => let ⟨e, he, q⟩ := List.mem_filterMap.mp hm; nfr (List.mem_filterMap.mpr ⟨e, List.mem_cons_of_mem _ he, q⟩)
    have S3 := J3.suite he3 hd3 na nL nF
    suffices go : ∀ {hs' : List ExceptHandler} {l' : List Xcl}, ClsOk X hs' l' → wCls X.K Wout D l' cls d σ' H' → wpAny (model X.prog X.w) X.A (handleBy (.ref a) X.env hs') (SP X pins D) X.xe { s' with heap := h3 } from go hh w
    intro hs' l' hk
    induction hk with
    | nil =>
      intro w
      have w : Wout cls d σ' H' := w
      refine wpAny_handleBy_nil ?_
      obtain ⟨_, _, _, oe, vs, T, _, _, he, _, hd, h1, _⟩ := id fl3
      unfold PySem.passOn
      refine wpAny_bind (wpAny_field he hd h1 ?_)
      rw [if_neg (show ¬ ((Value.ref T == Value.none) = true) from by simp)]
      have up2 : wpAny (model X.prog X.w) X.A (setFlight (.ref a) X.env.frame) (fun _ s4 => wpAny (model X.prog X.w) X.A (throw (.ref a) : Sem Flow) (SP X pins D) X.xe s4) X.xe { s' with heap := h3 } := by
        rw [hf]
        exact HandSPX.setFlight_upZ fl3 fun h4 hh4 up4 => wpAny_throw (tk _ _ ⟨a, B, sI, pins, σ', H', cls, d, rfl, J, nb, (up.trans up3).trans up4, .inr (.inr (by rw [hs]; exact hh4)), na, os, ag, w⟩)
      first
        | exact wpAny_bind up2
        | exact wpAny_bind (wpAny_pure (wpAny_bind up2))
    | @cons x n i c ts b₀ suite np pos' hds2 l2 hc hi hln hsu r ih =>
      rintro ⟨b, hb1, hyes, hno⟩
      refine wpAny_handleBy_cons (codeAny_handlers_test ?_) (by intro q; cases q)
      have LM := PySem.W.exm_one (M := model X.prog X.w) J3.kIn (fun A Q E s k q => wpAny_typeOf_ref (k _ _ he3) (by rw [hz3.1]; exact q) : PySem.W.Looks (model X.prog X.w) h3 (typeOf (.ref a)) cls) hb1
      have test : ∀ {Q : Value → Shared → Prop} {E : Value → Shared → Prop}, Q c { s' with heap := h3 } → wpAny (model X.prog X.w) (X.A.mark (some (.ref a))) (eval (.Name x np) X.env) Q E { s' with heap := h3 } := fun {Q E} q => by
        obtain ⟨hg, hdbg, hm | ⟨hm, hv, hnn⟩⟩ := hc
        · exact ld_glob (X := X.suite a ((a, oe3) :: (X.pn ++ pins))) S3 hg hm q hdbg
        · exact ld_blt (X := X.suite a ((a, oe3) :: (X.pn ++ pins))) S3 hg hm hv q hnn hdbg
      refine test (LM.here ?_)
      cases b with
      | false =>
        show wpAny _ X.A (handleBy (.ref a) X.env hds2) _ _ _
        exact ih (hno rfl)
      | true =>
        refine codeAny_handlers_suite_as (HandSPX.lands_againZ fl3 fun h4 fl4 up4 => ?_)
        have J4 : Inv X pins σ' H' { s' with heap := h4 } := J.landed nb fl4.1 ((up.trans up3).trans up4) os ag
        obtain ⟨oe4, vs4, he4, hz4, hd4⟩ := fl4.there
        refine store_ok (X := X.suite a ((a, oe4) :: (X.pn ++ pins))) (v := .ref a) (J4.suite he4 hd4 na nL nF) hN hi (.inl hln) rfl (fun s5 S5 => ?_) (.inr hln)
        refine wpAny_mono ((hsu a oe4 cls d (X.pn ++ pins) hz4 ⟨_, hd4⟩).run [] s5 _ H' _ S5 (hyes rfl a na)) (fun f s6 hsp => ?_) (fun _ _ z => False.elim z)
        have gone : ∀ {σ6 : L2.St} {H6 : Hp} {Q : Shared → Prop}, Inv (X.suite a ((a, oe4) :: (X.pn ++ pins))) [] σ6 H6 s6 → (∀ s7, Inv X pins (σ6.set i none) H6 s7 → Q s7) →
            wpAny (model X.prog X.w) X.A (do bindName X.env n .none; unbindBehindTheSuite X.env n pos') (fun _ s7 => Q s7) X.xe s6 := fun {σ6 H6 Q} S6 hq => gone_ok (S6.unsuite ok) hN hi hln hq
        cases f with
        | next => obtain ⟨_, _, S6, q6⟩ := hsp; exact gone S6 fun s7 J7 => ⟨_, _, J7, q6⟩
        | brk => obtain ⟨_, _, S6, q6⟩ := hsp; exact gone S6 fun s7 J7 => ⟨_, _, J7, q6⟩
        | cont => obtain ⟨_, _, S6, q6⟩ := hsp; exact gone S6 fun s7 J7 => ⟨_, _, J7, q6⟩
        | ret u => obtain ⟨_, _, _, S6, r6, q6⟩ := hsp; exact gone S6 fun s7 J7 => ⟨_, _, _, J7, r6, q6⟩
  · cases f with
    | next => obtain ⟨_, _, J', q⟩ := hsp; exact wpAny_execs_nil ⟨_, _, J'.ofTry ok, q⟩
    | brk => obtain ⟨_, _, J', q⟩ := hsp; exact ⟨_, _, J'.ofTry ok, q⟩
    | cont => obtain ⟨_, _, J', q⟩ := hsp; exact ⟨_, _, J'.ofTry ok, q⟩
    | ret u => obtain ⟨_, _, _, J', r, q⟩ := hsp; exact ⟨_, _, _, J'.ofTry ok, r, q⟩⟩
end
/-! told of typed values -/
section
variable {X : Cx} {c : CL} {Γ : List Sl} {W : WX} {D : En} {rest : List Stmt} {pos : Pos}
inductive ClN (X : Cx) : List ExceptHandler → List (Value × Nat × List Stmt) → Prop
  | nil : ClN X [] []
  | cons {x n : Str} {i : Nat} {cv : Value} {b₀ : Stmt} {suite : List Stmt} {np pos' : Pos} {hds : List ExceptHandler} {l : List (Value × Nat × List Stmt)} (hc : Names X x cv) (r : ClN X hds l) (hi : X.N[i]? = some n := by rfl) (hln : X.env.kindOf n = some .local := by rfl) :
      ClN X (.ExceptHandler (some (.Name x np)) (some n) (b₀ :: suite) pos' :: hds) ((cv, i, b₀ :: suite) :: l)
/-- where an exception of the body goes -/
def exCl (X : Cx) (c : CL) (W : WX) (rest : List Stmt) (D : En) : List (Value × Nat × List Stmt) → Xn → List Sl → Prop
  | [] => D.ex
  | (cv, i, st) :: r => fun x Γ' => (PySem.W.exmOne X.K (.ref (c x.cls)) cv = some true ∧ ∀ (a : Addr) (oe : Obj) (pn : List (Addr × Obj)) (dd : Option Addr), L2N.Zn (.ref (c x.cls)) dd oe → (∃ vs, oe.data = .fields vs) →
        Ss (X.suite a ((a, oe) :: pn)) c E1 (Γ'.set i (d (Cau.mk (x := x) a dd))) st { nx := fun Γ2 => Ss X c W (Γ2.set i .any) rest D, rt := D.rt, bk := fun Γ2 => D.bk (Γ2.set i .any), ct := fun Γ2 => D.ct (Γ2.set i .any), rn := D.rn, ro := D.ro }) ∨
      (PySem.W.exmOne X.K (.ref (c x.cls)) cv = some false ∧ exCl X c W rest D r x Γ')
abbrev tCl (X : Cx) (st : List Stmt) : Addr → Value → Option Addr → TS := fun a cls dd D σ H => ∀ oe pn, L2N.Zn cls dd oe → (∃ vs, oe.data = .fields vs) → wSs (X.suite a ((a, oe) :: pn)) st D σ H
theorem ClN.ok {hds : List ExceptHandler} {l : List (Value × Nat × List Stmt)} (h : ClN X hds l) : ClsOk X hds (l.map fun q => (q.1, q.2.1, tCl X q.2.2)) := by
  induction h with
  | nil => exact .nil
  | cons hc r hi hln ih => exact .cons hc hi hln (fun a oe cls dd pn z f => ⟨fun pins s σ H D I h => pss_w.run pins s σ H D I (h oe pn z f)⟩) ih
theorem ss_trys {l : List (Value × Nat × List Stmt)} {h₀ : ExceptHandler} {hds : List ExceptHandler} {body : List Stmt} (hN : X.N.Nodup) (hh : ClN X (h₀ :: hds) l) (tk : L2N.Takes X W)
    (hb : ∀ (W' : WX) (pn : List (Addr × Obj)) (xe : Value → Shared → Prop), L2N.Takes (X.tr pn xe) W' → PassesOwn (model X.prog X.w) X.A X.env xe →
      Ss (X.tr pn xe) c W' Γ body { nx := fun Γ' => Ss X c W Γ' rest D, rt := D.rt, bk := D.bk, ct := D.ct, rn := D.rn, ro := D.ro, ex := exCl X c W rest D l })
    (hs : X.stack = X.env :: X.outer := by rfl) (hf : X.env.frame = some X.env.locals := by rfl) : Ss X c W Γ (.Try body (h₀ :: hds) [] [] pos :: rest) D := fun H0f H0 σ Hf H g DD k => by
  refine ⟨_, pss_cons (ps_try_cls (Wout := W) (tb := fun W' D σ H => ∀ pn xe, L2N.Takes (X.tr pn xe) W' → PassesOwn (model X.prog X.w) X.A X.env xe → wSs (X.tr pn xe) body D σ H) hs hf hN tk (fun W' pn xe t p => ⟨fun pins s σ H D I h => pss_w.run pins s σ H D I (h pn xe t p)⟩) hh.ok) pss_w, ?_⟩
  intro pn xe t p
  refine hb _ pn xe t p _ _ σ Hf H g _ ⟨fun Γ' σ' Hf' H' q s g' => q _ _ σ' Hf' H' g' DD (k.mono s), k.bk, k.ct, k.rt, fun x cls dd σ' Γ' Hf' H' q s g' r => ?_, k.rn, k.ro⟩
  have e1 := r.1
  subst e1
  clear hb hh t
  induction l with
  | nil => exact k.ex x _ dd σ' Γ' Hf' H' q s g' r
  | cons y l ih =>
    obtain ⟨cv, i, st⟩ := y
    rcases q with ⟨q1, q2⟩ | ⟨q1, q2⟩
    · refine ⟨true, q1, fun _ a ha oe pn' z f => ?_, fun z => nomatch z⟩
      have ga := g'.set i (a := Cau.mk (x := x) a dd) (v := .ref a) ⟨rfl, r⟩
      have wipe : ∀ {σ2 : L2.St} {Γ2 : List Sl} {Hf2 H2 : Hp}, EnvOk X.K c H0f H0 Hf2 H2 σ2 Γ2 → EnvOk X.K c H0f H0 Hf2 H2 (σ2.set i none) (Γ2.set i .any) := fun g2 => g2.setAny i none .any fun _ _ => trivial
      exact q2 a oe pn' dd z f _ _ _ Hf' H' ga _ ⟨fun Γ2 σ2 Hf2 H2 q s2 g2 => q _ _ _ Hf2 H2 (wipe g2) DD (k.mono (s.trans s2)), fun Γ2 σ2 Hf2 H2 q s2 g2 => k.bk _ _ Hf2 H2 q (s.trans s2) (wipe g2), fun Γ2 σ2 Hf2 H2 q s2 g2 => k.ct _ _ Hf2 H2 q (s.trans s2) (wipe g2),
        fun p Γ2 v σ2 Hf2 H2 q s2 g2 r2 => k.rt p Γ2 v σ2 Hf2 H2 q (s.trans s2) g2 r2, fun _ _ _ _ _ _ _ q => q.elim, fun p n Γ2 σ2 Hf2 H2 q s2 g2 => k.rn p n Γ2 σ2 Hf2 H2 q (s.trans s2) g2, fun b Γ2 v R σ2 Hf2 H2 q s2 g2 => k.ro b Γ2 v R σ2 Hf2 H2 q (s.trans s2) g2⟩
    · exact ⟨false, q1, fun z => (nomatch z), fun _ => ih q2⟩
end
end Pv
set_option maxHeartbeats 0
/-! t + u of tuples; rows that are lists or tuples -/
namespace Pv
open Rp (rp)
open Ow (ow)
open Da (toD)
open PySem L2
section
variable {X : Cx} {c : CL} {Γ : List Sl} {α : Type} [Rp α] {a b e iter tg : Expr} {es : List Expr} {pos p0 : Pos}
theorem e_catT {xs ys : Tup α} (ha : E X c Γ a xs) (hb : E X c Γ b ys) (hl : xs.l.length + ys.l.length ≤ 1000000) : E X c Γ (.BinOp a .Add b pos) (Tup.mk (xs.l ++ ys.l)) :=
  e_op op_catA ha hb fun Hf H u v s hu hv Q q => by
    obtain ⟨p, vs, rfl, h2, h3⟩ := hu
    obtain ⟨p2, vs2, rfl, h4, h5⟩ := hv
    refine ⟨p, p2, vs, vs2, rfl, rfl, sqT_of (s _ _ h2), sqT_of (s _ _ h4), by rw [h3.len, h5.len]; exact Nat.le_trans hl (by decide), fun z => ?_, fun _ z => ?_, fun _ _ l hl => q _ _ _ (Stp.new s hl) ⟨l, _, rfl, upd_same, rpl_upd (s.free hl) (paired_append h3 h5)⟩⟩
    · subst z
      have e : xs.l = [] := List.length_eq_zero_iff.mp (h3.len.symm)
      exact q _ _ _ (Stp.refl s) ⟨p2, vs2, rfl, h4, by show RpL X.K c Hf vs2 (xs.l ++ ys.l); rw [e]; exact h5⟩
    · subst z
      have e : ys.l = [] := List.length_eq_zero_iff.mp (h5.len.symm)
      exact q _ _ _ (Stp.refl s) ⟨p, vs, rfl, h2, by show RpL X.K c Hf vs (xs.l ++ ys.l); rw [e, List.append_nil]; exact h3⟩
/-- seen otherwise -/
theorem E.to {α β : Type} [Rp α] [Rp β] {x : α} {y : β} (h : E X c Γ e x) (w : ∀ (K : PySem.W.Frag) (H : Hp) (v : V), rp K c H v x → rp K c H v y) : E X c Γ e y := fun _ _ σ Hf H g Q q => h _ _ σ Hf H g Q fun v Hf' H' s r => q v Hf' H' s (w _ _ _ r)
/-- a row: a list, or a tuple -/
inductive Rw
  | l (xs : List Int)
  | t (xs : List Int)
def Rw.xs : Rw → List Int
  | .l xs => xs
  | .t xs => xs
instance : Rp Rw := ⟨fun K c H v r => match r with | .l xs => rp K c H v xs | .t xs => rp K c H v (Tup.mk xs), fun {_ _ _ _ _ r} s h => match r, h with | .l _, h => Rp.mono s h | .t _, h => Rp.mono s h⟩
theorem e_rwL {xs : List Int} (h : E X c Γ e xs) : E X c Γ e (Rw.l xs) := h.to fun _ _ _ r => r
theorem e_rwT {xs : List Int} (h : E X c Γ e (Tup.mk xs)) : E X c Γ e (Rw.t xs) := h.to fun _ _ _ r => r
theorem rpl_map {β : Type} [Rp β] {K : PySem.W.Frag} {H : Hp} {f : α → β} (w : ∀ v x, rp K c H v x → rp K c H v (f x)) : ∀ {vs : List V} {as : List α}, RpL K c H vs as → RpL K c H vs (as.map f)
  | _, _, .nil => .nil
  | _, _, .cons h t => .cons (w _ _ h) (rpl_map w t)
theorem e_rwsL {rows : List (List Int)} (h : E X c Γ e rows) : E X c Γ e (rows.map Rw.l) := h.to fun _ _ _ ⟨p, vs, h1, h2, h3⟩ => ⟨p, vs, h1, h2, rpl_map (f := Rw.l) (fun _ _ r => r) h3⟩
theorem e_rwsT {rows : List (List Int)} (h : E X c Γ e (rows.map Tup.mk)) : E X c Γ e (rows.map Rw.t) := h.to fun _ _ _ ⟨p, vs, h1, h2, h3⟩ => ⟨p, vs, h1, h2, by
  have := rpl_map (f := fun t : Tup Int => Rw.t t.l) (fun _ _ r => r) h3
  rw [List.map_map] at this
  exact this⟩
theorem i_rw {r : Rw} (h : E X c Γ iter r) : I X c Γ tg iter r.xs := by
  cases r with
  | l xs => exact i_list (xs := xs) (h.to fun _ _ _ r => r)
  | t xs => exact i_tup (t := ⟨xs⟩) (h.to fun _ _ _ r => r)
theorem t_inRw {x : Int} {r : Rw} (ha : E X c Γ a x) (hb : E X c Γ b r) (hm : behindInMarks .In b = false := by rfl) : T X c Γ (.Compare a [.In] [b] pos) (decide (x ∈ r.xs)) := by
  cases r with
  | l xs => exact t_inI (ys := xs) ha (hb.to fun _ _ _ r => r) hm
  | t xs => exact t_inT (ys := ⟨xs⟩) ha (hb.to fun _ _ _ r => r) hm
theorem e_inRw {x : Int} {r : Rw} (ha : E X c Γ a x) (hb : E X c Γ b r) (hm : behindInMarks .In b = false := by rfl) : E X c Γ (.Compare a [.In] [b] pos) (decide (x ∈ r.xs)) := by
  cases r with
  | l xs => exact e_inI (ys := xs) ha (hb.to fun _ _ _ r => r) hm
  | t xs => exact e_inT (ys := ⟨xs⟩) ha (hb.to fun _ _ _ r => r) hm
theorem e_tupRw {r : Rw} (ha : E X c Γ a r) (hm : X.mg "tuple" = none) (hg : Gl X "tuple" := by rfl) (he : starEach [a] X.env = (false, eval a X.env) :: starEach [] X.env := by rfl) : E X c Γ (.Call (.Name "tuple" p0) [a] [] pos) (Tup.mk r.xs) := by
  cases r with
  | l xs => exact e_tupc (as := xs) (ha.to fun _ _ _ r => r) hm hg he
  | t xs => exact e_tupcT (t := ⟨xs⟩) (ha.to fun _ _ _ r => r) hm hg he
theorem e_listRw {r : Rw} (ha : E X c Γ a r) (hm : X.mg "list" = none) (hg : Gl X "list" := by rfl) (he : starEach [a] X.env = (false, eval a X.env) :: starEach [] X.env := by rfl) : E X c Γ (.Call (.Name "list" p0) [a] [] pos) r.xs := by
  cases r with
  | l xs => exact e_listc (as := xs) (ha.to fun _ _ _ r => r) hm hg he
  | t xs => exact e_listcT (t := ⟨xs⟩) (ha.to fun _ _ _ r => r) hm hg he
/-- list(t), owned -/
theorem eo_listcT {t : Tup α} (ha : E X c Γ a t) (hm : X.mg "list" = none) (hg : Gl X "list" := by rfl) (he : starEach [a] X.env = (false, eval a X.env) :: starEach [] X.env := by rfl) : EO X c Γ (.Call (.Name "list" p0) [a] [] pos) (OwL.mk t.l) := fun _ _ σ Hf H g Q k =>
  ⟨_, pe_callTy call_list_of hg hm (by decide +kernel) pa_w (by decide) (by decide) he, (a_cons ha a_nil he) _ _ σ Hf H g _ fun vs Hf1 H1 s1 r => by
    obtain ⟨v, rfl, q, ys, rfl, h2, h3⟩ := pkl1 r
    exact ⟨q, ys, rfl, .inr (sqT_of (s1.s _ _ h2)), fun l hl => k _ [l] Hf1 _ (s1.trans ⟨Same.refl _, same_new hl, s1.s.trans (same_new hl), fun _ _ z _ _ => z⟩) (fun a ha => by rw [List.mem_singleton.mp ha]; exact ⟨s1.h.free hl, s1.s.free hl⟩) ⟨l, ys, rfl, rfl, upd_same, h3⟩⟩⟩
theorem EO.to {α β : Type} [Rp α] [Rp β] {f : α → β} {xs : List α} (h : EO X c Γ e (OwL.mk xs)) (w : ∀ (K : PySem.W.Frag) (H : Hp) (v : V) x, rp K c H v x → rp K c H v (f x)) : EO X c Γ e (OwL.mk (xs.map f)) := fun _ _ σ Hf H g Q k => h _ _ σ Hf H g Q fun v R Hf1 H1 s1 hR ⟨p, vs, h1, h2, h3, h4⟩ => k v R Hf1 H1 s1 hR ⟨p, vs, h1, h2, h3, rpl_map (w _ _) h4⟩
/-- t[1], t a tuple of a text and numbers -/
theorem e_ixTg {s : Str} {t : Tg s} {i x : Int} {n : Nat} (ha : E X c Γ a t) (hb : E X c Γ b i) (hi : i = (n : Int) + 1) (hx : t.l[n]? = some x) (hp : PlainIx b := by exact fun _ _ => rfl) : E X c Γ (.Subscript a b pos) x := fun _ _ σ Hf H g Q k =>
  ⟨_, pe_ix ix_tup pe_w pe_w hp, tOp_ok (z := x) ha hb (fun Hf1 H1 u v s1 hu hv Q1 k1 => by
    obtain ⟨p, rfl, h2⟩ := hu
    have e : atI (V.str s :: t.l.map V.int) i = some (V.int x) := by
      subst hi
      have : ((n : Int) + 1) = ((n + 1 : Nat) : Int) := by omega
      rw [this]
      refine atI_nat ?_
      rw [List.getElem?_cons_succ, List.getElem?_map, hx]; rfl
    exact ⟨p, _, i, _, rfl, hv, sqT_of (s1 _ _ h2), e, k1 _ _ _ (Stp.refl s1) rfl⟩) g k⟩
end
section
variable {X : Cx} {c : CL} {Γ : List Sl} {W : WX} {D : En} {rest : List Stmt} {pos p0 : Pos} {x : Xn} {e a : Expr}
theorem xp_listc (h : Xp X c W Γ a x) (hm : X.mg "list" = none) (hg : Gl X "list" := by rfl) (he : starEach [a] X.env = (false, eval a X.env) :: starEach [] X.env := by rfl) : Xp X c W Γ (.Call (.Name "list" p0) [a] [] pos) x := fun _ _ σ Hf H g q Q =>
  ⟨_, pe_callTy call_list_of hg hm (by decide +kernel) (pa_cons pe_w pa_nil he) (by decide) (by decide) he, h _ _ σ Hf H g q _⟩
theorem xp_tupc (h : Xp X c W Γ a x) (hm : X.mg "tuple" = none) (hg : Gl X "tuple" := by rfl) (he : starEach [a] X.env = (false, eval a X.env) :: starEach [] X.env := by rfl) : Xp X c W Γ (.Call (.Name "tuple" p0) [a] [] pos) x := fun _ _ σ Hf H g q Q =>
  ⟨_, pe_callTy call_tuple_of hg hm (by decide +kernel) (pa_cons pe_w pa_nil he) (by decide) (by decide) he, h _ _ σ Hf H g q _⟩
/-- x.f = e, e raises -/
theorem ss_fldX (i : Nat) {y f : Str} {p1 p2 : Pos} (h : Xp X c W Γ e x) (hx : D.ex x Γ) (hN : X.N[i]? = some y := by rfl)
    (hv : Vis X.env.scope y := by first | exact Or.inl rfl | exact Or.inr (Or.inl rfl) | exact Or.inr (Or.inr rfl)) (hd : (y == ("__debug__" : Str)) = false := by decide) (hcd : (y == ("__classdict__" : Str)) = false := by decide)
    (hs : swapsWith e (some (.Attribute (.Name y p1) f p2)) pos.line X.env = pure false := by rfl) : Ss X c W Γ (.Assign [.Attribute (.Name y p1) f p2] e pos :: rest) D := fun _ _ σ Hf H g DD k =>
  ⟨_, pss_cons (ps_fld (pe_var hN hv hd hcd) pe_w hs) pss_never, h _ _ σ Hf H g (fun cls dd Hf' H' s r => k.ex x cls dd σ Γ Hf' H' hx s.f (g.step s) r) _⟩
/-- for, where a turn is reached only if Q -/
theorem ss_forQ {tg iter : Expr} {body : List Stmt} {α : Type} [Rp α] {xs : List α} {ts : List Nat} {gf : α → List Sl → List Sl} (F : Nat → List Sl) (Q : Nat → Prop) (hp : PassesOwn (model X.prog X.w) X.A X.env X.xe) (hc : X.calm = true) (hi : I X c Γ tg iter xs) (hg : ∀ x, G X c tg x ts (gf x)) (h0 : Le Γ (F 0)) (q0 : Q 0)
    (hs : ∀ i x, xs[i]? = some x → Q i → Ss X c W (gf x (F i)) body { nx := fun Γ' => Le Γ' (F (i + 1)) ∧ Q (i + 1), rt := D.rt, ct := fun Γ' => Le Γ' (F (i + 1)) ∧ Q (i + 1), ex := D.ex, rn := D.rn, ro := D.ro })
    (hd : Q xs.length → Ss X c W (F xs.length) rest D) (hm : ∀ x A B, Le A B → Le (gf x A) (gf x B) := by intro x A B h; first | exact h.set _ _ | exact (h.set _ _).set _ _ | exact ((h.set _ _).set _ _).set _ _) (hf : ∀ x, foldedSetIterable iter X.env x = pure x := by intro _; rfl) : Ss X c W Γ (.For tg iter body [] pos :: rest) D :=
  ss_for gf (fun i Γ' => Le Γ' (F i) ∧ Q i) (fun _ => False) hp hc hi ⟨h0, q0⟩ (fun i x Γ' hx hl => ⟨hg x, ss_le (hm x _ _ hl.1) (hs i x hx hl.2)⟩) (fun Γ' hl => ss_le hl.1 (hd hl.2)) (fun _ h => h.elim) hf
end
/-- o.m(..) that gives a new object -/
theorem en_meth {X : Cx} {c : CL} {Γ : List Sl} {γ : Type} [Ob γ] {ob z : γ} {o e : Expr} {es : List Expr} {pos apos : Pos} {m : Str} {k : Nat} {R : List Pk → γ → Prop} {as : List Pk} {pl : Sem Bool} (T : Kl X.K c γ) (M : MtN X.prog X.w X.K X.mg X.base c γ m k R) (hr : Room k X.A) (h : E X c Γ o ob) (ha : As X c Γ (e :: es) as) (hR : R (⟨ob⟩ :: as) z) (hn : (Ob.fl ob).lookup m = none)
    (hst : starEach (e :: es) X.env = (false, eval e X.env) :: starEach es X.env := by rfl) (hpl : (backTo pos (starEach es X.env)).any (·.1) = false := by rfl)
    (ht : eval (.Call (.Attribute o m apos) (e :: es) [] pos) X.env = (do
      let ov ← eval o X.env
      standAt apos.atName
      let (f, first) ← holding [ov] (getMethod ov m pl)
      callWith pos f first (backTo pos (starEach (e :: es) X.env)) (backToKw pos (keywordEach [] X.env))) := by rfl) : EN X c Γ (.Call (.Attribute o m apos) (e :: es) [] pos) z := fun _ _ σ Hf H g Q q => by
  obtain ⟨f, fd, ps, F, mt, hb⟩ := M
  refine ⟨_, pe_meth pe_w T.cl mt F hr hb .nil pass0 pa_w hst hpl ht, h _ _ σ Hf H g _ fun v Hf1 H1 s1 r1 => ?_⟩
  obtain ⟨p, dx, fvs, rfl, h1, h2⟩ := Ob.iff.mp r1
  refine ⟨p, dx, fvs, rfl, s1.s _ _ h1, h2.no hn, ha _ _ σ Hf1 H1 (g.step s1) _ fun vs Hf2 H2 s2 r2 => ?_⟩
  rw [List.append_nil]
  have s12 := s1.trans s2
  exact ⟨Hf2, ⟨ob⟩ :: as, z, s2.s, .cons (Rp.mono s2.f r1) r2, hR, fun p' Hf3 H3 s3 n1 n2 => q p' Hf3 H3 (s12.trans s3) (s12.h.free n1) n2⟩
/-! an argument that raises -/
section
variable {X : Cx} {c : CL} {Γ : List Sl} {W : WX} {pos apos p0 : Pos} {x : Xn} {a b e o : Expr} {es : List Expr}
def Xa (X : Cx) (c : CL) (W : WX) (Γ : List Sl) (es : List Expr) (x : Xn) : Prop :=
  ∀ (H0f H0 : Hp) (σ : L2.St) (Hf H : Hp), EnvOk X.K c H0f H0 Hf H σ Γ → (∀ cls dd Hf' H', Stp Hf H Hf' H' → XnOk X.K c Hf' x cls dd → W cls dd σ H') → ∀ Q : List V → Hp → Prop, wA X es σ H Q
theorem xa_here (h : Xp X c W Γ e x) (he : starEach (e :: es) X.env = (false, eval e X.env) :: starEach es X.env := by rfl) : Xa X c W Γ (e :: es) x := fun _ _ σ Hf H g q Q => ⟨_, pa_cons pe_w pa_w he, h _ _ σ Hf H g q _⟩
theorem xa_next {α : Type} [Rp α] {v : α} (h : E X c Γ e v) (t : Xa X c W Γ es x) (he : starEach (e :: es) X.env = (false, eval e X.env) :: starEach es X.env := by rfl) : Xa X c W Γ (e :: es) x := fun _ _ σ Hf H g q Q =>
  ⟨_, pa_cons pe_w pa_w he, h _ _ σ Hf H g _ fun v Hf1 H1 s1 r1 => t _ _ σ Hf1 H1 (g.step s1) (fun cls dd Hf' H' s r => q cls dd Hf' H' (s1.trans s) r) _⟩
theorem xp_catL (h : Xp X c W Γ a x) : Xp X c W Γ (.BinOp a .Add b pos) x := fun _ _ σ Hf H g q Q => ⟨_, pe_op op_catA pe_w pe_w, h _ _ σ Hf H g q _⟩
theorem xp_methA {γ : Type} [Ob γ] {ob : γ} {m : Str} {k : Nat} {R : List Pk → γ → Prop} {pl : Sem Bool} (T : Kl X.K c γ) (M : MtN X.prog X.w X.K X.mg X.base c γ m k R) (hr : Room k X.A) (h : E X c Γ o ob) (ha : Xa X c W Γ (e :: es) x) (hn : (Ob.fl ob).lookup m = none)
    (hst : starEach (e :: es) X.env = (false, eval e X.env) :: starEach es X.env := by rfl) (hpl : (backTo pos (starEach es X.env)).any (·.1) = false := by rfl)
    (ht : eval (.Call (.Attribute o m apos) (e :: es) [] pos) X.env = (do
      let ov ← eval o X.env
      standAt apos.atName
      let (f, first) ← holding [ov] (getMethod ov m pl)
      callWith pos f first (backTo pos (starEach (e :: es) X.env)) (backToKw pos (keywordEach [] X.env))) := by rfl) : Xp X c W Γ (.Call (.Attribute o m apos) (e :: es) [] pos) x := fun _ _ σ Hf H g q Q => by
  obtain ⟨f, fd, ps, F, mt, hb⟩ := M
  refine ⟨_, pe_meth pe_w T.cl mt F hr hb .nil pass0 pa_w hst hpl ht, h _ _ σ Hf H g _ fun v Hf1 H1 s1 r1 => ?_⟩
  obtain ⟨p, dx, fvs, rfl, h1, h2⟩ := Ob.iff.mp r1
  exact ⟨p, dx, fvs, rfl, s1.s _ _ h1, h2.no hn, ha _ _ σ Hf1 H1 (g.step s1) (fun cls dd Hf' H' s r => q cls dd Hf' H' (s1.trans s) r) _⟩
end
/-- x = [.. for ..] on one line, owned -/
theorem ss_setLcO {X : Cx} {c : CL} {Γ : List Sl} {W : WX} {D : En} {rest : List Stmt} {pos : Pos} (i : Nat) {y : Str} {py : Pos} {elt tg iter : Expr} {ifs : List Expr} {scope : Scope} {own : List (Str × Nat)} {cpos : Pos} {α β : Type} [Rp α] [Rp β] {xs : List α} {vs ts : List Nat} {p : α → Bool} {f : α → β} {gf : α → List Sl → List Sl}
    (hc : X.calm = true) (hN : X.N.Nodup) (ok : blkC X.N X.env.scope scope own = true) (hv : vs = own.map (·.2)) (hi : I X c Γ tg iter xs) (hts : ∀ j ∈ ts, j ∈ vs) (hl : xs.length < 1000000) (hg : ∀ x, x ∈ xs → Blk X scope fun Y => G Y c tg x ts (gf x))
    (ht : ∀ x, x ∈ xs → Blk X scope fun Y => Ts Y c (gf x (wipeG Γ vs)) ifs (p x)) (he : ∀ x, x ∈ xs → p x = true → Blk X scope fun Y => E Y c (gf x (wipeG Γ vs)) elt (f x))
    (hr : Ss X c W (Γ.set i (o ((xs.filter p).map f))) rest D) (hs : ∀ x, foldedSetIterable iter X.env x = pure x := by intro _; rfl) (hy : X.N[i]? = some y := by rfl) (hyl : X.env.scope.names.lookup y = some .local := by rfl)
    (hsw : swapsWith (.ListComp elt [⟨tg, iter, ifs, 0⟩] scope cpos) (some (.Name y py)) pos.line X.env = pure true := by exact sw_true rfl rfl rfl (by decide +kernel)) :
    Ss X c W Γ (.Assign [.Name y py] (.ListComp elt [⟨tg, iter, ifs, 0⟩] scope cpos) pos :: rest) D := fun _ _ σ Hf H g DD k => by
  subst hv
  exact ⟨_, pss_cons (ps_setLc hc hN hy hyl hsw pi_w (blkOk_by ok) pg_b pts_b pe_b hs) pss_w, tLcO_ok hi hts hl hg ht he g fun v R Hf1 H1 s1 hR ho => hr _ _ _ Hf1 H1 (g.adopt2 i s1 hR ho) DD (k.mono s1.f)⟩
theorem I.is {X : Cx} {c : CL} {Γ : List Sl} {tg e : Expr} {α : Type} [Rp α] {xs ys : List α} (h : I X c Γ tg e xs) (q : xs = ys) : I X c Γ tg e ys := q ▸ h
end Pv
set_option maxHeartbeats 0
/-! any, slices of lists, t[::-1], enumerate(x, start=1), steps, pop(0) -/
namespace Pv
open Rp (rp)
open Ow (ow)
open Da (toD)
open PySem L2
section
variable {X : Cx} {c : CL} {Γ : List Sl} {α : Type} [Rp α] {a b e iter tg : Expr} {es : List Expr} {pos p0 : Pos}
theorem e_any {bs : List Bool} (hc : X.calm = true) (ha : E X c Γ a bs) (hm : X.mg "any" = none) (hg : Gl X "any" := by rfl) (he : starEach [a] X.env = (false, eval a X.env) :: starEach [] X.env := by rfl) : E X c Γ (.Call (.Name "any" p0) [a] [] pos) (bs.any id) :=
  e_callB (cr_any hc) (a_cons ha a_nil he) (fun Hf H vs s r Q k => by
    obtain ⟨v, rfl, q, ys, rfl, h2, h3⟩ := pkl1 r
    exact ⟨q, bs, rfl, by rw [← rpl_bls h3]; exact s.seq h2, k _ _ _ (Stp.refl s) rfl⟩) hg hm (by decide +kernel) (by decide) (by decide) he
theorem e_intB {i : Bool} (ha : E X c Γ a i) (hm : X.mg "int" = none) (hg : Gl X "int" := by rfl) (he : starEach [a] X.env = (false, eval a X.env) :: starEach [] X.env := by rfl) : E X c Γ (.Call (.Name "int" p0) [a] [] pos) (if i then (1 : Int) else 0) :=
  e_callTy call_int1 (a_cons ha a_nil he) (fun Hf H vs s r Q k => by
    obtain ⟨v, rfl, h⟩ := pkl1 r
    exact .inr ⟨i, by rw [show v = V.bl i from h], k _ _ _ (Stp.refl s) rfl⟩) hg hm (by decide +kernel) (by decide) (by decide) he
/-- xs[lo:hi] -/
theorem e_slL {t : List α} {l u : Option Expr} {lo hi : Option Int} {p2 : Pos} (h : E X c Γ e t) (hl : Po X c Γ l lo) (hu : Po X c Γ u hi) : E X c Γ (.Subscript e (.Slice l u none p2) pos) (cutL t lo hi) := fun _ _ σ Hf H g Q k => by
  have key : ∀ {Hf1 H1 : Hp} {v : V} (_ : Stp Hf H Hf1 H1) (_ : rp X.K c Hf1 v t), rSlL X.K v lo hi H1 Q := fun {Hf1 H1 v} s1 r1 => by
    obtain ⟨p, vs, rfl, h2, h3⟩ := r1
    exact ⟨p, vs, rfl, s1.s.seq h2, fun q hq => k _ _ _ (s1.trans (Stp.new s1.s hq)) ⟨q, _, rfl, .inl (.inl upd_same), rpl_upd (s1.s.free hq) (rpl_cut h3)⟩⟩
  cases l with
  | none =>
    cases lo with
    | some _ => exact hl.elim
    | none =>
      cases u with
      | none =>
        cases hi with
        | some _ => exact hu.elim
        | none => exact ⟨_, pe_slice sl_list pe_w po_none po_none, h _ _ σ Hf H g _ fun v Hf1 H1 s1 r1 => key s1 r1⟩
      | some eu =>
        cases hi with
        | none => exact hu.elim
        | some hi' =>
          have hu : E X c Γ eu hi' := hu
          exact ⟨_, pe_slice sl_list pe_w po_none (po_some pe_w), h _ _ σ Hf H g _ fun v Hf1 H1 s1 r1 => hu _ _ σ Hf1 H1 (g.step s1) _ fun w Hf2 H2 s2 r2 => ⟨hi', by rw [show w = V.int hi' from r2], key (s1.trans s2) (Rp.mono s2.f r1)⟩⟩
  | some el =>
    cases lo with
    | none => exact hl.elim
    | some lo' =>
      have hl : E X c Γ el lo' := hl
      cases u with
      | none =>
        cases hi with
        | some _ => exact hu.elim
        | none => exact ⟨_, pe_slice sl_list pe_w (po_some pe_w) po_none, h _ _ σ Hf H g _ fun v Hf1 H1 s1 r1 => hl _ _ σ Hf1 H1 (g.step s1) _ fun w Hf2 H2 s2 r2 => ⟨lo', by rw [show w = V.int lo' from r2], key (s1.trans s2) (Rp.mono s2.f r1)⟩⟩
      | some eu =>
        cases hi with
        | none => exact hu.elim
        | some hi' =>
          have hu : E X c Γ eu hi' := hu
          exact ⟨_, pe_slice sl_list pe_w (po_some pe_w) (po_some pe_w), h _ _ σ Hf H g _ fun v Hf1 H1 s1 r1 => hl _ _ σ Hf1 H1 (g.step s1) _ fun w Hf2 H2 s2 r2 => ⟨lo', by rw [show w = V.int lo' from r2], hu _ _ σ Hf2 H2 ((g.step s1).step s2) _ fun w3 Hf3 H3 s3 r3 => ⟨hi', by rw [show w3 = V.int hi' from r3], key ((s1.trans s2).trans s3) (Rp.mono s3.f (Rp.mono s2.f r1))⟩⟩⟩
/-! ### a step of a run -/
inductive Tag
  | write
  | take
  | settle
  deriving DecidableEq
def Tag.s : Tag → Str
  | .write => "write"
  | .take => "take"
  | .settle => "settle"
structure Sx where
  t : Tag
  l : List Int
  deriving DecidableEq
instance : Rp Sx := ⟨fun K c H v x => ∃ p, v = .ref p ∧ H p = some (.tup (.str x.t.s :: x.l.map V.int)), fun s ⟨p, h1, h2⟩ => ⟨p, h1, s _ _ h2⟩⟩
theorem tag_ok : ∀ t : Tag, PyData.strOk t.s = true
  | .write => by decide +kernel
  | .take => by decide +kernel
  | .settle => by decide +kernel
instance : Da Sx where
  toD x := .tuple (.str x.t.s :: x.l.map fun i => .int i)
  dp := fun ⟨p, h1, h2⟩ => by
    rw [h1]
    refine .tup (sqT_of h2) (.cons (.str _) ?_)
    exact dpAll (K := _) (c := fun _ => 0) (α := Int) rpl_int'
  lay x := by
    have := layAll (α := Int) x.l
    simp only [PyData.canLay0, PyData.canLayAll0]
    have e2 : (List.map (Da.toD (α := Int)) x.l) = x.l.map fun i => PyData.int i := rfl
    rw [e2] at this
    rw [this, tag_ok]
    rfl
  deep := 1
  dep x := by
    have := depAll (α := Int) x.l
    simp only [PyData.depth, PyData.depthAll]
    show _ ≤ 1
    have e : Da.deep Int = 0 := rfl
    rw [e] at this
    have e2 : (List.map (Da.toD (α := Int)) x.l) = x.l.map fun i => PyData.int i := rfl
    rw [e2] at this
    omega
  eqv a b := by
    obtain ⟨t, a⟩ := a
    obtain ⟨u, b⟩ := b
    have := eqvAll (α := Int) a b
    simp only [PyData.eqv, PyData.eqvAll, Sx.mk.injEq]
    have e2 : ∀ x : List Int, (List.map (Da.toD (α := Int)) x) = x.map fun i => PyData.int i := fun _ => rfl
    rw [e2, e2] at this
    have w : ∀ t u : Tag, (t.s == u.s) = decide (t = u) := by
      intro t u
      cases t <;> cases u <;> decide +kernel
    rw [w, Bool.and_eq_true, this, decide_eq_true_iff]
theorem e_step {t : Tag} {k j : Nat} {q : Pos} {s : Str} {as : List Int} (h : AL X c Γ es as) (hs : s = t.s := by rfl) (hl : as.length ≤ 900 := by decide) (hst : starEach (.Constant (.str s) j q :: es) X.env = (false, eval (.Constant (.str s) j q) X.env) :: starEach es X.env := by rfl) : E X c Γ (.Tuple (.Constant (.str s) j q :: es) k pos) (Sx.mk t as) := by
  subst hs
  exact (e_tag h hl hst).to fun _ _ _ r => r
/-- step[n], n > 0 -/
theorem e_ixSx {t : Sx} {i x : Int} {n : Nat} (ha : E X c Γ a t) (hb : E X c Γ b i) (hi : i = (n : Int) + 1) (hx : t.l[n]? = some x) (hp : PlainIx b := by exact fun _ _ => rfl) : E X c Γ (.Subscript a b pos) x :=
  e_ixTg (s := t.t.s) (t := ⟨t.l⟩) (ha.to fun _ _ _ r => r) hb hi hx hp
/-- step[0] -/
theorem e_ixSx0 {t : Sx} (ha : E X c Γ a t) (hb : E X c Γ b (0 : Int)) (hp : PlainIx b := by exact fun _ _ => rfl) : E X c Γ (.Subscript a b pos) t.t.s := fun _ _ σ Hf H g Q k =>
  ⟨_, pe_ix ix_tup pe_w pe_w hp, tOp_ok (z := t.t.s) ha hb (fun Hf1 H1 u v s1 hu hv Q1 k1 => by
    obtain ⟨p, rfl, h2⟩ := hu
    exact ⟨p, _, 0, _, rfl, hv, sqT_of (s1 _ _ h2), atI_nat (j := 0) rfl, k1 _ _ _ (Stp.refl s1) rfl⟩) g k⟩
/-- step[1:] -/
theorem e_slSx {t : Sx} {p2 : Pos} {e1 : Expr} (h : E X c Γ e t) (h1 : E X c Γ e1 (1 : Int)) : E X c Γ (.Subscript e (.Slice (some e1) none none p2) pos) (Tup.mk t.l) := fun _ _ σ Hf H g Q k =>
  ⟨_, pe_slice sl_tup pe_w (po_some pe_w) po_none, h _ _ σ Hf H g _ fun v Hf1 H1 s1 r1 => h1 _ _ σ Hf1 H1 (g.step s1) _ fun w Hf2 H2 s2 r2 => ⟨1, by rw [show w = V.int 1 from r2], by
    obtain ⟨p, rfl, h2⟩ := r1
    have a1 : HT.sIx (V.str t.t.s :: t.l.map V.int).length 0 (some 1) = 1 := by
      rw [show (1 : Int) = ((1 : Nat) : Int) from rfl, HT.sIx_nat, List.length_cons]
      omega
    have e : cutV (V.str t.t.s :: t.l.map V.int) (some 1) none = t.l.map V.int := by
      unfold cutV
      rw [a1, HT.sIx_none, List.drop_succ_cons, List.drop_zero, List.length_cons]
      exact List.take_of_length_le (by omega)
    refine ⟨p, _, rfl, sqT_of ((s1.trans s2).s _ _ (s2.f _ _ h2)), ?_, fun q hq => ?_⟩
    · rw [a1]; rintro ⟨z, _⟩; cases z
    · rw [e]
      exact k _ _ _ ((s1.trans s2).trans (Stp.new s2.s hq)) ⟨q, _, rfl, upd_same, rpl_int'⟩⟩⟩
end
end Pv
set_option maxHeartbeats 0
/-! for i, x in enumerate(xs, start=k) -/
namespace Pv
open Rp (rp)
open Ow (ow)
open Da (toD)
open PySem L2
section
open PySem.Spec PyProof.Rows
theorem callWith_tyKw {M : Model} {A : Around} {E : Value → Shared → Prop} {s : Shared} {env : Env} {pos : Pos} {T : String} {e : Expr} {rest : List Expr} {kws : List Keyword} {Q : Value → Shared → Prop}
    (h : wpAny M A (spliced (backTo pos (starEach (e :: rest) env))) (fun vs s₁ => wpAny M A (evalAll ((backToKw pos (keywordEach kws env)).map (·.2)))
      (fun kvs s₂ => wpAny M A (call (.type T) vs (((backToKw pos (keywordEach kws env)).filterMap (·.1)).zip kvs)) Q E s₂) E s₁) E s)
    (he : backTo pos (starEach (e :: rest) env) = (false, eval e env) :: backTo pos (starEach rest env)) (hp : (backTo pos (starEach (e :: rest) env)).any (·.1) = false)
    (ha : (backToKw pos (keywordEach kws env)).all (·.1.isSome) = true) (hk : (backToKw pos (keywordEach kws env)).any (·.1.isNone) = false) :
    wpAny M A (callWith pos (.type T) [] (backTo pos (starEach (e :: rest) env)) (backToKw pos (keywordEach kws env))) Q E s := by
  have z : wpAny M A (evalArgs (.type T) true (backTo pos (starEach (e :: rest) env)) (backToKw pos (keywordEach kws env))) (fun a s₁ => wpAny M A (call (.type T) ([] ++ a.pos) a.kw) Q E s₁) E s := by
    rw [he] at h ⊢
    exact evalArgs_kwB ha h
  unfold callWith
  refine wpAny_bind (wpAny_holding (wpAny_mono z (fun a s₁ h₁ => wpAny_bind (wpAny_standAt ?_)) fun _ _ x => x))
  simp only [hp, hk, Bool.or_false]
  exact wpAny_bind (wpAny_pure (wpAny_bind (wpAny_mono h₁ (fun r s₂ hr => wpAny_bind (wpAny_holding (wpAny_point (wpAny_pure hr)))) fun _ _ x => x)))
def IteS (K : PySem.W.Frag) (a : Addr) (k : Int) : It where
  go := fun i H => ∃ xs x, SqL K H a xs ∧ xs[i]? = some x
  yld := fun i H v H' => ∃ T x, v = V.ref T ∧ H T = none ∧ H' = upd H T (.tup [.int (k + (i : Int)), x]) ∧ ∀ xs, SqL K H a xs → xs[i]? = some x
  stop := fun i H => ∃ xs, SqL K H a xs ∧ xs.length = i
theorem turn_enumS {P : Program} {w : World} {K : PySem.W.Frag} {elts : List Expr} {kk : Nat} {tpos : Pos} (a e it : Addr) (k : Int) :
    Turn P w K (.Tuple elts kk tpos) (IteS K a k) [e, it] e fun i h => (∃ old, IsEnum h e it (k + (i : Int)) old) ∧ h.IsListIter it a i ∧ e ≠ it where
  mem := List.mem_cons_self
  obj := fun i h ⟨⟨old, he⟩, ⟨o, ho, _, hd⟩, _⟩ b hb => by
    rcases List.mem_cons.mp hb with rfl | hb
    · exact ⟨_, he, fun v q => nomatch q⟩
    · rw [List.mem_singleton.mp hb]
      exact ⟨o, ho, fun v q => by rw [hd] at q; cases q⟩
  keep := fun i h h' ⟨⟨old, he⟩, hi, hne⟩ k => ⟨⟨old, k e List.mem_cons_self _ he⟩, hi.at fun o q => k it (List.mem_cons_of_mem _ List.mem_cons_self) o q, hne⟩
  item := fun X hP hw hK hc i pins s σ H E I hf st hg => by
    subst hP hw hK
    obtain ⟨⟨old, he⟩, hit, hne⟩ := st
    obtain ⟨xs, x, hq, hx⟩ := hg
    obtain ⟨its, rv, p, hz⟩ := I.list hq
    obtain ⟨u, hu, ru⟩ := rv.get hx
    obtain ⟨oi, hoi, hci, hdi⟩ := hit
    have hit : s.heap.IsListIter it a i := ⟨oi, hoi, hci, hdi⟩
    have hel := Heap.lt_size he
    have hil := Heap.lt_size hoi
    have hit2 : s.heap.IsList a its.toArray := p.isList
    obtain ⟨oa, na, hoa, hca, _, hda⟩ := id p
    have n1 : a ≠ it := fun z => by subst z; rw [hoi] at hoa; cases hoa; rw [hci] at hca; exact absurd (Value.type.inj hca) (by decide)
    have n2 : e ≠ a := fun z => by subst z; rw [he] at hoa; cases hoa; exact absurd (Value.type.inj hca) (by decide)
    have D := Draws.list (prog := X.prog) (w := X.w) (A := X.A.in1) (I.ok.hd hc) it a n1 its.toArray
    have hi : i < its.length := (List.getElem?_eq_some_iff.mp hu).1
    refine wpAny_pyNext_enum_itemC D he ⟨hit, hit2⟩ (by simpa using hi) hne (by simp [hne, n2]) fun x' h' tk hx' ho hst hT hsz hk => ?_
    have hu' : x' = u := by
      have : its.toArray[i]? = some x' := hx'
      rw [List.getElem?_toArray, hu] at this
      exact (Option.some.inj this).symm
    subst hu'
    refine ⟨_, rfl, wpAny_letOwnedTupleGo_enum ho fun h'' he' sb => ?_⟩
    have hT2 := (sb.2 s.heap.objs.size (Nat.ne_of_gt hel)).trans hT
    have new : ObjOk X.prog X.w (upd H s.heap.objs.size (.tup [.int (k + (i : Int)), x])) h'' s.heap.objs.size (.tup [.int (k + (i : Int)), x]) := ⟨by show 2 ≤ sizeLine; decide, [.int (k + (i : Int)) tk, x'], .cons ⟨tk, rfl⟩ (.cons ru .nil), ⟨_, hT2, rfl, 0, rfl⟩⟩
    have I1 := Inv.turnedNew (t' := tk + 1) I (ch := [e, it]) (fun b ob hb q => (sb.2 b fun z => hb (by rw [z]; exact List.mem_cons_self)).trans (hk b ob (fun z => hb (by rw [z]; exact List.mem_cons_self)) (fun z => hb (by rw [z]; exact List.mem_cons_of_mem _ List.mem_cons_self)) q)) hf (Nat.le_refl _) new
    refine ⟨.ref s.heap.objs.size, _, I1, rfl, ⟨s.heap.objs.size, x, rfl, I.hok.fresh (Nat.le_refl _), rfl, fun ys hy => by rw [I.list_inj hy hq]; exact hx⟩, ⟨⟨x', ?_⟩, hst.1.at fun o q => (sb.2 it hne.symm).trans q, hne⟩, fun b hb => ?_⟩
    · have e1 : k + (((i + 1 : Nat)) : Int) = k + (i : Int) + 1 := by omega
      rw [e1]
      exact he'
    · have hb' : b < s.heap.objs.size := by
        rcases List.mem_cons.mp hb with rfl | hb
        · exact hel
        · rw [List.mem_singleton.mp hb]; exact hil
      rw [upd_ne (Nat.ne_of_lt hb')]
      exact (hf b hb).1
  done := fun X hP hw hK hc i pins s σ H E I hf st hg => by
    subst hP hw hK
    obtain ⟨⟨old, he⟩, hit, hne⟩ := st
    obtain ⟨xs, hq, hx⟩ := hg
    obtain ⟨its, rv, p, hz⟩ := I.list hq
    obtain ⟨f0, f1, f2, f3, f4, f5⟩ := hf it (List.mem_cons_of_mem _ List.mem_cons_self)
    obtain ⟨oi, hoi, hci, hdi⟩ := hit
    have hit : s.heap.IsListIter it a i := ⟨oi, hoi, hci, hdi⟩
    have hit2 : s.heap.IsList a its.toArray := p.isList
    obtain ⟨oa, na, hoa, hca, _, hda⟩ := id p
    have n1 : a ≠ it := fun z => by subst z; rw [hoi] at hoa; cases hoa; rw [hci] at hca; exact absurd (Value.type.inj hca) (by decide)
    have D := Draws.list (prog := X.prog) (w := X.w) (A := X.A.in1) (I.ok.hd hc) it a n1 its.toArray
    have hi : i = its.toArray.size := by have := rv.length; simp; omega
    refine wpAny_pyNext_enum_endD D he ⟨by rw [← hi]; exact hit, hit2⟩ fun h' eb => ⟨rfl, Inv.turned I (fun b o hb q => eb b o hb q) f0 f1 f3 f4 f5⟩
  self := fun A i s Q E ⟨⟨_, he⟩, _⟩ h => wpAny_pyIter_enum he h
theorem pi_enumS {X : Cx} {elts : List Expr} {kk kj : Nat} {tpos p pos kp cp : Pos} {e : Expr} {ta : TA} {k : Int} (hk : -(2 ^ 63) ≤ k ∧ k < 2 ^ 63) (hg : Gl X "enumerate") (hm : X.mg "enumerate" = none) (ha : PA X [e] ta) (hs : starEach [e] X.env = [(false, eval e X.env)]) :
    PI X (.Tuple elts kk tpos) (.Call (.Name "enumerate" p) [e] [⟨some "start", .Constant (.int k) kj cp, kp⟩] pos) (fun σ H R => ta σ H fun vs H1 => ∃ a xs, vs = [.ref a] ∧ SqL X.K H1 a xs ∧ R (IteS X.K a k) H1) := ⟨fun pins s σ H R I h => by
  refine wpAny_Call_Name_kw (ld_blt I hg hm PyProof.Rows.boot_enumerate (callWith_tyKw (thn (ha.run pos pins s σ H _ I h) fun us s1 ⟨vs, H1, I1, r1, a, xs, e1, hq, q⟩ => kws_cons (wpAny_Constant_int (kws_nil ?_))) (by rw [hs]; rfl) (by rw [hs]; rfl) rfl rfl))
  subst e1
  cases r1 with
  | cons r rr =>
    cases rr
    cases r
    have I1 := I1.tok (s1.toks + 1)
    obtain ⟨its, rv, p', hz⟩ := I1.list hq
    refine enum_begins_start (begins_list a its.toArray) p'.isList hk.1 hk.2 fun h' he ho _ hk => ?_
    refine wpAny_pyIter_enum he ?_
    have I2 := I1.kept (t' := s1.toks + 1) hk
    refine ⟨s1.heap.objs.size + 1, [s1.heap.objs.size + 1, s1.heap.objs.size], _, IteS X.K a k, H1, rfl, I2, turn_enumS a _ _ k, ⟨⟨_, by rw [show k + ((0 : Nat) : Int) = k by omega]; exact he⟩, ⟨_, ho, rfl, rfl⟩, Nat.succ_ne_self _⟩, fun b hb => ?_, q⟩
    have hle : s1.heap.objs.size ≤ b := by
      rcases List.mem_cons.mp hb with rfl | hb
      · exact Nat.le_succ _
      · rw [List.mem_singleton.mp hb]; exact Nat.le_refl _
    exact Inv.fpOk I1 hle (I1.hok.fresh hle)⟩
end
def numsF {α : Type} (k : Int) (xs : List α) : List (Duo Int α) := xs.zipIdx.map fun p => ⟨k + (p.2 : Int), p.1⟩
theorem numsF_len {α : Type} {k : Int} {xs : List α} : (numsF k xs).length = xs.length := by unfold numsF; rw [List.length_map, List.length_zipIdx]
theorem numsF_get {α : Type} {k : Int} {xs : List α} {i : Nat} {a : α} (h : xs[i]? = some a) : (numsF k xs)[i]? = some ⟨k + (i : Int), a⟩ := by
  unfold numsF
  rw [List.getElem?_map, List.getElem?_zipIdx, h]
  show some (Duo.mk (k + ((0 + i : Nat) : Int)) a) = _
  rw [Nat.zero_add]
section
variable {X : Cx} {c : CL} {Γ : List Sl} {α : Type} [Rp α] {K : PySem.W.Frag} {k : Int}
theorem wk_enumS {Hw : Hp} {p : Addr} {vs : List V} {xs : List α} (h : SqL K Hw p vs) (r : RpL K c Hw vs xs) : Wk K c Hw (IteS K p k) (numsF k xs) where
  stop := fun H s => ⟨vs, s.seq h, by rw [r.len, numsF_len]⟩
  go := fun i H hi s => ⟨vs, vs[i]'(by rw [r.len]; rwa [numsF_len] at hi), s.seq h, List.getElem?_eq_getElem (by rw [r.len]; rwa [numsF_len] at hi)⟩
  yld := fun i Hf H x H' s1 s2 hi ⟨T, y, e, hT, eH, hall⟩ => by
    subst e eH
    obtain ⟨a, h1, h2⟩ := paired_get r (hall vs ((s1.trans s2).seq h))
    have hTf : Hf T = none := s2.free hT
    have sm := same_new (H := Hf) (p := T) (o := HO.tup [.int (k + (i : Int)), y]) hTf
    refine ⟨upd Hf T (.tup [.int (k + (i : Int)), y]), ⟨sm, same_new hT, fun b o z => ?_, fun b o z1 z2 n => ?_⟩, ⟨k + (i : Int), a⟩, numsF_get h1, T, .int (k + (i : Int)), y, rfl, upd_same, rfl, Rp.mono sm (Rp.mono s1 h2)⟩
    · by_cases q1 : b = T
      · subst q1; rw [upd_same] at z ⊢; exact z
      · rw [upd_ne q1] at z ⊢; exact s2 b o z
    · by_cases q1 : b = T
      · subst q1; rw [hT] at z2; cases z2
      · rw [upd_ne q1]; exact z1
theorem i_enumS {elts : List Expr} {kk kj : Nat} {tpos p pos kp cp : Pos} {e : Expr} {xs : List α} (h : E X c Γ e xs) (hm : X.mg "enumerate" = none) (hk : -(2 ^ 63) ≤ k ∧ k < 2 ^ 63 := by decide) (hg : Gl X "enumerate" := by rfl) (hs : starEach [e] X.env = [(false, eval e X.env)] := by rfl) : I X c Γ (.Tuple elts kk tpos) (.Call (.Name "enumerate" p) [e] [⟨some "start", .Constant (.int k) kj cp, kp⟩] pos) (numsF k xs) := fun _ _ σ Hf H g R kc =>
  ⟨_, pi_enumS hk hg hm (pa_cons pe_w pa_nil (by rw [hs]; rfl)) hs, h _ _ σ Hf H g _ fun v Hf1 H1 s1 r1 => by
    obtain ⟨p, vs, rfl, h2, h3⟩ := r1
    exact ⟨p, vs, rfl, s1.s.seq h2, kc _ Hf1 H1 s1 (wk_enumS h2 h3)⟩⟩
end
end Pv
set_option maxHeartbeats 0
/-! exceptions told of a tuple of numbers; xs.pop(0); t[::-1] -/
namespace Pv
open Rp (rp)
open Ow (ow)
open Da (toD)
open PySem L2
section
open PySem.Spec PyProof.Rows
variable {X : Cx}
theorem repr_ints {prog : Program} {w : World} : ∀ {l : List Int} {its : List Value}, Vals (l.map V.int) its → (∀ y ∈ l, y.natAbs.log2 < 1920) → ReprAll prog w its (l.map fun i => (toString i : Str))
  | [], _, r, _ => by
    cases r
    exact .nil
  | y :: l, _, r, h => by
    cases r with
    | cons r1 r2 =>
      obtain ⟨t, rfl⟩ := r1
      exact .cons (ReprIs.int t (h y List.mem_cons_self)) (repr_ints r2 fun z hz => h z (List.mem_cons_of_mem _ hz))
theorem piled_ints : ∀ l : List Int, (∀ y ∈ l, y.natAbs.log2 < 1920) → piled (l.map fun i => (toString i : Str)) ≤ 2000 * l.length
  | [], _ => Nat.zero_le _
  | y :: l, h => by
    have h1 := PyProof.Rows.int_text_len_1921 (h y List.mem_cons_self)
    have h2 := piled_ints l fun z hz => h z (List.mem_cons_of_mem _ hz)
    rw [List.map_cons, piled_cons, List.length_cons]
    omega
/-- {t}, t a tuple of numbers: some text -/
def tFmtI (K : PySem.W.Frag) (te : TE) : TE := fun σ H Q => te σ H fun x H1 => ∃ (a : Addr) (l : List Int), x = .ref a ∧ SqT K H1 a (l.map V.int) ∧ (∀ y ∈ l, y.natAbs.log2 < 1920) ∧ l.length ≤ 1000 ∧ ∀ m : Str, m.length ≤ 2000 * l.length + 7 → Q (.str m) H1
theorem pe_fmtI {e : Expr} {te : TE} {pos : Pos} (hu : X.A.units + 2 < cLine) (he : PE X e te) : PE X (.FormattedValue e (-1) none pos) (tFmtI X.K te) := by
  refine ⟨fun pins s σ H Q I h => ?_⟩
  refine wpAny_FormattedValue_plain (thn (he.run pins s σ H _ I h) fun v s1 hv => ?_)
  obtain ⟨x, H1, I1, r1, a, l, rfl, ht, hc, hz, q⟩ := hv
  cases r1
  obtain ⟨its, rv, ⟨o, ho, hcl, n, hd⟩, _⟩ := I1.tuple ht
  have hp := piled_ints l hc
  have htx := fmt_text (l.map fun i => (toString i : Str))
  have hs : 2000 * 1000 + 20 ≤ sizeLine := by decide
  exact fmt_tuple (ts := l.map fun i => (toString i : Str)) hu ho hcl hd (repr_ints rv hc) (by omega) fun m u tk hm => ⟨.str m, H1, I1.tok _, ⟨u, rfl⟩, q m (by omega)⟩
/-- f'{t}..' with a text behind -/
theorem fs_tup {σ : L2.St} {H : Hp} {e : Expr} {te : TE} {y : Str} {a : Addr} {l : List Int} {j : Nat} {p p2 pos : Pos} {Q : List V → Hp → Prop} (hu : X.A.units + 2 < cLine) (he : PE X e te) (ht : ∀ Q : VK, Q (.ref a) H → te σ H Q) (hq : SqT X.K H a (l.map V.int)) (hl : ∀ y ∈ l, y.natAbs.log2 < 1920) (hz : l.length ≤ 1000) (hy : y.length ≤ 1000)
    (q : ∀ u, Q [u] H) (hs : starEach [Expr.JoinedStr [.FormattedValue e (-1) none p, .Constant (.str y) j p2] pos] X.env = (false, eval (Expr.JoinedStr [.FormattedValue e (-1) none p, .Constant (.str y) j p2] pos) X.env) :: starEach [] X.env := by rfl) :
    ∃ ta, PA X [.JoinedStr [.FormattedValue e (-1) none p, .Constant (.str y) j p2] pos] ta ∧ ta σ H Q := by
  have hsz : 2000 * 1000 + 2000 ≤ sizeLine := by decide
  refine ⟨_, pa_cons (pe_joined (.cons (pe_fmtI hu he) (.cons pe_str .nil))) pa_nil hs, ht _ ⟨a, l, rfl, hq, hl, hz, fun m hm => ⟨m, rfl, ?_, y, rfl, ?_, q _⟩⟩⟩
  · rw [Str.length_append, show Str.empty.length = 0 from rfl]; omega
  · rw [Str.length_append, Str.length_append, show Str.empty.length = 0 from rfl]; omega
end
section
variable {P : Program} {w : World} {K : PySem.W.Frag} {mg : Str → Option Value} {base : Heap}
/-- fn_exc, with room for what is formatted -/
theorem fn_excR {x qual : Str} {st : Stmt} {f cda cc : Addr} {fd : FuncData} {N ps fls : List Str} {k : Nat} {C D : Addr} {Pr : Hp → List V → Prop} {a : Expr} {as : List Expr} {rest : List Stmt} {p0 p1 p2 p3 p4 : Pos} {ar : Arg} (F : FunX K x qual st f cda cc fd) (S : XScope N ps (defScope st)) (T : SupC P K mg C D cc cda)
    (hl : fls.length + 1 = ps.length) (hN : ps.length ≤ N.length) (hd : defBody st = .Expr (.Call (.Attribute (.Call (.Name "super" p0) [] [] p1) "__init__" p2) (a :: as) [] p3) p4 :: rest) (hp : ((defArgs st).posonlyargs ++ (defArgs st).args).head? = some ar) (h0 : N[0]? = some ar.arg)
    (hka : (defScope st).names.lookup ar.arg = some .local)
    (hb : ∀ (A : Around) (outer : List Env) (s : Shared) (H : Hp) (e : Addr) (ws : List V), (A.deeper (xenv qual (defScope st) s.heap.objs.size f cda cc)).units + 2 < cLine → ws.length = fls.length → Pr H ws → H e = some (exo e C none) →
      ∃ ta, PA (xcx P w K mg base N qual (defScope st) f cda cc A outer s H) (a :: as) ta ∧ ta (L2.start N (.ref e :: ws)) H fun vs H' => vs.length ≤ 1000 ∧ H' e = some (exo e C none) ∧ H' = H)
    (hr : ∀ (A : Around) (outer : List Env) (s : Shared) (H : Hp) (e : Addr) (ws : List V), ws.length = fls.length → Pr H ws → H e = some (exo e C none) →
      ∀ DD : Ends, (∀ σ' d H', H d = none → d ≠ e → H' e = some (exo e C (some d)) → H' d = some (exd d (fls.zip ws).reverse) → (∀ b, b ≠ e → b ≠ d → H' b = H b) → DD.nx σ' H') → wSs (xcx P w K mg base N qual (defScope st) f cda cc A outer s H) rest DD (L2.start N (.ref e :: ws)) H)
    (hint : ∀ L, interactive (xenv qual (defScope st) L f cda cc) = false := by intro _; rfl) (hsw : ∀ L, swapsWith (.Call (.Attribute (.Call (.Name "super" p0) [] [] p1) "__init__" p2) (a :: as) [] p3) none p4.line (xenv qual (defScope st) L f cda cc) = pure false := by intro _; rfl)
    (hst : ∀ L, starEach (a :: as) (xenv qual (defScope st) L f cda cc) = (false, eval a (xenv qual (defScope st) L f cda cc)) :: starEach as (xenv qual (defScope st) L f cda cc) := by intro _; rfl) (hpl : ∀ L, (backTo p3 (starEach as (xenv qual (defScope st) L f cda cc))).any (·.1) = false := by intro _; rfl) {pl : Addr → Sem Bool}
    (hev : ∀ L, eval (.Call (.Attribute (.Call (.Name "super" p0) [] [] p1) "__init__" p2) (a :: as) [] p3) (xenv qual (defScope st) L f cda cc) = (do
      let ov ← attributeBase (.Call (.Name "super" p0) [] [] p1) "__init__" (xenv qual (defScope st) L f cda cc) (eval (.Call (.Name "super" p0) [] [] p1) (xenv qual (defScope st) L f cda cc))
      standAt p2.atName
      let (g, first) ← holding [ov] (getMethod ov "__init__" (pl L))
      callWith p3 g first (backTo p3 (starEach (a :: as) (xenv qual (defScope st) L f cda cc))) []) := by intro _; rfl)
    (hco : (defScope st).isCoroutine = false := by rfl) (hgn : (defScope st).isGenerator = false := by rfl) : FnOk P w K mg base CX0 (k + 1) f fd ps (spE C Pr fls) := by
  obtain ⟨oc, od, kV, doc, pm, an, ct, osl, rfl, hK, hcd⟩ := F.ex
  refine ⟨fun vs H Q E ⟨a, ws, h1, h2, _⟩ => by rw [h1, List.length_cons, h2, hl], fun A outer s H args us vs Q E hr0 e0 hbd r ⟨e, ws, h1, h2, h3, h4, h5⟩ => ?_⟩
  subst h1
  have KX := PySem.W.Frag.In.keeps e0.mod.kin fun b o e => (e0.bs b o e).left
  have lim := Heap.NoLimit.keeps e0.mod.nolimit fun b o e => (e0.bs b o e).left
  have hlen : (V.ref e :: ws).length = ps.length := by rw [List.length_cons, h2, hl]
  refine ks_codeAny_call_defAt (Room.depth hr0) (KX f _ hK) rfl lim (PySem.W.codeRec_of KX hcd) rfl hbd S.nocell (fun y hy => S.par _ (List.of_mem_zip hy).1) (fun h₀ hns hk => ?_) S.co S.gen S.kind
  have I := inv_startX (qual := qual) (f := f) (cda := cda) (tk := s.toks + (ps.zip us).length) S hr0.hd e0 hlen r (e0.mod.kin _ _ T.cell) hns hk
  have hun := (hr0.deeper (xenv qual (defScope st) s.heap.objs.size f cda cc)).units
  obtain ⟨ta, h6, h7⟩ := hb A outer s H e ws (by omega) h2 h3 h4
  have hs0 : (L2.start N (.ref e :: ws))[0]? = some (some (V.ref e)) := rfl
  have z := super_stmt (X := xcx P w K mg base N qual (defScope st) f cda cc A outer s H) (body := defBody st) (fd := PySem.W.ksFn x qual (defArgs st) (defBody st) (defScope st) .none kV doc pm an (.ref cda) ct cc) T rfl S hK hp h0 hka I hs0 h4 h6 (Qn := fun H' => H' = H) h7 (hint _) (hsw _) (hst _) (hpl _) (pl := pl _) (hev _)
  have ee : callEnv (PySem.W.ksFn x qual (defArgs st) (defBody st) (defScope st) .none kV doc pm an (.ref cda) ct cc) s.heap.objs.size f = xenv qual (defScope st) s.heap.objs.size f cda cc := rfl
  rw [ee]
  rw [hd] at z ⊢
  refine ks_wpAt_execs_cons (wpAt_mono z ?_ ?_)
  · rintro fl s1 ⟨rfl, H1, I1, rfl⟩
    obtain ⟨t, h8, h9⟩ := hr A outer s H1 e ws h2 h3 h4 { nx := fun _ H' => Q .non H', rt := fun _ _ => False } (fun σ' d H' a b c d e => h5 _ _ a b c d e)
    refine wpAt_of_wpAny (wpAny_mono (h8.run [] _ _ _ _ I1 h9) ?_ ?_)
    · intro fl s2 hs
      cases fl with
      | next =>
        obtain ⟨σ', H', J, q⟩ := hs
        exact ⟨.non, H', J.os, J.bare, J.base, J.hok, rfl, q⟩
      | brk => obtain ⟨_, _, _, q⟩ := hs; exact q.elim
      | cont => obtain ⟨_, _, _, q⟩ := hs; exact q.elim
      | ret u => obtain ⟨_, _, _, _, _, q⟩ := hs; exact q.elim
    · intro e s2 q
      exact False.elim q
  · intro e s2 q
    exact False.elim q
/-- one tuple of small numbers -/
def PrT (K : PySem.W.Frag) : Hp → List V → Prop := fun H ws => ∃ (a : Addr) (l : List Int), ws = [.ref a] ∧ SqT K H a (l.map V.int) ∧ (∀ y ∈ l, y.natAbs.log2 < 1920) ∧ l.length ≤ 1000
theorem prT_of {c : CL} {t : Tup Int} (h : ∀ y ∈ t.l, y.natAbs < 100000000000) (hl : t.l.length ≤ 1000) : ∀ Hf H vs, Same Hf H → PkL K c Hf vs [⟨t⟩] → PrT K H vs := fun Hf H vs s r => by
  obtain ⟨v, rfl, hv⟩ := pkl1 r
  obtain ⟨p, us, rfl, h2, h3⟩ := hv
  rw [rpl_ints h3] at h2
  exact ⟨p, t.l, rfl, sqT_of (s _ _ h2), fun y hy => small_log (h y hy), hl⟩
end
end Pv
set_option maxHeartbeats 0
/-! xs.pop(0), also within what is appended -/
namespace Pv
open Rp (rp)
open Ow (ow)
open Da (toD)
open PySem L2
section
variable {X : Cx} {c : CL} {Γ Γ1 Γ2 : List Sl} {W : WX} {D : En} {rest : List Stmt} {pos p0 : Pos} {e : Expr} {es : List Expr}
theorem em_pop0 (i : Nat) {x : Str} {p1 p2 p3 q : Pos} {j : Nat} {α : Type} [Rp α] {y : α} {ys : List α} (hΓ : Γ[i]? = some (o (y :: ys))) (hl : ys.length < 1000000) (hN : X.N[i]? = some x := by rfl)
    (hv : Vis X.env.scope x := by first | exact Or.inl rfl | exact Or.inr (Or.inl rfl) | exact Or.inr (Or.inr rfl)) (hd : (x == ("__debug__" : Str)) = false := by decide) (hcd : (x == ("__classdict__" : Str)) = false := by decide)
    (hst : starEach [Expr.Constant (.int 0) j q] X.env = (false, eval (.Constant (.int 0) j q) X.env) :: starEach [] X.env := by rfl)
    (hpe : PE X (.Call (.Attribute (.Name x p1) "pop" p2) [.Constant (.int 0) j q] [] p3) (tBM X.K "list" rPopAt (tVar i) (tCons (tC (.int 0)) tNil)) := by exact pe_bm PySem.F.plainAttrs_list PySem.F.slot_list_pop PySem.F.type_list_pop mt_popAt (pv _) (pa_cons pe_int pa_nil)) :
    EM X c Γ (.Call (.Attribute (.Name x p1) "pop" p2) [.Constant (.int 0) j q] [] p3) y (Γ.set i (o ys)) := fun _ _ σ Hf H g Q k => by
  obtain ⟨R, v2, e1, ⟨p, vs, rfl, rfl, e3, e4⟩, hR, up⟩ := g.own hΓ
  refine ⟨_, hpe, .ref p, e1, .inl ⟨rfl, _, SqL.of e3⟩, ?_⟩
  cases e4 with
  | @cons v0 _ vs0 _ r0 rr =>
    refine ⟨p, v0 :: vs0, 0, 0, v0, rfl, rfl, e3, by decide, by decide, ?_, rfl, ?_⟩
    · unfold PySem.seqIndex?
      simp
    · refine k v0 Hf _ (Same.refl _) (up (OwL α) _ ⟨ys⟩ [p] _ (fun a o' ha hn => ?_) (fun a ha => .inl ha) ⟨p, vs0, rfl, rfl, upd_same, rr⟩) r0
      rw [upd_ne fun z => hn (by rw [z]; exact List.mem_cons_self)]; exact ha
/-- numbers, where an item may change what the def owns -/
def ALM (X : Cx) (c : CL) (Γ : List Sl) (es : List Expr) {α : Type} [Rp α] (as : List α) (Γ' : List Sl) : Prop :=
  ∀ (H0f H0 : Hp) (σ : L2.St) (Hf H : Hp), EnvOk X.K c H0f H0 Hf H σ Γ → ∀ Q : List V → Hp → Prop, (∀ vs Hf' H', Same Hf Hf' → EnvOk X.K c H0f H0 Hf' H' σ Γ' → RpL X.K c Hf' vs as → Q vs H') → wA X es σ H Q
theorem alm_nil {α : Type} [Rp α] : ALM X c Γ [] ([] : List α) Γ := fun _ _ σ Hf H g Q k => ⟨_, pa_nil, k _ Hf H (Same.refl _) g .nil⟩
theorem alm_cons {α : Type} [Rp α] {x : α} {as : List α} (h : EM X c Γ e x Γ1) (hr : ALM X c Γ1 es as Γ2) (hs : starEach (e :: es) X.env = (false, eval e X.env) :: starEach es X.env := by rfl) : ALM X c Γ (e :: es) (x :: as) Γ2 := fun _ _ σ Hf H g Q k =>
  ⟨_, pa_cons pe_w pa_w hs, h _ _ σ Hf H g _ fun v Hf1 H1 s1 g1 r1 => hr _ _ σ Hf1 H1 g1 _ fun vs Hf2 H2 s2 g2 r2 => k (v :: vs) Hf2 H2 (s1.trans s2) g2 (.cons (Rp.mono s2 r1) r2)⟩
theorem em_step {t : Tag} {k j : Nat} {q : Pos} {s : Str} {as : List Int} (h : ALM X c Γ es as Γ1) (hs : s = t.s := by rfl) (hl : as.length ≤ 900 := by decide) (hst : starEach (.Constant (.str s) j q :: es) X.env = (false, eval (.Constant (.str s) j q) X.env) :: starEach es X.env := by rfl) : EM X c Γ (.Tuple (.Constant (.str s) j q :: es) k pos) (Sx.mk t as) Γ1 := fun _ _ σ Hf H g Q kk => by
  subst hs
  exact ⟨_, pe_tup (pa_cons pe_str pa_w hst), h _ _ σ Hf H g _ fun vs Hf1 H1 s1 g1 r1 => ⟨by rw [List.length_cons, r1.len, sizeLine_eq]; omega, fun p hp => by
    rw [rpl_ints r1]
    have s2 := Stp.new (o := .tup (.str t.s :: as.map V.int)) g1.same hp
    exact kk _ _ _ (s1.trans s2.f) (g1.step s2) ⟨p, rfl, upd_same⟩⟩⟩
/-- x.append(e), e changes what the def owns elsewhere -/
theorem ss_appM (i : Nat) {x : Str} {p1 p2 p3 : Pos} {α : Type} [Rp α] {xs : List α} {v : α} (hΓ : Γ[i]? = some (o xs)) (h : EM X c Γ e v Γ1) (h1 : Γ1[i]? = some (o xs)) (hl : xs.length < 1000000) (hr : Ss X c W (Γ1.set i (o (xs ++ [v]))) rest D) (hN : X.N[i]? = some x := by rfl)
    (hv : Vis X.env.scope x := by first | exact Or.inl rfl | exact Or.inr (Or.inl rfl) | exact Or.inr (Or.inr rfl)) (hd : (x == ("__debug__" : Str)) = false := by decide) (hcd : (x == ("__classdict__" : Str)) = false := by decide)
    (hst : starEach [e] X.env = (false, eval e X.env) :: starEach [] X.env := by rfl) (hpe : PE X (.Call (.Attribute (.Name x p1) "append" p2) [e] [] p3) (tBM X.K "list" rAppend (tVar i) (tCons (wE X e) tNil)) := by exact pe_bm PySem.F.plainAttrs_list PySem.F.slot_list_append PySem.F.type_list_append mt_append (pv _) (pa_cons pe_w pa_nil))
    (hs : swapsWith (.Call (.Attribute (.Name x p1) "append" p2) [e] [] p3) none pos.line X.env = pure false := by rfl) : Ss X c W Γ (.Expr (.Call (.Attribute (.Name x p1) "append" p2) [e] [] p3) pos :: rest) D := fun _ _ σ Hf H g DD k => by
  refine ⟨_, pss_cons (ps_expr hpe hs) pss_w, ?_⟩
  obtain ⟨_, _, e1, ⟨p, vs, rfl, _, e3, _⟩, _⟩ := g.own hΓ
  refine ⟨.ref p, e1, .inl ⟨rfl, _, SqL.of e3⟩, h _ _ σ Hf H g _ fun w Hf1 H1 s1 g1 r1 => ?_⟩
  obtain ⟨R, v2, e1', ⟨p', vs', rfl, rfl, e3', e4'⟩, hR, up⟩ := g1.own h1
  rw [e1] at e1'
  cases e1'
  refine ⟨p, vs', w, rfl, rfl, e3', by rw [e4'.len]; exact Nat.lt_of_lt_of_le hl (by decide), ?_⟩
  refine hr _ _ σ Hf1 _ (up (OwL α) _ ⟨xs ++ [v]⟩ [p] _ (fun a o' ha hn => ?_) (fun a ha => .inl ha) ⟨p, vs' ++ [w], rfl, rfl, upd_same, ?_⟩) DD (k.mono s1)
  · rw [upd_ne fun z => hn (by rw [z]; exact List.mem_cons_self)]; exact ha
  · exact paired_append e4' (.cons r1 .nil)
end
section
open PySem.Spec PyProof.Rows HT
variable {prog : Program} {w : World} {A : Around} {E : Value → Shared → Prop} {s : Shared}
theorem getItem_tuple_rev {t sl : Addr} {items : Array Value} {vs : Value} {Q : Value → Shared → Prop} (ht : IsTup s.heap t items) (hs : s.heap.IsSliceOf sl .none .none vs) (ps : IsPart vs (some (-1)))
    (h : Q (.ref s.heap.objs.size) { s with heap := s.heap.push { cls := .type "tuple", data := .seq items.toList.reverse.toArray } }) (hsz : items.size ≤ sizeLine) : wpAny (model prog w) A (getItem (.ref t) (.ref sl)) Q E s := by
  have htake : sizeOk (.seq items.toList.reverse.toArray) := by
    show items.toList.reverse.toArray.size ≤ sizeLine
    rw [List.size_toArray, List.length_reverse, Array.length_toList]; exact hsz
  obtain ⟨os, hos, hcs, hds⟩ := id hs
  have hTs : s.TypeIs (.ref sl) "slice" := ⟨os, hos, hcs⟩
  unfold getItem
  try with_reducible refine wpAny_holding ?_
  first | refine wpAny_bind (wpAny_pure ?_) | skip
  refine wpAny_bind (wpAny_sequenceKey ht.typeIs (by decide) ?_)
  refine wpAny_bind (wpAny_callSpecial?_slot (name := Str.ofString "__getitem__") ht.typeIs PyProof.Rows.slot_tuple_getitem
    (wpAny_call_entry PyProof.Rows.slot_tuple_getitem ht.typeIs entry_tuple_getitem ?_ (args_tuple_getitem _ _)))
  show wpAny _ _ (Builtin.Tuple.tupleItemsOf (.ref t) >>= _) _ _ s
  refine wpAny_bind (tupleItemsOf_ ht ?_)
  refine wpAny_bind (wpAny_typeOf hTs ?_)
  rw [if_pos (by decide)]
  have adj : Builtin.Slice.sliceAdjust none none (-1) (items.size : Int) = ((items.size : Int) - 1, -1) := by
    unfold Builtin.Slice.sliceAdjust
    rfl
  have plc : Builtin.Slice.slicePlaces ((items.size : Int) - 1) (-1) (-1) = items.size := by
    unfold Builtin.Slice.slicePlaces
    have h1 : ¬ ((-1 : Int) > 0) := by decide
    simp only [h1, if_false]
    by_cases z : (items.size : Int) - 1 > -1
    · rw [if_pos z, show (- -1 : Int) = 1 by decide, Int.ediv_one]; omega
    · rw [if_neg z]; omega
  have sa : ∀ {R : Int × Int × Nat → Shared → Prop}, R ((items.size : Int) - 1, -1, items.size) s → wpAny (model prog w) A.in1 (Builtin.Slice.sliceApplied (.ref sl) (pure (items.size : Int))) R E s := fun {R} hR => by
    unfold Builtin.Slice.sliceApplied Builtin.Slice.sliceFields
    refine wpAny_bind (wpAny_bind (wpAny_field hos hds (x := .none) rfl (wpAny_bind (wpAny_field hos hds (x := .none) rfl (wpAny_bind (wpAny_field hos hds (x := vs) rfl (wpAny_pure ?_)))))))
    refine wpAny_bind (slicePart_ ps ?_)
    show wpAny _ _ (if ((-1 : Int) == 0) = true then _ else _) _ _ s
    rw [if_neg (by decide)]
    refine wpAny_bind (slicePart_none (wpAny_bind (slicePart_none (wpAny_bind (wpAny_pure ?_)))))
    show wpAny _ _ (match Builtin.Slice.sliceAdjust none none (-1) (items.size : Int) with | (lo, hi) => pure (lo, (-1 : Int), Builtin.Slice.slicePlaces lo hi (-1))) _ _ s
    rw [adj]
    show wpAny _ _ (pure ((items.size : Int) - 1, (-1 : Int), Builtin.Slice.slicePlaces ((items.size : Int) - 1) (-1) (-1))) _ _ s
    rw [plc]
    exact wpAny_pure hR
  refine wpAny_bind (sa ?_)
  have hno : ¬ (((((items.size : Int) - 1) == 0 && (-1 : Int) == 1 && items.size == items.size)) = true) := by
    intro q
    rw [Bool.and_eq_true, Bool.and_eq_true] at q
    exact absurd (eq_of_beq q.1.2) (by decide)
  have pick : ((List.range items.size).filterMap fun (m : Nat) => items[((items.size : Int) - 1 + (m : Int) * (-1)).toNat]?).toArray = items.toList.reverse.toArray := by
    congr 1
    have e : (List.range items.size).filterMap (fun (m : Nat) => items[((items.size : Int) - 1 + (m : Int) * (-1)).toNat]?) = ((List.range items.size).map fun k => items.size - 1 - k).filterMap (items[·]?) := by
      rw [List.filterMap_map]
      have z : ∀ l : List Nat, (∀ m ∈ l, m < items.size) → l.filterMap (fun (m : Nat) => items[((items.size : Int) - 1 + (m : Int) * (-1)).toNat]?) = l.filterMap ((fun x => items[x]?) ∘ fun k => items.size - 1 - k) := by
        intro l hl
        induction l with
        | nil => rfl
        | cons m r ih =>
          have hm := hl m List.mem_cons_self
          have e : ((items.size : Int) - 1 + (m : Int) * (-1)).toNat = items.size - 1 - m := by omega
          rw [List.filterMap_cons, List.filterMap_cons, ih fun x hx => hl x (List.mem_cons_of_mem _ hx), e]
          rfl
      exact z _ fun m hm => List.mem_range.mp hm
    rw [e, PySem.W.krv_range, List.filterMap_reverse, PySem.W.krv_all]
  show wpAny _ _ (if ((((items.size : Int) - 1) == 0 && (-1 : Int) == 1 && items.size == items.size)) = true then _ else _) _ _ s
  rw [if_neg hno, pick]
  first
    | exact wpAny_bind (m := Builtin.Tuple.tupleExact _) (wpAny_newObj_type (wpAny_pure ⟨_, rfl, wpAny_pure h⟩) htake)
    | exact wpAny_bind (m := Builtin.Tuple.tupleExact _) (wpAny_newObj_type (wpAny_bind (wpAny_pure (wpAny_pure ⟨_, rfl, wpAny_pure h⟩))) htake)
    | exact wpAny_bind (wpAny_bind (m := Builtin.Tuple.tupleExact _) (wpAny_newObj_type (wpAny_pure (wpAny_pure ⟨_, rfl, wpAny_pure h⟩)) htake))
    | exact wpAny_bind (wpAny_bind (m := Builtin.Tuple.tupleExact _) (wpAny_newObj_type (wpAny_pure ⟨_, rfl, wpAny_pure h⟩) htake))
end
section
open PySem.Spec PyProof.Rows
variable {X : Cx} {c : CL} {Γ : List Sl}
theorem paired_rev {α β : Type} {F : α → β → Prop} : ∀ {xs : List α} {ys : List β}, Paired F xs ys → Paired F xs.reverse ys.reverse
  | _, _, .nil => .nil
  | _, _, .cons h t => by rw [List.reverse_cons, List.reverse_cons]; exact paired_append (paired_rev t) (.cons h .nil)
def tRevT (K : PySem.W.Frag) (te : TE) : TE := fun σ H Q => te σ H fun x H1 => ∃ a xs, x = .ref a ∧ SqT K H1 a xs ∧ ∀ p, H1 p = none → Q (.ref p) (upd H1 p (.tup xs.reverse))
theorem pe_revT {e : Expr} {te : TE} {k : Nat} {p1 p2 p3 pos : Pos} (he : PE X e te) : PE X (.Subscript e (.Slice none none (some (.UnaryOp .USub (.Constant (.int 1) k p1) p2)) p3) pos) (tRevT X.K te) := by
  refine ⟨fun pins s σ H Q I h => Subscript_ (thn (he.run pins s σ H _ I h) fun v s1 ⟨x, H1, I1, r1, a, xs, ex, hx, q⟩ => ?_)⟩
  subst ex
  cases r1
  have hst : PO X (some (.UnaryOp .USub (.Constant (.int 1) k p1) p2)) (tPart (tUn (rU fun i => .int (-i)) (tC (.int 1)))) := po_some (pe_un un_neg pe_int)
  refine wpAny_Slice (thn (po_none.run pins s1 σ H1 (fun o H2 => o = none ∧ H2 = H1) I1 ⟨rfl, rfl⟩) fun vl s2 ⟨l, H2, I2, pl, el, e2⟩ => ?_)
  subst el e2
  refine thn (po_none.run pins s2 σ H2 (fun o H3 => o = none ∧ H3 = H2) I2 ⟨rfl, rfl⟩) fun vu s3 ⟨u, H3, I3, pu, eu, e3⟩ => ?_
  subst eu e3
  refine thn (hst.run pins s3 σ H3 (fun o H4 => o = some (-1) ∧ H4 = H3) I3 ⟨1, rfl, -1, rfl, rfl, rfl⟩) fun vs s4 ⟨o, H4, I4, ps, eo, e4⟩ => ?_
  subst eo e4
  cases pl
  cases pu
  have I5 : Inv X pins σ H4 { s4 with heap := s4.heap.push { cls := .type "slice", data := .fields #[.none, .none, vs] } } := I4.kept (t' := s4.toks) fun b ob q => Heap.get?_push_of_some _ q
  obtain ⟨its, r, ht, hz⟩ := I5.tuple hx
  have hlen := r.length
  show wpAny (model X.prog X.w) X.A (subscriptTail e (.Slice none none (some (.UnaryOp .USub (.Constant (.int 1) k p1) p2)) p3) (.ref a) (.ref s4.heap.objs.size)) (EP X pins σ Q) X.xe { s4 with heap := s4.heap.push { cls := .type "slice", data := .fields #[.none, .none, vs] } }
  refine tail_any (ops := [.ref a, .ref s4.heap.objs.size]) ht.typeIs (PyProof.Rows.slot_tuple_getitem.lookup) ?_ (by with_unfolding_all rfl)
  refine getItem_tuple_rev ht (Heap.IsSliceOf.new _ .none .none vs) ps ?_ (by rw [List.size_toArray]; omega)
  refine ⟨.ref _, _, I5.laid (t' := s4.toks) (o := .tup xs.reverse) (fun b ob q => Heap.get?_push_of_some _ q) (Nat.le_refl _) ?_, rfl, q _ (I5.hok.fresh (Nat.le_refl _))⟩
  exact ⟨by rw [List.length_reverse]; exact hz, _, r.reverse, ⟨_, Heap.get?_push_size _ rfl, rfl, 0, rfl⟩⟩
theorem e_revT {α : Type} [Rp α] {t : Tup α} {e : Expr} {k : Nat} {p1 p2 p3 pos : Pos} (h : E X c Γ e t) : E X c Γ (.Subscript e (.Slice none none (some (.UnaryOp .USub (.Constant (.int 1) k p1) p2)) p3) pos) (Tup.mk t.l.reverse) := fun _ _ σ Hf H g Q q =>
  ⟨_, pe_revT pe_w, h _ _ σ Hf H g _ fun v Hf1 H1 s1 r1 => by
    obtain ⟨p, vs, rfl, h2, h3⟩ := r1
    refine ⟨p, vs, rfl, sqT_of (s1.s _ _ h2), fun p' hp => q _ _ _ (s1.trans (Stp.new s1.s hp)) ⟨p', _, rfl, upd_same, ?_⟩⟩
    exact rpl_upd (s1.s.free hp) (paired_rev h3)⟩
end
/-- what a conditional expression makes -/
theorem eo_if {X : Cx} {c : CL} {Γ : List Sl} {pos : Pos} {cnd a e : Expr} {z : Bool} {β : Type 1} [Ow β] {b : β} (ht : T X c Γ cnd z) (h1 : z = true → EO X c Γ a b) (h2 : z = false → EO X c Γ e b) : EO X c Γ (.IfExp cnd a e pos) b := fun _ _ σ Hf H g Q k =>
  ⟨_, pe_ifExp pt_w pe_w pe_w, ht _ _ σ Hf H g _ fun Hf1 H1 s1 => by
    cases z with
    | true => exact h1 rfl _ _ σ Hf1 H1 (g.step s1) _ fun v R Hf2 H2 s2 hR ho => k v R Hf2 H2 (s1.trans s2) (fun a ha => ⟨s1.h.free (hR a ha).1, (hR a ha).2⟩) ho
    | false => exact h2 rfl _ _ σ Hf1 H1 (g.step s1) _ fun v R Hf2 H2 s2 hR ho => k v R Hf2 H2 (s1.trans s2) (fun a ha => ⟨s1.h.free (hR a ha).1, (hR a ha).2⟩) ho⟩
end Pv
set_option maxHeartbeats 0
/-! Dicts made by a comprehension that a def may change; new cells -/
namespace Pv
open Rp (rp)
open Ow (ow)
open Da (toD)
open PySem L2
section
variable {X : Cx} {c : CL} {Γ : List Sl} {α β : Type} [Rp α] [Rp β] {xs : List α} {tg iter kx vx : Expr} {ifs : List Expr} {scope : Scope} {vs ts : List Nat} {p : α → Bool} {kf : α → List Int} {f : α → β} {gf : α → List Sl → List Sl}
theorem eo_dcT {own : List (Str × Nat)} {pos : Pos} (hu : X.A.units + 1 < cLine) (hc : X.calm = true) (hN : X.N.Nodup) (ok : blkC X.N X.env.scope scope own = true) (hv : vs = own.map (·.2)) (hi : I X c Γ tg iter xs) (hts : ∀ j ∈ ts, j ∈ vs) (hl : xs.length < 1000000) (hg : ∀ x, x ∈ xs → Blk X scope fun Y => G Y c tg x ts (gf x))
    (ht : ∀ x, x ∈ xs → Blk X scope fun Y => Ts Y c (gf x (wipeG Γ vs)) ifs (p x)) (hk : ∀ x, x ∈ xs → p x = true → Blk X scope fun Y => E Y c (gf x (wipeG Γ vs)) kx (⟨kf x⟩ : Tup Int)) (he : ∀ x, x ∈ xs → p x = true → Blk X scope fun Y => E Y c (gf x (wipeG Γ vs)) vx (f x)) (hs : ∀ x, foldedSetIterable iter X.env x = pure x := by intro _; rfl) :
    EO X c Γ (.DictComp kx vx [⟨tg, iter, ifs, 0⟩] scope pos) (OwD.mk (dtOf ((xs.filter p).map fun x => (kf x, f x)))) := fun _ _ σ Hf H g Q k => by
  subst hv
  refine ⟨_, pe_dcT (.inr rfl) hu hc hN pi_w (blkOk_by ok) pg_b pts_b pe_b pe_b hs, ?_⟩
  refine hi _ _ σ Hf H g _ fun J Hf1 H1 s1 wk => fun D hD => ?_
  have hD1 : Hf1 D = none := s1.s.free hD
  refine ⟨fun i m H2 => m = xs.length - i ∧ i ≤ xs.length ∧ ∃ Hf2 us, Stp Hf1 H1 Hf2 H2 ∧ Hf2 D = none ∧ H2 D = some (.dT us) ∧ us.length ≤ i ∧ DR X.K c Hf2 us (dtOf (((xs.take i).filter p).map fun x => (kf x, f x))),
    ⟨xs.length, rfl, Nat.zero_le _, Hf1, [], ⟨Same.refl _, same_new hD, s1.s.trans (same_new hD), fun _ _ z _ _ => z⟩, hD1, upd_same, Nat.zero_le _, .nil⟩, ?_⟩
  rintro i m H2 ⟨rfl, hil, Hf2, us, s2, hD2, hu2, hus, ru⟩
  by_cases hlt : i < xs.length
  · refine .inr ⟨wk.go i H2 hlt (s2.f.trans s2.s), fun H3 => (i + 1) ≤ xs.length ∧ ∃ Hf3 us, Stp Hf1 H1 Hf3 H3 ∧ Hf3 D = none ∧ H3 D = some (.dT us) ∧ us.length ≤ i + 1 ∧ DR X.K c Hf3 us (dtOf (((xs.take (i + 1)).filter p).map fun x => (kf x, f x))), fun H3 h3 => ⟨xs.length - (i + 1), by omega, rfl, h3⟩, fun x H3 y => ?_⟩
    obtain ⟨Hf3, s3, a, ha, ra⟩ := wk.yld i Hf2 H2 x H3 s2.f s2.s hlt y
    have hm : a ∈ xs := List.mem_of_getElem? ha
    have g1 := (g.step s1).step (s2.trans s3)
    intro bs bH bC bcl bfp
    refine hg a hm bs bH bC bcl bfp _ _ _ _ Hf3 H3 (g1.wipe _) x ra _ fun σ2 g2' w2 => ?_
    have g2 := g2' _ _ _ (g1.wipe _)
    refine ⟨(wipe_ext hts w2).trans wipe_wipe, fun cs cH cC ccl cfp => ht a hm cs cH cC ccl cfp _ _ σ2 Hf3 H3 g2 _ fun Hf4 H4 s4 => ?_⟩
    have s24 := s2.trans (s3.trans s4)
    have e1 : xs.take (i + 1) = xs.take i ++ [a] := take_succ' ha
    have hD4 : H4 D = some (.dT us) := s4.h _ _ (s3.h _ _ hu2)
    have hDf4 : Hf4 D = none := s4.d _ _ (s3.d _ _ hD2 hu2 trivial) (s3.h _ _ hu2) trivial
    cases hp : p a with
    | false =>
      rw [if_neg Bool.false_ne_true]
      refine ⟨hlt, Hf4, us, s24, hDf4, hD4, by omega, ?_⟩
      rw [e1, List.filter_append, List.filter_cons_of_neg (by rw [hp]; exact Bool.false_ne_true), List.filter_nil, List.append_nil]
      exact ru.mono (s3.f.trans s4.f)
    | true =>
      rw [if_pos rfl]
      refine fun ks kH kC kcl kfp => hk a hm hp ks kH kC kcl kfp _ _ σ2 Hf4 H4 (g2.step s4) _ fun w Hf5 H5 s5 r5 => ?_
      refine fun es eH eC ecl efp => he a hm hp es eH eC ecl efp _ _ σ2 Hf5 H5 ((g2.step s4).step s5) _ fun w2 Hf6 H6 s6 r6 => ?_
      have hD5 : H5 D = some (.dT us) := s5.h _ _ hD4
      have hDf5 : Hf5 D = none := s5.d _ _ hDf4 hD4 trivial
      have hDf6 : Hf6 D = none := s6.d _ _ hDf5 hD5 trivial
      have hD6 := s6.h _ _ hD5
      have s26 := s24.trans (s5.trans s6)
      obtain ⟨q, ws, rfl, h2, h3⟩ := r5
      have hw : ws = (kT (kf a)).map kV := by rw [kT_kV]; exact rpl_ints h3
      refine ⟨us, kT (kf a), q, rfl, hD6, by rw [← hw]; exact s6.h _ _ (s5.s _ _ h2), Nat.lt_of_le_of_lt hus (Nat.lt_of_lt_of_le (Nat.lt_trans hlt hl) (by decide)), hlt, Hf6, _, ⟨s26.f, fun b o e => ?_, fun b o e => ?_, s26.d⟩, hDf6, upd_same, ?_, ?_⟩
      · rw [upd_ne (ne_of_none e hD)]; exact s26.h b o e
      · rw [upd_ne (ne_of_none e hDf6)]; exact s26.s b o e
      · have := length_putK us (kT (kf a)) w2; omega
      · rw [e1, List.filter_append, List.filter_cons_of_pos hp, List.filter_nil, List.map_append]
        unfold dtOf at ru ⊢
        rw [List.foldl_append]
        exact DR.put (ru.mono ((s3.f.trans s4.f).trans (s5.f.trans s6.f))) _ r6
  · have e : i = xs.length := by omega
    subst e
    rw [List.take_length] at ru
    exact .inl ⟨wk.stop H2 (s2.f.trans s2.s), k _ [D] Hf2 H2 (s1.trans s2) (fun a ha => by rw [List.mem_singleton.mp ha]; exact ⟨s1.h.free hD, hD2⟩) ⟨D, us, rfl, rfl, hu2, ru⟩⟩
end
/-- two clauses, no tests -/
theorem eo_dc2 {X : Cx} {c : CL} {Γ : List Sl} {α β γ : Type} [Rp α] [Rp β] [Rp γ] {xs : List α} {ys : α → List β} {ta ia tb ib kx vx : Expr} {scope : Scope} {vs v1 ts ts1 : List Nat} {kf : α → β → List Int} {f : α → β → γ} {gf : α → List Sl → List Sl} {gf1 : α → β → List Sl → List Sl} {own : List (Str × Nat)} {pos : Pos}
    (hu : X.A.units + 1 < cLine) (hc : X.calm = true) (hN : X.N.Nodup) (ok : blkC X.N X.env.scope scope own = true) (hv : vs = own.map (·.2)) (hv1 : ∀ i ∈ v1, i ∈ own.map (·.2)) (hi : I X c Γ ta ia xs) (hts : ∀ j ∈ ts, j ∈ vs) (hts1 : ∀ j ∈ ts1, j ∈ v1) (hl : (xs.flatMap fun x => (ys x).map fun y => (kf x y, f x y)).length < 1000000)
    (hg : ∀ x, x ∈ xs → Blk X scope fun Y => G Y c ta x ts (gf x)) (hi1 : ∀ x, x ∈ xs → Blk X scope fun Y => I Y c (gf x (wipeG Γ vs)) tb ib (ys x)) (hg1 : ∀ x, x ∈ xs → ∀ y, y ∈ ys x → Blk X scope fun Y => G Y c tb y ts1 (gf1 x y))
    (hk : ∀ x, x ∈ xs → ∀ y, y ∈ ys x → Blk X scope fun Y => E Y c (gf1 x y (wipeG (gf x (wipeG Γ vs)) v1)) kx (⟨kf x y⟩ : Tup Int)) (he : ∀ x, x ∈ xs → ∀ y, y ∈ ys x → Blk X scope fun Y => E Y c (gf1 x y (wipeG (gf x (wipeG Γ vs)) v1)) vx (f x y))
    (hs : ∀ x, foldedSetIterable ia X.env x = pure x := by intro _; rfl) (hs1 : ∀ env x, foldedSetIterable ib env x = pure x := by intro _ _; rfl) :
    EO X c Γ (.DictComp kx vx [⟨ta, ia, [], 0⟩, ⟨tb, ib, [], 0⟩] scope pos) (OwD.mk (dtOf (xs.flatMap fun x => (ys x).map fun y => (kf x y, f x y)))) := fun H0f H0 σ Hf H g Q k => by
  subst hv
  refine ⟨_, pe_dc2 hu hc hN pi_w (blkOk_by ok) hv1 pg_b pi_b pg_b pe_b pe_b hs hs1, ?_⟩
  refine hi _ _ σ Hf H g _ fun J Hf1 H1 s1 wk => fun D hD => ?_
  have hD1 : Hf1 D = none := s1.s.free hD
  have lt0 : ∀ i, ((xs.take i).flatMap fun x => (ys x).map fun y => (kf x y, f x y)).length ≤ (xs.flatMap fun x => (ys x).map fun y => (kf x y, f x y)).length := fun i => by
    have z : (xs.flatMap fun x => (ys x).map fun y => (kf x y, f x y)) = ((xs.take i).flatMap fun x => (ys x).map fun y => (kf x y, f x y)) ++ ((xs.drop i).flatMap fun x => (ys x).map fun y => (kf x y, f x y)) := by rw [← List.flatMap_append, List.take_append_drop]
    rw [z, List.length_append]; omega
  refine ⟨fun i m H2 => m = xs.length - i ∧ i ≤ xs.length ∧ ∃ Hf2 us, Stp Hf1 H1 Hf2 H2 ∧ Hf2 D = none ∧ H2 D = some (.dT us) ∧ us.length ≤ ((xs.take i).flatMap fun x => (ys x).map fun y => (kf x y, f x y)).length ∧ DR X.K c Hf2 us (dtOf ((xs.take i).flatMap fun x => (ys x).map fun y => (kf x y, f x y))),
    ⟨xs.length, rfl, Nat.zero_le _, Hf1, [], ⟨Same.refl _, same_new hD, s1.s.trans (same_new hD), fun _ _ z _ _ => z⟩, hD1, upd_same, Nat.zero_le _, .nil⟩, ?_⟩
  rintro i m H2 ⟨rfl, hil, Hf2, us, s2, hD2, hu2, hus, ru⟩
  by_cases hlt : i < xs.length
  · refine .inr ⟨wk.go i H2 hlt (s2.f.trans s2.s), fun H3 => (i + 1) ≤ xs.length ∧ ∃ Hf3 us, Stp Hf1 H1 Hf3 H3 ∧ Hf3 D = none ∧ H3 D = some (.dT us) ∧ us.length ≤ ((xs.take (i + 1)).flatMap fun x => (ys x).map fun y => (kf x y, f x y)).length ∧ DR X.K c Hf3 us (dtOf ((xs.take (i + 1)).flatMap fun x => (ys x).map fun y => (kf x y, f x y))), fun H3 h3 => ⟨xs.length - (i + 1), by omega, rfl, h3⟩, fun x H3 y => ?_⟩
    obtain ⟨Hf3, s3, a, ha, ra⟩ := wk.yld i Hf2 H2 x H3 s2.f s2.s hlt y
    have hm : a ∈ xs := List.mem_of_getElem? ha
    have hD3 : H3 D = some (.dT us) := s3.h _ _ hu2
    have hDf3 : Hf3 D = none := s3.d _ _ hD2 hu2 trivial
    have g0 : EnvOk X.K c H0f H0 Hf3 (Pv.del H3 D) σ Γ := by
      have z2 : Stp Hf1 H1 Hf3 (Pv.del H3 D) := ⟨(s2.trans s3).f, fun b o e => by rw [del_ne (ne_of_none e hD)]; exact (s2.trans s3).h b o e, fun b o e => by rw [del_ne (ne_of_none e hDf3)]; exact s3.s b o e, (s2.trans s3).d⟩
      exact (g.step s1).step z2
    intro bs bH bC bcl bfp
    refine hg a hm bs bH bC bcl bfp _ _ _ _ Hf3 H3 ((g0.wipe _).up del_same) x ra _ fun σ2 g2' w2 => ?_
    have g2 := g2' _ _ _ (g0.wipe _)
    have e1 : xs.take (i + 1) = xs.take i ++ [a] := take_succ' ha
    have e2 : ((xs.take (i + 1)).flatMap fun x => (ys x).map fun y => (kf x y, f x y)) = ((xs.take i).flatMap fun x => (ys x).map fun y => (kf x y, f x y)) ++ (ys a).map fun y => (kf a y, f a y) := by
      rw [e1, List.flatMap_append, List.flatMap_cons, List.flatMap_nil, List.append_nil]
    have hz := lt0 (i + 1)
    rw [e2] at hz ⊢
    generalize ((xs.take i).flatMap fun x => (ys x).map fun y => (kf x y, f x y)) = L at ru hus hz
    refine ⟨(wipe_ext hts w2).trans wipe_wipe, fun ds dH dC dcl dfp => hi1 a hm ds dH dC dcl dfp _ _ σ2 Hf3 H3 (g2.up del_same) _ fun J1 Hf5 H5 s5 wk1 => ?_⟩
    have hD5 : H5 D = some (.dT us) := s5.h _ _ hD3
    have hDf5 : Hf5 D = none := s5.d _ _ hDf3 hD3 trivial
    refine ⟨fun j m H6 => m = (ys a).length - j ∧ j ≤ (ys a).length ∧ ∃ Hf6 ws, Same Hf5 Hf6 ∧ EnvOk X.K c H0f H0 Hf6 (Pv.del H6 D) σ2 (gf a (wipeG Γ (own.map (·.2)))) ∧ Stp Hf1 H1 Hf6 H6 ∧ Hf6 D = none ∧ H6 D = some (.dT ws) ∧ ws.length ≤ L.length + j ∧ DR X.K c Hf6 ws (dtOf (L ++ ((ys a).take j).map fun y => (kf a y, f a y))),
      ⟨(ys a).length, rfl, Nat.zero_le _, Hf5, us, Same.refl _, g2.step (s5.del hDf5), (s2.trans s3).trans s5, hDf5, hD5, hus, ?_⟩, ?_⟩
    · rw [List.take_zero, List.map_nil, List.append_nil]
      exact ru.mono (s3.f.trans s5.f)
    rintro j m H6 ⟨rfl, hjl, Hf6, ws, s56, g6, s26, hDf6, hD6, hws, rw6⟩
    by_cases hjt : j < (ys a).length
    · refine .inr ⟨wk1.go j H6 hjt (s56.trans s26.s), fun H7 => (j + 1) ≤ (ys a).length ∧ ∃ Hf7 ws, Same Hf5 Hf7 ∧ EnvOk X.K c H0f H0 Hf7 (Pv.del H7 D) σ2 (gf a (wipeG Γ (own.map (·.2)))) ∧ Stp Hf1 H1 Hf7 H7 ∧ Hf7 D = none ∧ H7 D = some (.dT ws) ∧ ws.length ≤ L.length + (j + 1) ∧ DR X.K c Hf7 ws (dtOf (L ++ ((ys a).take (j + 1)).map fun y => (kf a y, f a y))), fun H7 h7 => ⟨(ys a).length - (j + 1), by omega, rfl, h7⟩, fun x2 H7 y2 => ?_⟩
      obtain ⟨Hf7, s7, b, hb, rb⟩ := wk1.yld j Hf6 H6 x2 H7 s56 s26.s hjt y2
      have hmb : b ∈ ys a := List.mem_of_getElem? hb
      have hDf7 : Hf7 D = none := s7.d _ _ hDf6 hD6 trivial
      have hD7 : H7 D = some (.dT ws) := s7.h _ _ hD6
      have g7 := g6.step (s7.del hDf7)
      intro fs fH fC fcl ffp
      refine hg1 a hm b hmb fs fH fC fcl ffp _ _ _ _ Hf7 H7 ((g7.wipe v1).up del_same) x2 rb _ fun σ3 g3' w3 => ?_
      have g8 := g3' _ _ _ (g7.wipe v1)
      refine ⟨(wipe_ext hts1 w3).trans wipe_wipe, fun ks kH kC kcl kfp => hk a hm b hmb ks kH kC kcl kfp _ _ σ3 Hf7 H7 (g8.up del_same) _ fun w Hf8 H8 s8 r8 => ?_⟩
      have hDf8 : Hf8 D = none := s8.d _ _ hDf7 hD7 trivial
      have hD8 : H8 D = some (.dT ws) := s8.h _ _ hD7
      refine fun es eH eC ecl efp => he a hm b hmb es eH eC ecl efp _ _ σ3 Hf8 H8 ((g8.up del_same).step s8) _ fun w2 Hf9 H9 s9 r9 => ?_
      have hDf9 : Hf9 D = none := s9.d _ _ hDf8 hD8 trivial
      have hD9 : H9 D = some (.dT ws) := s9.h _ _ hD8
      have s29 := s26.trans (s7.trans (s8.trans s9))
      have e3 : (ys a).take (j + 1) = (ys a).take j ++ [b] := take_succ' hb
      obtain ⟨q, us8, rfl, h2, h3⟩ := r8
      have hw : us8 = (kT (kf a b)).map kV := by rw [kT_kV]; exact rpl_ints h3
      have hlen : ws.length < 1000000 := by
        rw [List.length_append, List.length_map] at hz
        omega
      refine ⟨ws, kT (kf a b), q, rfl, hD9, by rw [← hw]; exact s9.h _ _ (s8.s _ _ h2), Nat.lt_of_lt_of_le hlen (by decide), hjt, Hf9, _, s56.trans (s7.f.trans (s8.f.trans s9.f)), ?_, ⟨s29.f, fun b o e => ?_, fun b o e => ?_, s29.d⟩, hDf9, upd_same, ?_, ?_⟩
      · rw [del_upd]
        exact (g7.step (s8.del hDf8)).step (s9.del hDf9)
      · rw [upd_ne (ne_of_none e hD)]; exact s29.h b o e
      · rw [upd_ne (ne_of_none e hDf9)]; exact s29.s b o e
      · have := length_putK ws (kT (kf a b)) w2; omega
      · rw [e3, List.map_append, ← List.append_assoc]
        unfold dtOf at rw6 ⊢
        rw [List.foldl_append]
        exact DR.put (rw6.mono (s7.f.trans (s8.f.trans s9.f))) _ r9
    · have e : j = (ys a).length := by omega
      subst e
      rw [List.take_length] at rw6
      exact .inl ⟨wk1.stop H6 (s56.trans s26.s), by omega, Hf6, ws, s26, hDf6, hD6, by rw [List.length_append, List.length_map]; omega, rw6⟩
  · have e : i = xs.length := by omega
    subst e
    rw [List.take_length] at ru
    exact .inl ⟨wk.stop H2 (s2.f.trans s2.s), k _ [D] Hf2 H2 (s1.trans s2) (fun a ha => by rw [List.mem_singleton.mp ha]; exact ⟨s1.h.free hD, hD2⟩) ⟨D, us, rfl, rfl, hu2, ru⟩⟩
/-! ### new cells -/
def Cells {ι : Type} (K : PySem.W.Frag) (c : CL) (Hb Hf H : Hp) (ks : List ι) (ad : ι → Addr) (ce : ι → Ce) : Prop := (ks.map ad).Nodup ∧ ∀ i ∈ ks, Hb (ad i) = none ∧ Hf (ad i) = none ∧ ∃ o, H (ad i) = some o ∧ (ce i).ok K c Hf o
theorem Cells.step {ι : Type} {K : PySem.W.Frag} {c : CL} {Hb Hf H Hf' H' : Hp} {ks : List ι} {ad : ι → Addr} {ce : ι → Ce} (s : Stp Hf H Hf' H') (h : Cells K c Hb Hf H ks ad ce) : Cells K c Hb Hf' H' ks ad ce :=
  ⟨h.1, fun i hi => by
    obtain ⟨h1, h2, o, h3, h4⟩ := h.2 i hi
    exact ⟨h1, s.d _ _ h2 h3 (Ce.nt _ h4), o, s.h _ _ h3, Ce.mono _ s.f h4⟩⟩
/-- e gives z, and makes cells that nobody else has -/
def EC {ι : Type} (X : Cx) (c : CL) (Γ : List Sl) (e : Expr) {α : Type} [Rp α] (ks : List ι) (ce : ι → Ce) (z : (ι → Addr) → α) : Prop :=
  ∀ (H0f H0 : Hp) (σ : L2.St) (Hf H : Hp), EnvOk X.K c H0f H0 Hf H σ Γ → ∀ Q : VK, (∀ v ad Hf' H', Stp Hf H Hf' H' → Cells X.K c H Hf' H' ks ad ce → rp X.K c Hf' v (z ad) → Q v H') → wE X e σ H Q
section
variable {ι : Type} {X : Cx} {c : CL} {Γ : List Sl} {e : Expr} {k : ι} {ce : ι → Ce}
theorem ec_d {α : Type} [Rp α] {l : List (List Int × α)} (h : EO X c Γ e (OwD.mk l)) (hc : ce k = ceD l) : EC X c Γ e [k] ce (fun ad => Adr.mk (ad k)) := fun _ _ σ Hf H g Q q => h _ _ σ Hf H g Q fun v R Hf1 H1 s1 hR ho => by
  obtain ⟨p, kvs, rfl, rfl, h3, h4⟩ := ho
  refine q _ (fun _ => p) Hf1 H1 s1 ⟨List.nodup_cons.mpr ⟨by simp, List.nodup_nil⟩, fun i hi => ?_⟩ rfl
  rw [List.mem_singleton.mp hi]
  exact ⟨(hR p List.mem_cons_self).1, (hR p List.mem_cons_self).2, _, h3, by rw [hc]; exact ⟨kvs, rfl, h4⟩⟩
theorem ec_l {α : Type} [Rp α] {l : List α} (h : EO X c Γ e (OwL.mk l)) (hc : ce k = ceL l) : EC X c Γ e [k] ce (fun ad => Adr.mk (ad k)) := fun _ _ σ Hf H g Q q => h _ _ σ Hf H g Q fun v R Hf1 H1 s1 hR ho => by
  obtain ⟨p, kvs, rfl, rfl, h3, h4⟩ := ho
  refine q _ (fun _ => p) Hf1 H1 s1 ⟨List.nodup_cons.mpr ⟨by simp, List.nodup_nil⟩, fun i hi => ?_⟩ rfl
  rw [List.mem_singleton.mp hi]
  exact ⟨(hR p List.mem_cons_self).1, (hR p List.mem_cons_self).2, _, h3, by rw [hc]; exact ⟨kvs, rfl, h4⟩⟩
end
section
variable {ι : Type} [DecidableEq ι] {X : Cx} {c : CL} {Γ : List Sl} {α : Type} [Rp α] {xs : List α} {tg iter elt kx : Expr} {scope : Scope} {vs ts : List Nat} {gf : α → List Sl → List Sl} {ck : α → ι} {ce : ι → Ce} {own : List (Str × Nat)} {pos : Pos} {kf : α → List Int}
theorem Cells.snoc {K : PySem.W.Frag} {Hb Hf H : Hp} {ks : List ι} {ad ad' : ι → Addr} {k : ι} (h : Cells K c Hb Hf H ks ad ce) (hk : k ∉ ks) (hp : ∀ i ∈ ks, ad i ≠ ad' k) (h1 : Hb (ad' k) = none) (h2 : Hf (ad' k) = none) {o : HO} (h3 : H (ad' k) = some o) (h4 : (ce k).ok K c Hf o) : Cells K c Hb Hf H (ks ++ [k]) (fun i => if i = k then ad' k else ad i) ce := by
  have e : ks.map (fun i => if i = k then ad' k else ad i) = ks.map ad := List.map_congr_left fun i hi => if_neg fun z => hk (by rw [← z]; exact hi)
  refine ⟨?_, fun i hi => ?_⟩
  · rw [List.map_append, e, List.map_singleton, if_pos rfl, List.nodup_append]
    refine ⟨h.1, by simp, fun a ha b hb z => ?_⟩
    obtain ⟨i, hi, rfl⟩ := List.mem_map.mp ha
    rw [List.mem_singleton.mp hb] at z
    exact hp i hi z
  · show Hb (if i = k then ad' k else ad i) = none ∧ Hf (if i = k then ad' k else ad i) = none ∧ ∃ o, H (if i = k then ad' k else ad i) = some o ∧ _
    by_cases z : i = k
    · rw [if_pos z, z]; exact ⟨h1, h2, o, h3, h4⟩
    · rw [if_neg z]
      rcases List.mem_append.mp hi with y | y
      · exact h.2 i y
      · exact absurd (List.mem_singleton.mp y) z
/-- [e for x in ..], each e a new cell -/
theorem ec_lc (hc : X.calm = true) (hN : X.N.Nodup) (ok : blkC X.N X.env.scope scope own = true) (hv : vs = own.map (·.2)) (hi : I X c Γ tg iter xs) (hts : ∀ j ∈ ts, j ∈ vs) (hl : xs.length < 1000000) (hnd : (xs.map ck).Nodup) (hg : ∀ x, x ∈ xs → Blk X scope fun Y => G Y c tg x ts (gf x))
    (he : ∀ x, x ∈ xs → Blk X scope fun Y => EC Y c (gf x (wipeG Γ vs)) elt [ck x] ce (fun ad => Adr.mk (ad (ck x)))) (hs : ∀ x, foldedSetIterable iter X.env x = pure x := by intro _; rfl) :
    EC X c Γ (.ListComp elt [⟨tg, iter, [], 0⟩] scope pos) (xs.map ck) ce (fun ad => xs.map fun x => Adr.mk (ad (ck x))) := fun H0f H0 σ Hf H g Q k => by
  subst hv
  have ht : ∀ x, Blk X scope fun Y => Ts Y c (gf x (wipeG Γ (own.map (·.2)))) [] true := fun x _ _ _ _ _ => ts_nil
  refine ⟨_, pe_lc hc hN pi_w (blkOk_by ok) pg_b pts_b pe_b hs, ?_⟩
  refine hi _ _ σ Hf H g _ fun J Hf1 H1 s1 wk => fun D hD => ?_
  have hD1 : Hf1 D = none := s1.s.free hD
  refine ⟨fun i m H2 => m = xs.length - i ∧ i ≤ xs.length ∧ ∃ Hf2 ad, Stp Hf1 H1 Hf2 H2 ∧ Hf2 D = none ∧ H2 D = some (.lst ((xs.take i).map fun x => V.ref (ad (ck x)))) ∧ Cells X.K c H1 Hf2 H2 ((xs.take i).map ck) ad ce ∧ ∀ j ∈ (xs.take i).map ck, ad j ≠ D,
    ⟨xs.length, rfl, Nat.zero_le _, Hf1, fun _ => 0, ⟨Same.refl _, same_new hD, s1.s.trans (same_new hD), fun _ _ z _ _ => z⟩, hD1, upd_same, ⟨List.nodup_nil, fun i hi => by cases hi⟩, fun j hj => by cases hj⟩, ?_⟩
  rintro i m H2 ⟨rfl, hil, Hf2, ad, s2, hD2, hu, hcl, hne⟩
  by_cases hlt : i < xs.length
  · refine .inr ⟨wk.go i H2 hlt (s2.f.trans s2.s), fun H3 => (i + 1) ≤ xs.length ∧ ∃ Hf3 ad, Stp Hf1 H1 Hf3 H3 ∧ Hf3 D = none ∧ H3 D = some (.lst ((xs.take (i + 1)).map fun x => V.ref (ad (ck x)))) ∧ Cells X.K c H1 Hf3 H3 ((xs.take (i + 1)).map ck) ad ce ∧ ∀ j ∈ (xs.take (i + 1)).map ck, ad j ≠ D, fun H3 h3 => ⟨xs.length - (i + 1), by omega, rfl, h3⟩, fun x H3 y => ?_⟩
    obtain ⟨Hf3, s3, a, ha, ra⟩ := wk.yld i Hf2 H2 x H3 s2.f s2.s hlt y
    have hm : a ∈ xs := List.mem_of_getElem? ha
    have g1 := (g.step s1).step (s2.trans s3)
    intro bs bH bC bcl bfp
    refine hg a hm bs bH bC bcl bfp _ _ _ _ Hf3 H3 (g1.wipe _) x ra _ fun σ2 g2' w2 => ?_
    have g2 := g2' _ _ _ (g1.wipe _)
    refine ⟨(wipe_ext hts w2).trans wipe_wipe, fun cs cH cC ccl cfp => ht a cs cH cC ccl cfp _ _ σ2 Hf3 H3 g2 _ fun Hf4 H4 s4 => ?_⟩
    rw [if_pos rfl]
    refine fun es eH eC ecl efp => he a hm es eH eC ecl efp _ _ σ2 Hf4 H4 (g2.step s4) _ fun w ad' Hf5 H5 s5 hc5 r5 => ?_
    have hD4 := s4.h _ _ (s3.h _ _ hu)
    have hDf4 : Hf4 D = none := s4.d _ _ (s3.d _ _ hD2 hu trivial) (s3.h _ _ hu) trivial
    have hDf5 : Hf5 D = none := s5.d _ _ hDf4 hD4 trivial
    have s25 := (s2.trans (s3.trans s4)).trans s5
    obtain ⟨_, hc5⟩ := hc5
    obtain ⟨c1, c2, o5, c3, c4⟩ := hc5 (ck a) List.mem_cons_self
    have e1 : xs.take (i + 1) = xs.take i ++ [a] := take_succ' ha
    have hnew : ck a ∉ (xs.take i).map ck := fun z => by
      have : ((xs.take (i + 1)).map ck).Nodup := hnd.sublist ((List.take_sublist _ _).map _)
      rw [e1, List.map_append, List.nodup_append] at this
      exact this.2.2 _ z _ (by simp) rfl
    have hold := hcl.step ((s3.trans s4).trans s5)
    have hdist : ∀ j ∈ (xs.take i).map ck, ad j ≠ ad' (ck a) := fun j hj z => by
      obtain ⟨_, _, o, q3, _⟩ := (hcl.step (s3.trans s4)).2 j hj
      rw [z, c1] at q3; cases q3
    have hda : ad' (ck a) ≠ D := fun z => by rw [z, hD4] at c1; cases c1
    have c1' : H1 (ad' (ck a)) = none := (s2.trans (s3.trans s4)).h.free c1
    refine ⟨_, s5.h _ _ hD4, by rw [List.length_map, List.length_take, sizeLine_eq]; omega, hlt, Hf5, fun j => if j = ck a then ad' (ck a) else ad j, ⟨s25.f, fun b o e => ?_, fun b o e => ?_, s25.d⟩, hDf5, ?_, ?_, ?_⟩
    · rw [upd_ne (ne_of_none e hD)]; exact s25.h b o e
    · rw [upd_ne (ne_of_none e hDf5)]; exact s25.s b o e
    · rw [upd_same, e1, List.map_append, List.map_singleton]
      show some (HO.lst ((xs.take i).map (fun x => V.ref (ad (ck x))) ++ [w])) = some (HO.lst ((xs.take i).map (fun x => V.ref (if ck x = ck a then ad' (ck a) else ad (ck x))) ++ [V.ref (if ck a = ck a then ad' (ck a) else ad (ck a))]))
      rw [if_pos rfl]
      have : (xs.take i).map (fun x => V.ref (if ck x = ck a then ad' (ck a) else ad (ck x))) = (xs.take i).map fun x => V.ref (ad (ck x)) := List.map_congr_left fun x hx => by
        rw [if_neg fun z => hnew (by rw [← z]; exact List.mem_map_of_mem hx)]
      rw [this, show w = V.ref (ad' (ck a)) from r5]
    · rw [e1, List.map_append, List.map_singleton]
      have z := hold.snoc hnew hdist c1' c2 c3 c4
      exact ⟨z.1, fun j hj => by
        obtain ⟨y1, y2, o, y3, y4⟩ := z.2 j hj
        refine ⟨y1, y2, o, ?_, y4⟩
        rw [upd_ne fun y => ?_]
        · exact y3
        · rcases List.mem_append.mp hj with w | w
          · have w2 : j ≠ ck a := fun q => hnew (by rw [← q]; exact w)
            simp only [if_neg w2] at y
            exact hne j w y
          · simp only [List.mem_singleton.mp w, if_pos] at y
            exact hda y⟩
    · intro j hj
      rw [e1, List.map_append] at hj
      rcases List.mem_append.mp hj with w | w
      · have w2 : j ≠ ck a := fun q => hnew (by rw [← q]; exact w)
        simp only [if_neg w2]
        exact hne j w
      · have w := List.mem_singleton.mp w
        simp only [w, if_pos]
        exact hda
  · have e : i = xs.length := by omega
    subst e
    refine .inl ⟨wk.stop H2 (s2.f.trans s2.s), ?_⟩
    rw [List.take_length] at hu hcl hne
    have s02 := s1.trans s2
    refine k _ ad (upd Hf2 D (.lst (xs.map fun x => V.ref (ad (ck x))))) H2 ⟨fun b o z => ?_, s02.h, fun b o z => ?_, fun b o z z' n => ?_⟩ ⟨hcl.1, fun j hj => ?_⟩ ⟨D, _, rfl, .inl (.inl upd_same), ?_⟩
    · rw [upd_ne (ne_of_none (s02.f b o z) hD2)]; exact s02.f b o z
    · by_cases q : b = D
      · subst q; rw [upd_same] at z; rw [hu]; exact z
      · rw [upd_ne q] at z; exact s02.s b o z
    · rw [upd_ne (ne_of_none (s1.h _ _ z') hD)]; exact s02.d b o z z' n
    · obtain ⟨y1, y2, o, y3, y4⟩ := hcl.2 j hj
      refine ⟨s1.h.free y1, ?_, o, y3, Ce.mono _ (same_new hD2) y4⟩
      rw [upd_ne (hne j hj)]; exact y2
    · have : ∀ l : List α, RpL X.K c (upd Hf2 D (.lst (xs.map fun x => V.ref (ad (ck x))))) (l.map fun x => V.ref (ad (ck x))) (l.map fun x => Adr.mk (ad (ck x))) := fun l => by
        induction l with
        | nil => exact .nil
        | cons a l ih => exact .cons rfl ih
      exact this xs
end
end Pv
set_option maxHeartbeats 0
/-! Lists that are cells of a bag: pop(0), l[i] = e, l[i] += e, remove, extend; an object's field -/
namespace Pv
open Rp (rp)
open Ow (ow)
open Da (toD)
open PySem L2
section
variable {X : Cx} {c : CL} {Γ : List Sl} {W : WX} {D : En} {rest : List Stmt} {pos p0 p1 p2 p3 apos : Pos} {a e i ix o : Expr} {es : List Expr} {ι : Type} [DecidableEq ι] {b : Bc ι} {k : ι}
theorem cellL {K : PySem.W.Frag} {H0f H0 Hf H : Hp} {σ : L2.St} {s : Nat} {α : Type} [Rp α] {xs : List α} (g : EnvOk K c H0f H0 Hf H σ Γ) (hΓ : Γ[s]? = some (.own (Bg.mk b))) (hk : k ∈ b.ks) (hc : b.ce k = ceL xs) : ∃ vs, H (b.ad k) = some (.lst vs) ∧ RpL K c Hf vs xs := by
  obtain ⟨_, _, _, ⟨_, _, _, h4⟩, _, _⟩ := g.own hΓ
  obtain ⟨u, h1, h2⟩ := h4 k hk
  rw [hc] at h2
  obtain ⟨vs, rfl, h3⟩ := h2
  exact ⟨vs, h1, h3⟩
/-- l.pop(0), l a cell -/
theorem em_popB (s : Nat) {α : Type} [Rp α] {y : α} {ys : List α} {j : Nat} {q : Pos} (hΓ : Γ[s]? = some (.own (Bg.mk b))) (hk : k ∈ b.ks) (hc : b.ce k = ceL (y :: ys)) (ha : E X c Γ a (Adr.mk (b.ad k)))
    (hpe : PE X (.Call (.Attribute a "pop" p2) [.Constant (.int 0) j q] [] p3) (tBM X.K "list" rPopAt (wE X a) (tCons (tC (.int 0)) tNil)) := by exact pe_bm PySem.F.plainAttrs_list PySem.F.slot_list_pop PySem.F.type_list_pop mt_popAt pe_w (pa_cons pe_int pa_nil)) :
    EM X c Γ (.Call (.Attribute a "pop" p2) [.Constant (.int 0) j q] [] p3) y (Γ.set s (.own (Bg.mk (b.put k (ceL ys))))) := fun _ _ σ Hf H g Q kk =>
  ⟨_, hpe, ha _ _ σ Hf H g _ fun w Hf1 H1 s1 r1 => by
    have g1 := g.step s1
    obtain ⟨vs, h1, h3⟩ := cellL g1 hΓ hk hc
    refine ⟨by rw [show w = V.ref (b.ad k) from r1]; exact .inl ⟨rfl, _, SqL.of h1⟩, ?_⟩
    cases h3 with
    | @cons v0 _ vs0 _ r0 rr =>
      refine ⟨b.ad k, v0 :: vs0, 0, 0, v0, r1, rfl, h1, by decide, by decide, ?_, rfl, kk v0 Hf1 _ s1.f (g1.putB hΓ hk ⟨_, rfl, rr⟩) r0⟩
      unfold PySem.seqIndex?
      simp⟩
/-- l[i] = e, l a cell -/
theorem ss_setIxB (s : Nat) {α : Type} [Rp α] {xs : List α} {n : Nat} {v : α} (hΓ : Γ[s]? = some (.own (Bg.mk b))) (hk : k ∈ b.ks) (hc : b.ce k = ceL xs) (he : E X c Γ e v) (ha : E X c Γ a (Adr.mk (b.ad k))) (hi : E X c Γ ix (n : Int)) (hn : n < xs.length) (hr : Ss X c W (Γ.set s (.own (Bg.mk (b.put k (ceL (xs.set n v)))))) rest D)
    (hs : swapsWithSole [.Subscript a ix p2] e pos.line X.env = pure false := by rfl) (hw : swappedStores [.Subscript a ix p2] e X.env = pure none := by rfl) (h1 : (assignEach [.Subscript a ix p2] X.env).map (·.2) = [assign (.Subscript a ix p2) X.env] := by rfl)
    (hasg : ∀ v, assign (.Subscript a ix p2) X.env v = (do
      let ov ← holding [v] (eval a X.env)
      let iv ← holding [v, ov] (eval ix X.env)
      standAt p2
      holding [v, ov, iv] (setItem ov iv v)
      release [v, ov, iv] []) := by intro _; rfl) : Ss X c W Γ (.Assign [.Subscript a ix p2] e pos :: rest) D := fun _ _ σ Hf H g DD kk => by
  refine ⟨_, pss_cons (ps_asg pe_w (pg_sub pe_w pe_w set_list hasg) hs hw h1) pss_w, he _ _ σ Hf H g _ fun u Hf1 H1 s1 r1 => ha _ _ σ Hf1 H1 (g.step s1) _ fun w Hf2 H2 s2 r2 => hi _ _ σ Hf2 H2 ((g.step s1).step s2) _ fun y Hf3 H3 s3 r3 => ?_⟩
  have g3 := ((g.step s1).step s2).step s3
  obtain ⟨vs, h1, h3⟩ := cellL g3 hΓ hk hc
  have r3' : y = .int (n : Int) := r3
  refine ⟨b.ad k, vs, (n : Int), n, r2, r3', h1, ?_, ?_⟩
  · unfold ixN
    rw [if_pos (Int.natCast_nonneg n), if_pos (by rw [h3.len]; exact Int.ofNat_lt.mpr hn)]
    rfl
  · exact hr _ _ σ Hf3 _ (g3.putB hΓ hk ⟨_, rfl, paired_set h3 n (Rp.mono (s2.f.trans s3.f) r1)⟩) DD (kk.mono ((s1.f.trans s2.f).trans s3.f))
/-- l.remove(e) of ints, l a cell -/
theorem ss_remB (s : Nat) {xs : List Int} {x : Int} (hΓ : Γ[s]? = some (.own (Bg.mk b))) (hk : k ∈ b.ks) (hc : b.ce k = ceL xs) (ha : E X c Γ a (Adr.mk (b.ad k))) (h : E X c Γ e x) (hx : x ∈ xs) (hr : Ss X c W (Γ.set s (.own (Bg.mk (b.put k (ceL (xs.erase x)))))) rest D)
    (hpe : PE X (.Call (.Attribute a "remove" p2) [e] [] p3) (tBM X.K "list" rRemI (wE X a) (tCons (wE X e) tNil)) := by exact pe_bm PySem.F.plainAttrs_list PySem.F.slot_list_remove PySem.F.type_list_remove mt_remove pe_w (pa_cons pe_w pa_nil))
    (hs : swapsWith (.Call (.Attribute a "remove" p2) [e] [] p3) none pos.line X.env = pure false := by rfl) : Ss X c W Γ (.Expr (.Call (.Attribute a "remove" p2) [e] [] p3) pos :: rest) D := fun _ _ σ Hf H g DD kk => by
  refine ⟨_, pss_cons (ps_expr hpe hs) pss_w, ha _ _ σ Hf H g _ fun w Hf1 H1 s1 r1 => ?_⟩
  obtain ⟨vs0, h01, _⟩ := cellL (g.step s1) hΓ hk hc
  refine ⟨by rw [show w = V.ref (b.ad k) from r1]; exact .inl ⟨rfl, _, SqL.of h01⟩, h _ _ σ Hf1 H1 (g.step s1) _ fun y Hf2 H2 s2 r2 => ?_⟩
  have g2 := (g.step s1).step s2
  obtain ⟨vs, h1, h3⟩ := cellL g2 hΓ hk hc
  rw [rpl_ints h3] at h1
  obtain ⟨j, j1, j2, j3, j4⟩ := first_at hx
  refine ⟨b.ad k, xs, x, j, r1, by rw [show y = V.int x from r2], h1, j2, j3, ?_⟩
  rw [j4]
  exact hr _ _ σ Hf2 _ (g2.putB hΓ hk ⟨_, rfl, rpl_int'⟩) DD (kk.mono (s1.f.trans s2.f))
end
end Pv
set_option maxHeartbeats 0
/-! comprehensions over tuples, within an except suite -/
namespace Pv
open Rp (rp)
open Ow (ow)
open Da (toD)
section
open PySem PySem.Spec PyProof.Rows L2 L2H HotX
section
variable {prog : Program} {w : World} {A : Around} {E : Value → Shared → Prop} {s : Shared}
/-- a tuple's iterator at its end, an exception being handled -/
theorem tup_end_hot {it t x1 : Addr} {i : Nat} {items : Array Value} {Q : Option Value → Shared → Prop} (hot : HotAt A x1 s.heap) (hne : x1 ≠ it) (hit : s.heap.IsTupleIter it t i) (ht : s.heap.IsTuple t items) (hx : items[i]? = none)
    (hQ : ∀ h', Heap.ExtBut it s.heap h' → Q none { s with heap := h' }) : wpAny (model prog w) A (pyNext (.ref it)) Q E s := by
  obtain ⟨oi, gi, _, di⟩ := id hit
  obtain ⟨ot, gt, _, nt, dt⟩ := ht
  obtain ⟨hh, o1, vs1, g1, d1, c1⟩ := hot
  have g2 : ∀ f, (s.heap.update it f).get? x1 = some o1 := fun f => by rw [Heap.get?_update_other _ _ hne.symm]; exact g1
  unfold pyNext
  refine wpAny_bind (wpAny_attempt (wpAny_callSpecial?_slot (name := Str.ofString "__next__") hit.typeIs F.slot_tuple_iterator_next (wpAny_call_entry F.slot_tuple_iterator_next hit.typeIs F.entry_tuple_iterator_next ?_ (F.args_tuple_iterator_next_1 _))))
  show wpAny _ _ (field (.ref it) 0 >>= _) _ _ s
  refine wpAny_bind (wpAny_field gi di (x := .ref t) rfl ?_)
  show wpAny _ _ (if (Value.ref t == Value.none) = true then _ else _) _ _ s
  rw [if_neg (by exact Bool.false_ne_true)]
  show wpAny _ _ (field (.ref it) 1 >>= _) _ _ s
  refine wpAny_bind (wpAny_field gi di (x := .int i 0) rfl ?_)
  show wpAny _ _ (seqItems? (.ref t) >>= _) _ _ s
  refine wpAny_bind (wpAny_seqItems gt dt ?_)
  simp only [Int.toNat_natCast, hx]
  refine wpAny_bind (wpAny_rule (wpAny_bind (wpAny_setField gi di (by simp) ?_)))
  show wpAny _ _ (newExc (.type "StopIteration") [] >>= _) _ _ _
  refine wpAny_bind ?_
  simp only [newExc, newTuple]
  refine wpAny_bind (wpAny_newObj_type (wpAny_bind (m := firstArgMember _ _) (wpAny_of_eq (a := Value.none) (by first | rfl | (simp only [firstArgMember]; rfl)) (wpAny_newObj_type ?_ (by size_fits)))) (by size_fits))
  have g3 := fun f (o2 o3 : Obj) => Heap.get?_push_of_some o3 (Heap.get?_push_of_some o2 (g2 f))
  refine raiseNew_hot ⟨hh, o1, vs1, g3 _ _ _, d1, c1⟩ (Nat.ne_of_lt (Heap.lt_size (Heap.get?_push_of_some _ (g2 _)))) (Heap.get?_push_size _ rfl) rfl (by first | (simp; done) | (simp; omega) | (simp only [Array.size_append]; simp; omega)) ?_
  refine wpAny_bind (wpAny_isInstance (T := "StopIteration") (b := true) ⟨_, Heap.get?_update_self _ (Heap.get?_push_size _ rfl) rfl, rfl⟩ isSubtype_stop (wpAny_pure (hQ _ fun b o nb e => ?_)))
  have e2 : ∀ f, (s.heap.update it f).get? b = some o := fun f => (Heap.get?_update_other _ _ (Ne.symm nb)).trans e
  exact (Heap.get?_update_other _ _ (Nat.ne_of_gt (Heap.lt_size (Heap.get?_push_of_some _ (e2 _))))).trans (Heap.get?_push_of_some _ (Heap.get?_push_of_some _ (e2 _)))
end
theorem turn_tupleH {P : Program} {w : World} {K : PySem.W.Frag} {tg : Expr} (a it : Addr) : TurnH P w K tg (Itt K a) [it] it (fun i h => h.IsTupleIter it a i) := by
  refine ⟨(turn_tuple (P := P) (w := w) (K := K) (tg := tg) a it).mem, (turn_tuple (P := P) (w := w) (K := K) (tg := tg) a it).obj, (turn_tuple (P := P) (w := w) (K := K) (tg := tg) a it).keep, ?_, ?_, (turn_tuple (P := P) (w := w) (K := K) (tg := tg) a it).self⟩
  · rintro X rfl rfl rfl hc i pins s σ H E I hf st ⟨xs, x, hq, hx⟩
    obtain ⟨its, rv, q, _⟩ := I.tuple hq
    obtain ⟨u, hu, ru⟩ := rv.get hx
    obtain ⟨m0, m1, m2, m3, m4, m5⟩ := hf it (List.mem_singleton.mpr rfl)
    refine wpAny_pyNext_tuple_item st (show s.heap.IsTuple a its.toArray from q) (x := u) (by simpa using hu) fun h' st' sb => ?_
    obtain ⟨o, e, cl, d⟩ := id st'
    refine ⟨u, rfl, go_of (s := { s with heap := h' }) e cl d (by decide) ⟨x, H, I.turned (t' := s.toks) (fun b o hb e => (sb.2 b hb).trans e) m0 m1 m3 m4 m5, ru, ⟨rfl, fun ys hy => ?_⟩, st', fun b hb => (hf b hb).1⟩⟩
    rw [I.tuple_inj hy hq]; exact hx
  · rintro X rfl rfl rfl ⟨p, ⟨hh, v1, e1, c1⟩, hp⟩ i pins s σ H E I hf st ⟨xs, hq, hx⟩
    obtain ⟨its, rv, q, _⟩ := I.tuple hq
    obtain ⟨m0, m1, m2, m3, m4, m5⟩ := hf it (List.mem_singleton.mpr rfl)
    have hl := rv.length
    exact tup_end_hot ⟨hh, p.2, v1, (I.pin p (List.mem_append_left _ hp)).1, e1, c1⟩ (m5 p (List.mem_append_left _ hp)) st (show s.heap.IsTuple a its.toArray from q) (by simp; omega) fun h' eb =>
      ⟨rfl, I.turned (t' := s.toks) (fun b o hb e => eb b o hb e) m0 m1 m3 m4 m5⟩
theorem pi_tupH {X : Cx} {tg l : Expr} {tl : TE} (hl : PE X l tl) : PIH X tg l (iTup X.K tl) := by
  refine ⟨fun pins s σ H R I h => thn (hl.run pins s σ H _ I h) fun v s1 ⟨x, H1, I1, r1, a, e, ⟨xs, hq⟩, q⟩ => ?_⟩
  subst e
  cases r1
  obtain ⟨its, rv, p, hz⟩ := I1.tuple hq
  refine wpAny_pyIter_tuple (show s1.heap.IsTuple a its.toArray from p) ⟨_, [s1.heap.objs.size], _, _, H1, rfl, I1.kept (t' := s1.toks) fun b o e => Heap.get?_push_of_some _ e, turn_tupleH a _, ⟨_, Heap.get?_push_size _ rfl, rfl, rfl⟩, fun b hb => ?_, q⟩
  rw [List.mem_singleton.mp hb]
  exact I1.fpOk (Nat.le_refl _) (I1.hok.fresh (Nat.le_refl _))
end
end Pv
set_option maxHeartbeats 0
/-! comprehensions within an except suite: the block and its loop -/
namespace Pv
open Rp (rp)
open Ow (ow)
open Da (toD)
section
open PySem PySem.Spec PyProof.Rows L2 L2H
/-- a block's context that keeps the handled exception in sight -/
abbrev blkP (X : Cx) (p : Addr × Obj) (s : Shared) (H : Hp) (scope : Scope) (ce : Env) (fp : List Addr) : Cx := { X.blk s H scope ce fp with pn := [p] }
theorem inv_blkP {X : Cx} {p : Addr × Obj} {s s' : Shared} {H H' : Hp} {scope : Scope} {ce : Env} {fp : List Addr} {σ : L2.St} (J : Inv (X.blk s H scope ce fp) [] σ H' s')
    (hp : s'.heap.get? p.1 = some p.2 ∧ H' p.1 = none ∧ p.1 ≠ ce.locals ∧ p.1 ∉ frs X.stack ∧ ∀ v, p.2.data ≠ .cell v) : Inv (blkP X p s H scope ce fp) [] σ H' s' := by
  obtain ⟨o, a2, a3, a4, a5, a6, a7, a8, _, a10, a11⟩ := J
  obtain ⟨b1, b2, b3, b4, b5, b6, b7, b8, b9, b10, b11, b12, b13, b14, b15, b16, b17, b18⟩ := o
  refine ⟨⟨b1, b2, b3, b4, b5, b6, b7, b8, b9, b10, b11, b12, b13, b14, b15, b16, b17, b18⟩, a2, a3, a4, a5, a6, a7, a8, fun q hq => ?_, a10, a11⟩
  rw [List.mem_singleton.mp hq]
  exact hp
section
variable {X : Cx} {p : Addr × Obj} {elt tg iter : Expr} {scope : Scope} {own : List (Str × Nat)} {pos : Pos} {wi : TI} {g : TG} {te : TE}
theorem pe_lcH (hp : p ∈ X.pn) (hot : Hot1 X.A p) (hN : X.N.Nodup) (hi : PIH X tg iter wi) (ok : BlkOk X.N X.env.scope scope own)
    (hg : ∀ (s : Shared) (H : Hp) (C : Addr) (cl : List (Str × Addr)) (fp : List Addr), PG (blkP X p s H scope (compEnvC scope cl C X.env) fp) tg g)
    (he : ∀ (s : Shared) (H : Hp) (C : Addr) (cl : List (Str × Addr)) (fp : List Addr), PE (blkP X p s H scope (compEnvC scope cl C X.env) fp) elt te) (hs : ∀ x, foldedSetIterable iter X.env x = pure x := by intro _; rfl) :
    PE X (.ListComp elt [⟨tg, iter, [], 0⟩] scope pos) (tLc wi g tYes te (own.map (·.2))) := by
  refine ⟨fun pins s σ H Q I h => ?_⟩
  rw [eval_ListComp]
  refine wpAny_comprehension_free (use := none) rfl hs (closure_ok fun y hy e => (ok.free y hy e).elim (fun k => I.ok.has _ (.inl k)) fun k => I.ok.has _ (.inr k)) ok.kind (fun y hy e => by rw [ok.uniq y hy, e])
    (thn (hi.run pins s σ H _ I h) fun xv s1 hx => thn hx fun itv s2 ⟨it, fp, tn, J, H2, e, I2, T, st2, f2, q⟩ => ?_)
  subst e
  refine wpAny_newObj_type (newEnv_comp ?_) (by show 0 ≤ sizeLine; decide)
  have hfresh : H2 s2.heap.objs.size = none := I2.hok.fresh (Nat.le_refl _)
  obtain ⟨W, ⟨m0, w0⟩, turn⟩ := q _ hfresh
  generalize hs3 : ({ s2 with heap := s2.heap.push { cls := .type "list", data := .seq ([] : List Value).toArray } } : Shared) = s3
  have hp3 : s3.heap = s2.heap.push { cls := .type "list", data := .seq ([] : List Value).toArray } := by rw [← hs3]
  have I3 : Inv X pins σ (upd H2 s2.heap.objs.size (.lst [])) s3 := by
    rw [← hs3]
    exact I2.laid (t' := s2.toks) (fun b o e => Heap.get?_push_of_some _ e) (Nat.le_refl _) ⟨Nat.zero_le _, [], 0, .nil, Heap.get?_push_size _ rfl⟩
  have sz : ∀ b ∈ fp, b < s2.heap.objs.size := fun b hb => let ⟨o, e, _⟩ := T.obj _ _ st2 b hb; Heap.lt_size e
  have f3 : ∀ b ∈ fp, FpOk X pins (upd H2 s2.heap.objs.size (.lst [])) b ∧ b < s3.heap.objs.size := fun b hb =>
    ⟨⟨(upd_ne (Nat.ne_of_lt (sz b hb))).trans (f2 b hb).1, (f2 b hb).2⟩, by rw [hp3, Heap.size_push]; exact Nat.lt_succ_of_lt (sz b hb)⟩
  have st3 : tn 0 s3.heap := T.keep _ _ _ st2 fun b _ o e => by rw [hp3]; exact Heap.get?_push_of_some _ e
  generalize hD : s2.heap.objs.size = D at *
  generalize hH3 : upd H2 D (.lst []) = H3 at *
  have I4 := block_start I3 ok hN f3
  have kp4 : ∀ b o, s3.heap.get? b = some o → (pushCells (s3.heap.push { cls := .type "dict", data := .dict #[] }) scope.names).get? b = some o := fun b o e => pushCells_keeps _ _ _ _ (Heap.get?_push_of_some _ e)
  have pg := hg s3 H3 s3.heap.objs.size (cellsFrom (s3.heap.objs.size + 1) scope.names (cloFrom X.env.cells scope.names [])) fp
  have pe := he s3 H3 s3.heap.objs.size (cellsFrom (s3.heap.objs.size + 1) scope.names (cloFrom X.env.cells scope.names [])) fp
  generalize hce : compEnvC scope (cellsFrom (s3.heap.objs.size + 1) scope.names (cloFrom X.env.cells scope.names [])) s3.heap.objs.size X.env = ce at I4 pg pe
  have cL : ce.locals = s3.heap.objs.size := by rw [← hce]; rfl
  obtain ⟨p1, p2, p3, p4, p5⟩ := I3.pin p (List.mem_append_left _ hp)
  have I5 : Inv (blkP X p s3 H3 scope ce fp) [] (wipe σ (own.map (·.2))) H3 { s3 with heap := pushCells (s3.heap.push { cls := .type "dict", data := .dict #[] }) scope.names } :=
    inv_blkP I4 ⟨kp4 _ _ p1, p2, by rw [cL]; exact Nat.ne_of_lt (Heap.lt_size p1), fun z => (List.mem_cons.mp (I3.stkSub _ z)).elim p3 p4, p5⟩
  have st4 : tn 0 (pushCells (s3.heap.push { cls := .type "dict", data := .dict #[] }) scope.names) := T.keep _ _ _ st3 fun b _ o e => kp4 b o e
  have hc : HotC (blkP X p s3 H3 scope ce fp) := ⟨p, hot, List.mem_singleton.mpr rfl⟩
  have stat : ∀ {σ' : L2.St} {H' : Hp} {s' : Shared}, Inv (blkP X p s3 H3 scope ce fp) [] σ' H' s' → (∀ b ∈ fp, H' b = none) → ∀ b ∈ fp, FpOk (blkP X p s3 H3 scope ce fp) [] H' b := fun {σ' H' s'} J' hn b hb =>
    ⟨hn b hb, (J'.ok.exf b hb).1, J'.ok.exfs b hb, .inl hb, (J'.ok.exf b hb).2, fun r hr => by
      rw [List.mem_singleton.mp hr]
      exact (f3 b hb).1.2.2.2.2.2 p (List.mem_append_left _ hp)⟩
  generalize hs4 : ({ s3 with heap := pushCells (s3.heap.push { cls := .type "dict", data := .dict #[] }) scope.names } : Shared) = s4 at I5
  have st4 : tn 0 s4.heap := by rw [← hs4]; exact st4
  have post : ∀ (s' : Shared) (H' : Hp) (m : Str → Option Value), Inv X pins σ H' s' → Q (.ref D) H' → s'.heap.Ns s3.heap.objs.size m → H' s3.heap.objs.size = none → compPost (model X.prog X.w) X.A X.xe none (EP X pins σ Q) (.ref D) s3.heap.objs.size (.ok .next) s' := fun s' H' m J' qq hn hC => by
    obtain ⟨m0, m1, m2, m3, m4, m5⟩ := I3.fpOk (Nat.le_refl _) hC
    exact ⟨m, hn, fun h'' sb => ⟨.ref D, H', J'.turned (t' := s'.toks) (fun b o hb e => (sb.2 b hb).trans e) m0 m1 m3 m4 m5, rfl, qq⟩⟩
  have loop : codeAny (model X.prog X.w) X.A (.compLoop (.ListComp elt [⟨tg, iter, [], 0⟩] scope pos) 0 (.ref it) (.ref D) ce) (compPost (model X.prog X.w) X.A X.xe none (EP X pins σ Q) (.ref D) s3.heap.objs.size) s4 := by
    refine compLoop_any (fun n s' => ∃ i H', Inv (blkP X p s3 H3 scope ce fp) [] (wipe σ (own.map (·.2))) H' s' ∧ tn i s'.heap ∧ (∀ b ∈ fp, H' b = none) ∧ W i n H') ?_ m0 ⟨0, H3, I5, st4, fun b hb => (f3 b hb).1.1, w0⟩
    rintro n s5 ⟨i, H5, J5, st5, n5, w5⟩
    rcases turn i n H5 w5 with ⟨stop, qq⟩ | ⟨go, Nx, hNx, step⟩
    · refine thnF (T.done (blkP X p s3 H3 scope ce fp) rfl rfl rfl hc i [] s5 _ H5 (fun _ _ => False) J5 (stat J5 n5) st5 stop) fun r s6 ⟨hr, J6⟩ => ?_
      subst hr
      obtain ⟨m, hn, _⟩ := J6.loc
      have hn : s6.heap.Ns ce.locals m := hn
      have nC : H5 ce.locals = none := J6.free
      rw [cL] at hn nC
      exact post s6 H5 m (I3.call' (ch := fp) J6.os J6.base J6.hok J6.bare fun b hb => let z := (f3 b hb).1; ⟨z.2.2.2.1, z.2.1, z.2.2.2.2.1, z.2.2.2.2.2⟩) qq hn nC
    · refine thnF (T.item (blkP X p s3 H3 scope ce fp) rfl rfl rfl hc i [] s5 _ H5 (fun _ _ => False) J5 (stat J5 n5) st5 go) fun r s6 ⟨u, hr, h6⟩ => ?_
      subst hr
      refine thnF h6 fun _ s7 ⟨x, H7, J7, r7, y7, st7, n7⟩ => ?_
      have J8 := J7.pinned (stat J7 n7) (T.obj _ _ st7)
      refine thnF (pg.run _ s7 _ H7 x u _ J8 r7 (step x H7 y7)) fun _ s8 ⟨σ8, H8, J9, hw, q9⟩ => ?_
      refine thnF ((pts_nil (X := blkP X p s3 H3 scope ce fp)).run _ s8 σ8 H8 _ J9 q9) fun b s9 ⟨H9, J10, q10⟩ => ?_
      have fin : ∀ {s' : Shared} {H' : Hp}, Inv (blkP X p s3 H3 scope ce fp) ([] ++ pinsAt fp s7.heap) σ8 H' s' → Nx H' → ∃ m, m < n ∧ ∃ i H', Inv (blkP X p s3 H3 scope ce fp) [] (wipe σ (own.map (·.2))) H' s' ∧ tn i s'.heap ∧ (∀ b ∈ fp, H' b = none) ∧ W i m H' := fun {s' H'} J' nx => by
        obtain ⟨m', hm, w'⟩ := hNx H' nx
        have still : ∀ b ∈ fp, ∀ o, s7.heap.get? b = some o → s'.heap.get? b = some o ∧ H' b = none := fun b hb o e =>
          let z := J'.pin (b, o) (List.mem_append_right _ (List.mem_append_right _ (mem_pinsAt hb e))); ⟨z.1, z.2.1⟩
        refine ⟨m', hm, i + 1, H', (J'.unpinned (pins := [])).weak (by rw [← hw, wipe_length]) (fun j v e => ?_), T.keep _ _ _ st7 fun b hb o e => (still b hb o e).1, fun b hb => ?_, w'⟩
        · rw [← hw] at e; exact (wipe_some e).1
        · obtain ⟨o, e, _⟩ := T.obj _ _ st7 b hb; exact (still b hb o e).2
      cases b with
      | false => exact fin J10 q10
      | true =>
        refine thnF (pe.run _ s9 σ8 H9 _ J10 q10) fun z s10 ⟨yv, H10, J11, r10, acc, hD10, hz10, nx⟩ => ?_
        exact app_ok (X := blkP X p s3 H3 scope ce fp) J11 hD10 hz10 r10 fun s11 J12 => fin J12 nx
  show codeAny _ _ (.compStart (.ListComp elt [⟨tg, iter, [], 0⟩] scope pos) 0 (.ref it) (.ref D) (compEnvC scope (cellsFrom (s3.heap.objs.size + 1) scope.names (cloFrom X.env.cells scope.names [])) s3.heap.objs.size X.env)) (compPost (model X.prog X.w) X.A X.xe none (EP X pins σ Q) (.ref D) s3.heap.objs.size) s4
  rw [hce]
  exact codeAny_compStart_list loop (T.self X.A 0 _ _ _ st4 loop)
end
end
end Pv
set_option maxHeartbeats 0
/-! [e for x in t] within an except suite -/
namespace Pv
open Rp (rp)
open Ow (ow)
open Da (toD)
open PySem L2 L2H
section
variable {X : Cx} {c : CL} {Γ : List Sl}
def wIH (X : Cx) (tg iter : Expr) : TI := fun σ H R => ∃ t, PIH X tg iter t ∧ t σ H R
theorem pi_wH {tg iter : Expr} : PIH X tg iter (wIH X tg iter) := ⟨fun pins s σ H R I ⟨t, h, q⟩ => h.run pins s σ H R I q⟩
def IH (X : Cx) (c : CL) (Γ : List Sl) (tg iter : Expr) {α : Type} [Rp α] (xs : List α) : Prop :=
  ∀ (H0f H0 : Hp) (σ : L2.St) (Hf H : Hp), EnvOk X.K c H0f H0 Hf H σ Γ → ∀ R : It → Hp → Prop, (∀ J Hf' H', Stp Hf H Hf' H' → Wk X.K c Hf' J xs → R J H') → wIH X tg iter σ H R
theorem i_tupH {tg e : Expr} {α : Type} [Rp α] {xs : List α} (h : E X c Γ e (⟨xs⟩ : Tup α)) : IH X c Γ tg e xs := fun _ _ σ Hf H g R k => by
  refine ⟨_, pi_tupH pe_w, h _ _ σ Hf H g _ fun v Hf1 H1 s1 ⟨p, vs, e1, e2, e3⟩ => ?_⟩
  exact ⟨p, e1, ⟨vs, sqT_of (s1.s _ _ e2)⟩, k _ _ _ s1 (wk_tup (sqT_of e2) e3)⟩
abbrev BlkH (X : Cx) (p : Addr × Obj) (scope : Scope) (P : Cx → Prop) : Prop := ∀ (s : Shared) (H : Hp) (C : Addr) (cl : List (Str × Addr)) (fp : List Addr), P (blkP X p s H scope (compEnvC scope cl C X.env) fp)
def bEH (X : Cx) (p : Addr × Obj) (scope : Scope) (e : Expr) : TE := fun σ H Q => BlkH X p scope fun Y => wE Y e σ H Q
def bGH (X : Cx) (p : Addr × Obj) (scope : Scope) (tg : Expr) : TG := fun v σ H Q => BlkH X p scope fun Y => wG Y tg v σ H Q
section
variable {α β : Type} [Rp α] [Rp β] {xs : List α} {tg iter elt : Expr} {scope : Scope} {own : List (Str × Nat)} {ts : List Nat} {f : α → β} {gf : α → List Sl → List Sl} {pos : Pos} {q : Addr × Obj}
theorem e_lcH (hq : q ∈ X.pn) (hot : Hot1 X.A q) (hN : X.N.Nodup) (ok : blkC X.N X.env.scope scope own = true) (hi : IH X c Γ tg iter xs) (hts : ∀ j ∈ ts, j ∈ own.map (·.2)) (hl : xs.length < 1000000) (hg : ∀ x, x ∈ xs → BlkH X q scope fun Y => G Y c tg x ts (gf x))
    (he : ∀ x, x ∈ xs → BlkH X q scope fun Y => E Y c (gf x (wipeG Γ (own.map (·.2)))) elt (f x)) (hs : ∀ x, foldedSetIterable iter X.env x = pure x := by intro _; rfl) :
    E X c Γ (.ListComp elt [⟨tg, iter, [], 0⟩] scope pos) (xs.map f) := fun _ _ σ Hf H g Q k => by
  refine ⟨_, pe_lcH hq hot hN pi_wH (blkOk_by ok) (g := bGH X q scope tg) (te := bEH X q scope elt) (fun s H C cl fp => ⟨fun pins st σ H' v u Q I r z => pg_w.run pins st σ H' v u Q I r (z s H C cl fp)⟩) (fun s H C cl fp => ⟨fun pins st σ H' Q I z => pe_w.run pins st σ H' Q I (z s H C cl fp)⟩) hs, ?_⟩
  generalize own.map (·.2) = vs at hts he ⊢
  refine hi _ _ σ Hf H g _ fun J Hf1 H1 s1 wk => fun D hD => ?_
  have hD1 : Hf1 D = none := s1.s.free hD
  refine ⟨fun i m H2 => m = xs.length - i ∧ i ≤ xs.length ∧ ∃ Hf2 us, Stp Hf1 H1 Hf2 H2 ∧ Hf2 D = none ∧ H2 D = some (.lst us) ∧ RpL X.K c Hf2 us ((xs.take i).map f),
    ⟨xs.length, rfl, Nat.zero_le _, Hf1, [], ⟨Same.refl _, same_new hD, s1.s.trans (same_new hD), fun _ _ z _ _ => z⟩, hD1, upd_same, .nil⟩, ?_⟩
  rintro i m H2 ⟨rfl, hil, Hf2, us, s2, hD2, hu, ru⟩
  by_cases hlt : i < xs.length
  · refine .inr ⟨wk.go i H2 hlt (s2.f.trans s2.s), fun H3 => (i + 1) ≤ xs.length ∧ ∃ Hf3 us, Stp Hf1 H1 Hf3 H3 ∧ Hf3 D = none ∧ H3 D = some (.lst us) ∧ RpL X.K c Hf3 us ((xs.take (i + 1)).map f), fun H3 h3 => ⟨xs.length - (i + 1), by omega, rfl, h3⟩, fun x H3 y => ?_⟩
    obtain ⟨Hf3, s3, a, ha, ra⟩ := wk.yld i Hf2 H2 x H3 s2.f s2.s hlt y
    have hm : a ∈ xs := List.mem_of_getElem? ha
    have g1 := (g.step s1).step (s2.trans s3)
    intro bs bH bC bcl bfp
    refine hg a hm bs bH bC bcl bfp _ _ _ _ Hf3 H3 (g1.wipe vs) x ra _ fun σ2 g2' w2 => ?_
    have g2 := g2' _ _ _ (g1.wipe vs)
    refine ⟨(wipe_ext hts w2).trans wipe_wipe, ?_⟩
    show bEH X q scope elt σ2 H3 _
    refine fun es eH eC ecl efp => he a hm es eH eC ecl efp _ _ σ2 Hf3 H3 g2 _ fun w Hf5 H5 s5 r5 => ?_
    have hD4 : H3 D = some (.lst us) := s3.h _ _ hu
    have hDf4 : Hf3 D = none := s3.d _ _ hD2 hu trivial
    have hDf5 : Hf5 D = none := s5.d _ _ hDf4 hD4 trivial
    have s25 := (s2.trans s3).trans s5
    have hus : us.length ≤ i := by rw [ru.len, List.length_map, List.length_take]; exact Nat.min_le_left _ _
    refine ⟨us, s5.h _ _ hD4, Nat.lt_of_le_of_lt hus (Nat.lt_of_lt_of_le (Nat.lt_trans hlt hl) (by decide)), hlt, Hf5, us ++ [w], ⟨s25.f, fun b o e => ?_, fun b o e => ?_, s25.d⟩, hDf5, upd_same, ?_⟩
    · rw [upd_ne (ne_of_none e hD)]; exact s25.h b o e
    · rw [upd_ne (ne_of_none e hDf5)]; exact s25.s b o e
    · rw [take_succ' ha, List.map_append]
      exact paired_append (ru.mono (s3.f.trans s5.f)) (.cons r5 .nil)
  · have e : i = xs.length := by omega
    subst e
    refine .inl ⟨wk.stop H2 (s2.f.trans s2.s), ?_⟩
    rw [List.take_length] at ru
    have s02 := s1.trans s2
    refine k _ (upd Hf2 D (.lst us)) H2 ⟨fun b o z => ?_, s02.h, fun b o z => ?_, fun b o z z' n => ?_⟩ ⟨D, us, rfl, .inl (.inl upd_same), rpl_upd hD2 ru⟩
    · rw [upd_ne (ne_of_none (s02.f b o z) hD2)]; exact s02.f b o z
    · by_cases r : b = D
      · subst r; rw [upd_same] at z; rw [hu]; exact z
      · rw [upd_ne r] at z; exact s02.s b o z
    · rw [upd_ne (ne_of_none (s1.h _ _ z') hD)]; exact s02.d b o z z' n
end
end
end Pv
set_option maxHeartbeats 0
/-! xs.pop(i); list(range(n)) that is owned; dicts lean on no list; an __init__ with defaults that raises -/
namespace Pv
open Rp (rp)
open Ow (ow)
open Da (toD)
open PySem L2
section
variable {X : Cx} {c : CL} {Γ : List Sl} {W : WX} {D : En} {rest : List Stmt} {pos p0 p1 p2 : Pos} {a e : Expr} {es : List Expr}
theorem em_popAt (i : Nat) {x : Str} {q1 q2 q3 : Pos} {α : Type} [Rp α] {y : α} {ys : List α} {j : Int} {k : Nat} (hΓ : Γ[i]? = some (o ys)) (he : E X c Γ e j) (hj : j = (k : Int)) (hy : ys[k]? = some y) (hl : ys.length < 1000000) (hN : X.N[i]? = some x := by rfl)
    (hv : Vis X.env.scope x := by first | exact Or.inl rfl | exact Or.inr (Or.inl rfl) | exact Or.inr (Or.inr rfl)) (hd : (x == ("__debug__" : Str)) = false := by decide) (hcd : (x == ("__classdict__" : Str)) = false := by decide)
    (hst : starEach [e] X.env = (false, eval e X.env) :: starEach [] X.env := by rfl)
    (hpe : PE X (.Call (.Attribute (.Name x q1) "pop" q2) [e] [] q3) (tBM X.K "list" rPopAt (tVar i) (tCons (wE X e) tNil)) := by exact pe_bm PySem.F.plainAttrs_list PySem.F.slot_list_pop PySem.F.type_list_pop mt_popAt (pv _) (pa_cons pe_w pa_nil)) :
    EM X c Γ (.Call (.Attribute (.Name x q1) "pop" q2) [e] [] q3) y (Γ.set i (o (ys.eraseIdx k))) := fun _ _ σ Hf H g Q kk => by
  obtain ⟨_, _, e1, ⟨p, vs, rfl, _, e3, _⟩, _⟩ := g.own hΓ
  refine ⟨_, hpe, .ref p, e1, .inl ⟨rfl, _, SqL.of e3⟩, he _ _ σ Hf H g _ fun w Hf1 H1 s1 r1 => ?_⟩
  have g1 := g.step s1
  obtain ⟨R, v2, e1', ⟨p', us, rfl, rfl, e3', e4'⟩, hR, up⟩ := g1.own hΓ
  rw [e1] at e1'
  cases e1'
  obtain ⟨v, hv1, hv2⟩ : ∃ v, us[k]? = some v ∧ rp X.K c Hf1 v y := by
    have hk : k < ys.length := (List.getElem?_eq_some_iff.mp hy).1
    have hu : k < us.length := by rw [e4'.len]; exact hk
    obtain ⟨a', h1, h2⟩ := paired_get e4' (List.getElem?_eq_getElem hu)
    rw [hy] at h1
    cases h1
    exact ⟨_, List.getElem?_eq_getElem hu, h2⟩
  have hlt : k < us.length := (List.getElem?_eq_some_iff.mp hv1).1
  have hlen : us.length = ys.length := e4'.len
  refine ⟨p, us, j, k, v, rfl, by rw [show w = V.int j from r1], e3', by omega, by omega, ?_, hv1, ?_⟩
  · unfold PySem.seqIndex?
    subst hj
    simp
    omega
  · refine kk v Hf1 _ s1.f (up (OwL α) _ ⟨ys.eraseIdx k⟩ [p] _ (fun a o' ha hn => ?_) (fun a ha => .inl ha) ⟨p, us.eraseIdx k, rfl, rfl, upd_same, ?_⟩) hv2
    · rw [upd_ne fun z => hn (by rw [z]; exact List.mem_cons_self)]; exact ha
    · have er : ∀ {xs : List V} {zs : List α} (_ : RpL X.K c Hf1 xs zs) (n : Nat), RpL X.K c Hf1 (xs.eraseIdx n) (zs.eraseIdx n) := by
        intro xs zs r
        induction r with
        | nil => intro n; exact .nil
        | cons h t ih =>
          intro n
          cases n with
          | zero => exact t
          | succ n => exact .cons h (ih n)
      exact er e4' k
theorem eo_listR {n : Int} (ha : E X c Γ a n) (hb : -1000000 ≤ n ∧ n ≤ 1000000) (hm : X.mg "list" = none) (hm2 : X.mg "range" = none) (hc : X.calm = true := by rfl) (hg : Gl X "list" := by rfl) (hg2 : Gl X "range" := by rfl)
    (na : starEach [a] X.env = (false, eval a X.env) :: starEach [] X.env := by rfl) (na2 : starEach [.Call (.Name "range" p1) [a] [] p2] X.env = (false, eval (.Call (.Name "range" p1) [a] [] p2) X.env) :: starEach [] X.env := by rfl) : EO X c Γ (.Call (.Name "list" p0) [.Call (.Name "range" p1) [a] [] p2] [] pos) (OwL.mk (rng 0 n)) := fun _ _ σ Hf H g Q k =>
  ⟨_, pe_listRg hc hg hm (prg_1 hg2 hm2 pe_w na) na2, ha _ _ σ Hf H g _ fun v Hf1 H1 s1 r1 => ⟨n, r1, ⟨by omega, by omega, by omega, by omega, by omega⟩, fun q hq => k _ [q] Hf1 _ (s1.trans ⟨Same.refl _, same_new hq, s1.s.trans (same_new hq), fun _ _ z _ _ => z⟩) (fun a ha => by rw [List.mem_singleton.mp ha]; exact ⟨s1.h.free hq, s1.s.free hq⟩) ⟨q, _, rfl, rfl, upd_same, by rw [rgV_rng]; exact rpl_int'⟩⟩⟩
theorem e_tw {α : Type} [Rp α] {l : List α} (h : E X c Γ e (⟨l⟩ : Tup α)) : E X c Γ e (⟨l⟩ : TupW α) := fun _ _ σ Hf H g Q k => h _ _ σ Hf H g _ fun v Hf1 H1 s1 ⟨p, vs, h1, h2, h3⟩ => k v Hf1 H1 s1 ⟨p, vs, h1, sqT_of h2, h3⟩
end
instance {α : Type} [AwL α] : AwL (Dt α) where
  awl := fun {K c H v a q} hq ⟨p, od, kvs, h1, h2, h3⟩ => ⟨p, od, kvs, h1, del_l hq h2 (fun _ z => nomatch z), paired_imp (fun x y h => ⟨h.1, AwL.awl hq h.2⟩) h3⟩
section
variable {P : Program} {w : World} {K : PySem.W.Frag} {mg : Str → Option Value} {base : Heap} {c : CL} {γ : Type} [Ob γ]
theorem init_okXD {qual : Str} {st : Stmt} {dvs : List V} {kws : List (Str × V)} {f : Addr} {fd : FuncData} {N ps : List Str} {k : Nat} {RX : List Pk → Xn → Prop} (F : FunD K "__init__" qual (defArgs st) (defBody st) (defScope st) dvs kws f fd) (S : FnScope N ps (defScope st)) (hl : ∀ as r, RX as r → as.length + 1 = ps.length) (hN : ps.length ≤ N.length)
    (hb : ∀ (cdv : Value) (A : Around) (outer : List Env) (s : Shared) (H : Hp) (E : XK) (as : List Pk) (x : Xn) (p : Addr), Room k (A.deeper (PyProof.Rows.envOfC qual (defScope st) s.heap.objs.size f cdv)) → RX as x →
      Ss (cxOf (L2N.CX P w) P w K mg base N qual (defScope st) f cdv A outer s H E) c (fun cls d _ H' => E cls d H') (.own (Raw.mk (Ob.cls γ) p []) :: slots as (N.length - 1)) (defBody st) { nx := fun _ => False, rt := fun _ _ => False, ex := fun y _ => y = x }) : FnOk P w K mg base (L2N.CX P w) (k + 1) f fd ps (spIX K c γ RX) := by
  refine F.ok S (fun vs H Q E ⟨Hf, p, dx, ws, as, r, h0, h1, h2, h3, _⟩ => by rw [h0, List.length_cons, h2.len, hl _ _ h3]) fun cdv A outer s H vs Q E hr ⟨Hf, p, dx, ws, as, x, h0, h1, h2, h3, h4, h5, h6⟩ => ⟨_, pss_w, ?_⟩
  subst h0
  refine hb cdv A outer s H E as x p hr h3 Hf (del H p) _ Hf H (env_startI h1 h2 (by rw [hl _ _ h3]; exact hN) h4 h5 .nil) _ ⟨fun _ _ _ _ q => q.elim, fun _ _ _ _ q => q.elim, fun _ _ _ _ q => q.elim, fun _ _ _ _ _ _ q => q.elim, fun y cls dd σ' Γ' Hf' H' q s g r => ?_, fun _ _ _ _ _ _ q => q.elim, fun _ _ _ _ _ _ _ q => q.elim⟩
  have q : y = x := q
  subst q
  exact h6 cls dd _ _ g.stp r
end
end Pv
set_option maxHeartbeats 0
/-! all(xs) within an except suite -/
namespace Pv
open Rp (rp)
open Ow (ow)
open Da (toD)
section
open PySem PySem.Spec PyProof.Rows L2 L2H HotX
section
variable {prog : Program} {w : World} {A : Around} {E : Value → Shared → Prop} {s : Shared}
/-- a list's iterator at its end, an exception being handled -/
theorem list_end_hot {it t x1 : Addr} {i : Nat} {items : Array Value} {Q : Option Value → Shared → Prop} (hot : HotAt A x1 s.heap) (hne : x1 ≠ it) (hit : s.heap.IsListIter it t i) (ht : s.heap.IsList t items) (hx : items[i]? = none)
    (hQ : ∀ h', Heap.ExtBut it s.heap h' → Q none { s with heap := h' }) : wpAny (model prog w) A (pyNext (.ref it)) Q E s := by
  obtain ⟨oi, gi, _, di⟩ := id hit
  obtain ⟨ot, gt, _, nt, dt⟩ := ht
  obtain ⟨hh, o1, vs1, g1, d1, c1⟩ := hot
  have g2 : ∀ f, (s.heap.update it f).get? x1 = some o1 := fun f => by rw [Heap.get?_update_other _ _ hne.symm]; exact g1
  unfold pyNext
  refine wpAny_bind (wpAny_attempt (wpAny_callSpecial?_slot (name := Str.ofString "__next__") hit.typeIs slot_listiter_next (wpAny_call_entry slot_listiter_next hit.typeIs entry_listiter_next ?_ (args_listiter_next _))))
  show wpAny _ _ (field (.ref it) 0 >>= _) _ _ s
  refine wpAny_bind (wpAny_field gi di (x := .ref t) rfl ?_)
  show wpAny _ _ (if (Value.ref t == Value.none) = true then _ else _) _ _ s
  rw [if_neg (by exact Bool.false_ne_true)]
  show wpAny _ _ (field (.ref it) 1 >>= _) _ _ s
  refine wpAny_bind (wpAny_field gi di (x := .int i 0) rfl ?_)
  show wpAny _ _ (seqItems? (.ref t) >>= _) _ _ s
  refine wpAny_bind (wpAny_seqItems gt dt ?_)
  simp only [Int.toNat_natCast, hx]
  refine wpAny_bind (wpAny_rule (wpAny_bind (wpAny_setField gi di (by simp) ?_)))
  show wpAny _ _ (newExc (.type "StopIteration") [] >>= _) _ _ _
  refine wpAny_bind ?_
  simp only [newExc, newTuple]
  refine wpAny_bind (wpAny_newObj_type (wpAny_bind (m := firstArgMember _ _) (wpAny_of_eq (a := Value.none) (by first | rfl | (simp only [firstArgMember]; rfl)) (wpAny_newObj_type ?_ (by size_fits)))) (by size_fits))
  have g3 := fun f (o2 o3 : Obj) => Heap.get?_push_of_some o3 (Heap.get?_push_of_some o2 (g2 f))
  refine raiseNew_hot ⟨hh, o1, vs1, g3 _ _ _, d1, c1⟩ (Nat.ne_of_lt (Heap.lt_size (Heap.get?_push_of_some _ (g2 _)))) (Heap.get?_push_size _ rfl) rfl (by first | (simp; done) | (simp; omega) | (simp only [Array.size_append]; simp; omega)) ?_
  refine wpAny_bind (wpAny_isInstance (T := "StopIteration") (b := true) ⟨_, Heap.get?_update_self _ (Heap.get?_push_size _ rfl) rfl, rfl⟩ isSubtype_stop (wpAny_pure (hQ _ fun b o nb e => ?_)))
  have e2 : ∀ f, (s.heap.update it f).get? b = some o := fun f => (Heap.get?_update_other _ _ (Ne.symm nb)).trans e
  exact (Heap.get?_update_other _ _ (Nat.ne_of_gt (Heap.lt_size (Heap.get?_push_of_some _ (e2 _))))).trans (Heap.get?_push_of_some _ (Heap.get?_push_of_some _ (e2 _)))
theorem walks_listH {x1 : Addr} {o1 : Obj} {vs1 : Array Value} (hh : A.handled = some (.ref x1)) (d1 : o1.data = .fields vs1) (c1 : vs1[2]? = some .none) (I ax : Addr) (hne : ax ≠ I) (hx : x1 ≠ I) (items : Array Value) :
    Walks prog w A I [I, ax, x1] [I] items.size (fun i v => items[i]? = some v) (fun i h => (h.IsListIter I ax i ∧ h.IsList ax items) ∧ h.get? x1 = some o1) := by
  have W : ∀ A0 : Around, A0.handled = none → Walks prog w A0 I [I, ax] [I] items.size (fun i v => items[i]? = some v) (fun i h => h.IsListIter I ax i ∧ h.IsList ax items) := fun A0 h0 => Walks.list h0 I ax hne items
  refine ⟨fun b hb => by rw [List.mem_singleton.mp hb]; exact List.mem_cons_self, fun i h h' st k => ?_, fun i s Q E hi st hQ => ?_, fun s Q E st hQ => ?_, fun i s Q E st hQ => wpAny_pyIter_listiter st.1.1 hQ⟩
  · exact ⟨⟨st.1.1.at fun o e => k I List.mem_cons_self o e, st.1.2.at fun o e => k ax (by simp) o e⟩, k x1 (by simp) _ st.2⟩
  · refine wpAny_pyNext_list_item st.1.1 st.1.2 (x := items[i]) (by simp [hi]) fun h' hit' hs' => ?_
    exact hQ _ h' s.toks (by simp [hi]) ⟨⟨hit', st.1.2.extBut hs'.extBut hne⟩, hs'.extBut x1 _ hx st.2⟩ fun b o hb e => hs'.extBut b o (fun h => hb (by rw [h]; exact List.mem_cons_self)) e
  · exact list_end_hot ⟨hh, o1, vs1, st.2, d1, c1⟩ hx st.1.1 st.1.2 (by simp) fun h' he' => hQ h' s.toks fun b o hb e => he' b o (fun h => hb (by rw [h]; exact List.mem_cons_self)) e
end
section
variable {X : Cx}
theorem cr_allH (hot : HotC X) : CallR X (.builtin "all") (rAll X.K) := by
  rintro pins s σ H vs us Q I r ⟨a, bs, rfl, hs, q⟩
  obtain ⟨p, ⟨hh, v1, e1, c1⟩, hp⟩ := hot
  have gp := (I.pin p (List.mem_append_left _ hp)).1
  obtain ⟨its, rv, hl, _⟩ := I.list hs
  rw [Vals.ref1 r]
  refine call_all_walk (iter_any hl.isList fun s₂ e2 st hne => ?_)
  subst e2
  refine ⟨_, _, _, _, _, _, _, rfl, walks_listH (A := X.A.in1) (x1 := p.1) (o1 := p.2) (vs1 := v1) hh e1 c1 _ a hne (Nat.ne_of_lt (Heap.lt_size gp)) its.toArray, ⟨st, Heap.get?_push_of_some _ gp⟩, truth_bools rv.bls, fun h' tk hk => ?_⟩
  refine ⟨.bl _, H, I.kept fun b o eo => hk b o (fun hm => absurd (List.mem_singleton.mp hm ▸ Heap.lt_size eo) (Nat.lt_irrefl _)) (Heap.get?_push_of_some _ eo), ?_, q⟩
  show Value.bool _ = Value.bool _
  rw [← L2.all_range, rv.bls, List.size_toArray, List.length_map]
end
end
section
open PySem L2 L2H
variable {X : Cx} {c : CL} {Γ : List Sl} {a : Expr} {pos p0 : Pos}
theorem e_allH {bs : List Bool} (hot : HotC X) (ha : E X c Γ a bs) (hm : X.mg "all" = none) (hg : Gl X "all" := by rfl) (he : starEach [a] X.env = (false, eval a X.env) :: starEach [] X.env := by rfl) : E X c Γ (.Call (.Name "all" p0) [a] [] pos) (bs.all id) :=
  e_callB (cr_allH hot) (a_cons ha a_nil he) (fun Hf H vs s r Q k => by
    obtain ⟨v, rfl, q, ys, rfl, h2, h3⟩ := pkl1 r
    exact ⟨q, bs, rfl, by rw [← rpl_bls h3]; exact s.seq h2, k _ _ _ (Stp.refl s) rfl⟩) hg hm (by decide +kernel) (by decide) (by decide) he
/-- the suite's exception among its pins -/
theorem hot_pin {a : Addr} {oe : Obj} {pn : List (Addr × Obj)} {dd : Option Addr} {cls : Value} (hz : L2N.Zn cls dd oe) (hf : ∃ vs, oe.data = .fields vs) : (a, oe) ∈ (X.suite a ((a, oe) :: pn)).pn ∧ Hot1 (X.suite a ((a, oe) :: pn)).A (a, oe) := by
  obtain ⟨vs, hv⟩ := hf
  exact ⟨List.mem_cons_self, rfl, vs, hv, hz.2.2 vs hv⟩
end
end Pv
set_option maxHeartbeats 0
namespace K
open PySem L2 Pv
open Pv.Rp (rp)
open Pv.Ow (ow)
open Pv.Da (toD)
def top (i : Nat) : Stmt := PySem.Challenge.pw_partkeepers_k04_counts_of_a_book.main.body.getD i (.Pass ⟨0, 0, 0, 0⟩)
abbrev s_BCinit : Stmt := inClass (top 4) 0
def N_BCinit : List Str := ["self", "triple"]
theorem sc_BCinit : XScope N_BCinit ["self", "triple"] (defScope s_BCinit) := ⟨rfl, rfl, rfl, by decide +kernel, rfl, by decide +kernel, by decide +kernel, by decide +kernel, rfl, rfl⟩
abbrev s_every : Stmt := top 10
def N_every : List Str := ["pairs", "sender", "taker", "copy"]
theorem sc_every : FnScope N_every [] (defScope s_every) := ⟨rfl, rfl, rfl, by decide +kernel, rfl, by decide +kernel, by decide +kernel⟩
abbrev s_isCount : Stmt := top 8
def N_isCount : List Str := ["triple", "number"]
theorem sc_isCount : FnScope N_isCount ["triple"] (defScope s_isCount) := ⟨rfl, rfl, rfl, by decide +kernel, rfl, by decide +kernel, by decide +kernel⟩
abbrev s_asc : Stmt := top 9
def N_asc : List Str := ["counts", "wanted", "count"]
theorem sc_asc : FnScope N_asc ["counts"] (defScope s_asc) := ⟨rfl, rfl, rfl, by decide +kernel, rfl, by decide +kernel, by decide +kernel⟩
abbrev s_init : Stmt := inClass (top 7) 0
def N_init : List Str := ["self", "counts", "triple"]
theorem sc_init : FnScope N_init ["self", "counts"] (defScope s_init) := ⟨rfl, rfl, rfl, by decide +kernel, rfl, by decide +kernel, by decide +kernel⟩
abbrev s_len : Stmt := inClass (top 7) 2
def N_len : List Str := ["self"]
theorem sc_len : FnScope N_len ["self"] (defScope s_len) := ⟨rfl, rfl, rfl, by decide +kernel, rfl, by decide +kernel, by decide +kernel⟩
abbrev s_in : Stmt := inClass (top 7) 3
def N_in : List Str := ["self", "x"]
theorem sc_in : FnScope N_in ["self", "x"] (defScope s_in) := ⟨rfl, rfl, rfl, by decide +kernel, rfl, by decide +kernel, by decide +kernel⟩
abbrev s_iter : Stmt := inClass (top 7) 4
def N_iter : List Str := ["self"]
theorem sc_iter : FnScope N_iter ["self"] (defScope s_iter) := ⟨rfl, rfl, rfl, by decide +kernel, rfl, by decide +kernel, by decide +kernel⟩
abbrev s_isInt : Stmt := top 12
def N_isInt : List Str := ["_law_given"]
theorem sc_isInt : FnScope N_isInt ["_law_given"] (defScope s_isInt) := ⟨rfl, rfl, rfl, by decide +kernel, rfl, by decide +kernel, by decide +kernel⟩
abbrev s_cell : Stmt := top 13
def N_cell : List Str := ["_law_script", "_law_k"]
theorem sc_cell : FnScope N_cell ["_law_script", "_law_k"] (defScope s_cell) := ⟨rfl, rfl, rfl, by decide +kernel, rfl, by decide +kernel, by decide +kernel⟩
abbrev s_numbers : Stmt := top 14
def N_numbers : List Str := ["_law_cell_here", "_law_salt", "_law_limits", "_law_rest", "_law_found", "_law_limit"]
theorem sc_numbers : FnScope N_numbers ["_law_cell_here", "_law_salt", "_law_limits"] (defScope s_numbers) := ⟨rfl, rfl, rfl, by decide +kernel, rfl, by decide +kernel, by decide +kernel⟩
abbrev s_triples : Stmt := top 15
def N_triples : List Str := ["_law_many", "_law_found", "_law_copy", "_law_sender", "_law_taker"]
theorem sc_triples : FnScope N_triples ["_law_many"] (defScope s_triples) := ⟨rfl, rfl, rfl, by decide +kernel, rfl, by decide +kernel, by decide +kernel⟩
abbrev s_srows : Stmt := top 16
def N_srows : List Str := ["_law_told", "_law_due", "_law_k", "_law_part"]
theorem sc_srows : FnScope N_srows ["_law_told", "_law_due"] (defScope s_srows) := ⟨rfl, rfl, rfl, by decide +kernel, rfl, by decide +kernel, by decide +kernel⟩
abbrev s_same : Stmt := top 17
def N_same : List Str := ["_law_book", "_law_due"]
theorem sc_same : FnScope N_same ["_law_book", "_law_due"] (defScope s_same) := ⟨rfl, rfl, rfl, by decide +kernel, rfl, by decide +kernel, by decide +kernel⟩
abbrev s_triple4 : Stmt := top 18
def N_triple4 : List Str := ["_law_loose", "_law_draws", "_law_far", "_law_draw", "_law_left", "_law_found"]
theorem sc_triple4 : FnScope N_triple4 ["_law_loose", "_law_draws", "_law_far"] (defScope s_triple4) := ⟨rfl, rfl, rfl, by decide +kernel, rfl, by decide +kernel, by decide +kernel⟩
abbrev s_isC4 : Stmt := top 19
def N_isC4 : List Str := ["_law_triple_here", "_law_copy", "_law_sender", "_law_taker", "_law_part"]
theorem sc_isC4 : FnScope N_isC4 ["_law_triple_here"] (defScope s_isC4) := ⟨rfl, rfl, rfl, by decide +kernel, rfl, by decide +kernel, by decide +kernel⟩
abbrev s_looks4 : Stmt := top 20
def N_looks4 : List Str := ["_law_book", "_law_due", "_law_far", "_law_triple_here", "_law_copy", "_law_sender", "_law_taker", "_law_base"]
theorem sc_looks4 : FnScope N_looks4 ["_law_book", "_law_due", "_law_far"] (defScope s_looks4) := ⟨rfl, rfl, rfl, by decide +kernel, rfl, by decide +kernel, by decide +kernel⟩
abbrev s_law_k04 : Stmt := top 21
def N_law_k04 : List Str := ["_law_script", "_law_numbers_here", "_law_given", "_law_place", "_law_loose", "_law_bad", "_law_triple_here", "_law_passed", "_law_book", "e", "_law_part", "_law_due"]
theorem sc_law_k04 : FnScope N_law_k04 ["_law_script"] (defScope s_law_k04) := ⟨rfl, rfl, rfl, by decide +kernel, rfl, by decide +kernel, by decide +kernel⟩
end K
set_option maxHeartbeats 0
namespace K
open PySem L2 Pv
open Pv.Rp (rp)
open Pv.Ow (ow)
open Pv.Da (toD)
def cop : List Int := [0, 1, 2, 3, 4, 5]
def pairs : List (Tup Int) := (cop.filter fun _ => true).flatMap fun x => (cop.filter fun y => !decide (x = y)).map fun y => ⟨[x, y]⟩
def at0 (t : Tup Int) (i : Nat) : Int := t.l.getD i 0
def every : List (Tup Int) := (cop.filter fun _ => true).flatMap fun x => (pairs.filter fun p => !decide (x ∈ p.l)).map fun p => ⟨[x, at0 p 0, at0 p 1]⟩
theorem pairs_two : ∀ p ∈ pairs, p = ⟨[at0 p 0, at0 p 1]⟩ := by decide +kernel
def isCnt (t : Tup Int) : Bool := decide (((dif t.l).length : Int) = 3) && ((t.l.filter fun _ => true).map fun n => decide (n ∈ cop)).all id
theorem dtGet_nil (k : List Int) : dtGet ([] : List (List Int × Bool)) k = none := rfl
theorem dtGet_put (l : List (List Int × Bool)) (k k' : List Int) (v : Bool) : (dtGet (dtPut l k v) k').isSome = ((dtGet l k').isSome || decide (k = k')) := by
  have key : ∀ (l : List (List Int × Bool)) (k : List Int), (dtGet l k).isSome = l.any fun kv => decide (kv.1 = k) := fun l k => by
    unfold dtGet; rw [Option.isSome_map]
    induction l with
    | nil => rfl
    | cons x r ih =>
      rw [List.find?_cons, List.any_cons]
      cases e : decide (x.1 = k) with
      | true => rfl
      | false => exact ih
  rw [key, key]
  unfold dtPut
  split
  · rename_i h
    rw [List.any_map]
    have e : (fun kv : List Int × Bool => decide (kv.1 = k')) ∘ (fun kv => if kv.1 = k then (kv.1, v) else kv) = fun kv => decide (kv.1 = k') := by
      funext kv; simp only [Function.comp]; split <;> rfl
    rw [e]
    by_cases q : k = k'
    · subst q; rw [h]; rfl
    · rw [decide_eq_false q, Bool.or_false]
  · rw [List.any_append, List.any_cons, List.any_nil, Bool.or_false]
theorem dtOf_some (l : List (List Int × Bool)) (k : List Int) : (dtGet (dtOf l) k).isSome = l.any fun kv => decide (kv.1 = k) := by
  have key : ∀ (l acc : List (List Int × Bool)), (dtGet (l.foldl (fun acc kv => dtPut acc kv.1 kv.2) acc) k).isSome = ((dtGet acc k).isSome || l.any fun kv => decide (kv.1 = k)) := by
    intro l
    induction l with
    | nil => intro acc; rw [List.any_nil, Bool.or_false]; rfl
    | cons x r ih => intro acc; rw [List.foldl_cons, ih, dtGet_put, List.any_cons, Bool.or_assoc]
  unfold dtOf; rw [key, dtGet_nil]; rfl
theorem dtOf_nodup {l : List (List Int × Bool)} (h : (l.map (·.1)).Nodup) : dtOf l = l := by
  have key : ∀ (l acc : List (List Int × Bool)), ((acc ++ l).map (·.1)).Nodup → l.foldl (fun acc kv => dtPut acc kv.1 kv.2) acc = acc ++ l := by
    intro l
    induction l with
    | nil => intro acc _; rw [List.append_nil]; rfl
    | cons x r ih =>
      intro acc hn
      have e : dtPut acc x.1 x.2 = acc ++ [x] := by
        unfold dtPut
        rw [if_neg]
        intro z
        obtain ⟨y, hy, e⟩ := List.any_eq_true.mp z
        rw [List.map_append, List.map_cons] at hn
        have := List.nodup_append.mp hn
        exact this.2.2 y.1 (List.mem_map_of_mem hy) x.1 List.mem_cons_self (of_decide_eq_true e)
      rw [List.foldl_cons, e, ih (acc ++ [x]) (by rw [List.append_assoc]; exact hn), List.append_assoc]
      rfl
  exact key l [] h
abbrev dtB (cs : List (Tup Int)) : Dt Bool := ⟨cs.map fun t => (t.l, true)⟩
def asc (cs : List (Tup Int)) : List (Tup Int) := every.filter fun t => decide (t ∈ cs)
theorem every_nd : (every.map (·.l)).Nodup := by decide +kernel
theorem dtB_in (cs : List (Tup Int)) (t : Tup Int) : (dtGet (dtB cs).l t.l).isSome = decide (t ∈ cs) := by
  unfold dtGet; rw [Option.isSome_map]
  induction cs with
  | nil => rfl
  | cons x r ih =>
    show (List.find? _ ((x.l, true) :: r.map _)).isSome = _
    rw [List.find?_cons]
    by_cases e : x = t
    · subst e; simp
    · have e' : ¬ x.l = t.l := fun z => e (by cases x; cases t; cases z; rfl)
      have e2 : ¬ t = x := fun z => e z.symm
      simp only [e', decide_false, List.mem_cons, e2, false_or]; exact ih
theorem dtOf_in (cs : List (Tup Int)) (t : Tup Int) : (dtGet (dtOf ((cs.filter fun _ => true).map fun x => (x.l, true))) t.l).isSome = decide (t ∈ cs) := by
  rw [dtOf_some, List.filter_eq_self.mpr (fun _ _ => rfl)]
  induction cs with
  | nil => rfl
  | cons x r ih =>
    rw [List.map_cons, List.any_cons, ih]
    by_cases e : x = t
    · subst e; simp
    · have e' : ¬ x.l = t.l := fun z => e (by cases x; cases t; cases z; rfl)
      have e2 : ¬ t = x := fun z => e z.symm
      simp [e', e2]
theorem asc_dt (cs : List (Tup Int)) : dtOf ((every.filter fun t => (dtGet (dtOf ((cs.filter fun _ => true).map fun x => (x.l, true))) t.l).isSome).map fun x => (x.l, true)) = (dtB (asc cs)).l := by
  have e : (fun t : Tup Int => (dtGet (dtOf ((cs.filter fun _ => true).map fun x => (x.l, true))) t.l).isSome) = fun t => decide (t ∈ cs) := funext (dtOf_in cs)
  rw [e, dtOf_nodup]
  · rfl
  · rw [List.map_map]
    exact (List.Sublist.map _ List.filter_sublist).nodup every_nd
def ev (k : Int) : Tup Int := every.getD k.toNat ⟨[]⟩
def R120 : List Int := rng 0 120
def pk (m : List Bool) (k : Int) : Bool := m.getD k.toNat false
def lst (m : List Bool) : List (Tup Int) := (R120.filter (pk m)).map ev
theorem every_ev : every = R120.map ev := by decide +kernel
theorem r_mem {k : Int} : k ∈ R120 ↔ 0 ≤ k ∧ k < 120 := by
  unfold R120 rng
  rw [List.mem_map]
  constructor
  · rintro ⟨n, h, rfl⟩
    have := List.mem_range.mp h
    omega
  · intro h
    exact ⟨k.toNat, List.mem_range.mpr (by omega), by omega⟩
theorem every_nd2 : (R120.map ev).Nodup := by
  rw [← every_ev]
  exact (List.Pairwise.of_map (fun t : Tup Int => t.l) (fun a b h e => h (congrArg Tup.l e)) every_nd)
theorem nd_inj {α β : Type} {f : α → β} : ∀ {l : List α}, (l.map f).Nodup → ∀ x ∈ l, ∀ y ∈ l, f x = f y → x = y
  | [], _, x, hx, _, _, _ => by cases hx
  | a :: l, h, x, hx, y, hy, e => by
    rw [List.map_cons, List.nodup_cons] at h
    rcases List.mem_cons.mp hx with h1 | h1
    · rcases List.mem_cons.mp hy with h2 | h2
      · rw [h1, h2]
      · exact absurd (by rw [← h1, e]; exact List.mem_map_of_mem h2) h.1
    · rcases List.mem_cons.mp hy with h2 | h2
      · exact absurd (by rw [← h2, ← e]; exact List.mem_map_of_mem h1) h.1
      · exact nd_inj h.2 x h1 y h2 e
theorem mem_lst {m : List Bool} {k : Int} (hk : k ∈ R120) : decide (ev k ∈ lst m) = pk m k := by
  have z : ev k ∈ lst m ↔ pk m k = true := by
    unfold lst
    rw [List.mem_map]
    constructor
    · rintro ⟨j, hj, e⟩
      have h1 := List.mem_filter.mp hj
      rw [← nd_inj every_nd2 j h1.1 k hk e]; exact h1.2
    · intro h
      exact ⟨k, List.mem_filter.mpr ⟨hk, h⟩, rfl⟩
  cases h : pk m k with
  | true => exact decide_eq_true (z.mpr h)
  | false => exact decide_eq_false fun q => by rw [z.mp q] at h; cases h
theorem asc_lst (m : List Bool) : asc (lst m) = lst m := by
  unfold asc
  rw [every_ev, List.filter_map]
  show (R120.filter fun k => decide (ev k ∈ lst m)).map ev = (R120.filter (pk m)).map ev
  rw [List.filter_congr fun k hk => mem_lst hk]
theorem eq_of_pk {a b : List Bool} (ha : a.length = 120) (hb : b.length = 120) (h : ∀ k ∈ R120, pk a k = pk b k) : a = b := by
  apply List.ext_getElem (by omega)
  intro n h1 h2
  have := h (n : Int) (r_mem.mpr (by omega))
  unfold pk at this
  rw [show ((n : Int)).toNat = n from by omega, List.getD_eq_getElem?_getD, List.getD_eq_getElem?_getD, List.getElem?_eq_getElem h1, List.getElem?_eq_getElem h2] at this
  exact this
theorem lst_len (m : List Bool) : (lst m).length ≤ 120 := by
  unfold lst
  rw [List.length_map]
  refine Nat.le_trans (List.length_filter_le _ _) ?_
  decide +kernel
theorem lst_sub {m : List Bool} {t : Tup Int} (h : t ∈ lst m) : t ∈ every := by
  rw [every_ev]
  obtain ⟨k, hk, rfl⟩ := List.mem_map.mp h
  exact List.mem_map_of_mem (List.mem_filter.mp hk).1
theorem every_ok : ∀ t ∈ every, t.l.length ≤ 1000 ∧ isCnt t = true := by decide +kernel
def lesB (a b : List (Tup Int)) : Bool := a.all fun t => decide (t ∈ b)
theorem all_filter {α : Type} {p f : α → Bool} : ∀ l : List α, (l.filter p).all f = l.all fun x => f x || !p x
  | [] => rfl
  | a :: l => by
    rw [List.all_cons, List.filter_cons]
    cases h : p a with
    | true => rw [if_pos rfl, List.all_cons, all_filter l]; simp
    | false => rw [if_neg (by simp), all_filter l]; simp
theorem all_congr {α : Type} {f g : α → Bool} : ∀ {l : List α}, (∀ x ∈ l, f x = g x) → l.all f = l.all g
  | [], _ => rfl
  | a :: l, h => by rw [List.all_cons, List.all_cons, h a List.mem_cons_self, all_congr fun x hx => h x (List.mem_cons_of_mem _ hx)]
def lesM (a b : List Bool) : Bool := R120.all fun k => pk b k || !pk a k
theorem les_lst (a b : List Bool) : lesB (lst a) (lst b) = lesM a b := by
  unfold lesB lesM
  show ((R120.filter (pk a)).map ev).all _ = _
  rw [List.all_map, all_filter]
  refine all_congr fun k hk => ?_
  show (decide (ev k ∈ lst b) || !pk a k) = _
  rw [mem_lst hk]
theorem les_sub {a b : List Bool} (h : lesM a b = true) : (R120.filter (pk a)).Sublist (R120.filter (pk b)) := by
  have e : R120.filter (pk a) = (R120.filter (pk b)).filter (pk a) := by
    rw [List.filter_filter]
    refine List.filter_congr fun k hk => ?_
    have := List.all_eq_true.mp h k hk
    cases h1 : pk a k with
    | false => rfl
    | true => rw [h1] at this; simpa using this.symm
  rw [e]
  exact List.filter_sublist
theorem eq_of_len {a b : List Bool} (ha : a.length = 120) (hb : b.length = 120) (h : lesM a b = true) (hl : (lst a).length = (lst b).length) : a = b := by
  unfold lst at hl
  rw [List.length_map, List.length_map] at hl
  have e := (les_sub h).eq_of_length hl
  refine eq_of_pk ha hb fun k hk => ?_
  have h1 : k ∈ R120.filter (pk a) ↔ k ∈ R120.filter (pk b) := by rw [e]
  rw [List.mem_filter, List.mem_filter] at h1
  have h2 : pk a k = true ↔ pk b k = true := ⟨fun z => (h1.mp ⟨hk, z⟩).2, fun z => (h1.mpr ⟨hk, z⟩).2⟩
  cases pa : pk a k <;> cases pb : pk b k <;> simp [pa, pb] at h2 ⊢
theorem lt_lst {a b : List Bool} (ha : a.length = 120) (hb : b.length = 120) : (lesB (lst a) (lst b) && decide ((lst a).length < (lst b).length)) = (lesM a b && !decide (a = b)) := by
  rw [les_lst]
  cases h : lesM a b with
  | false => rfl
  | true =>
    rw [Bool.true_and, Bool.true_and]
    have hl : (lst a).length ≤ (lst b).length := by unfold lst; rw [List.length_map, List.length_map]; exact (les_sub h).length_le
    by_cases e : a = b
    · subst e
      rw [decide_eq_false (by omega), decide_eq_true rfl]; rfl
    · have : (lst a).length ≠ (lst b).length := fun z => e (eq_of_len ha hb h z)
      rw [decide_eq_true (by omega : (lst a).length < (lst b).length), decide_eq_false e]; rfl
theorem dtB_get (b : List (Tup Int)) (t : Tup Int) : (dtGet (dtB b).l t.l == some true) = decide (t ∈ b) := by
  rw [← dtB_in]
  cases h : dtGet (dtB b).l t.l with
  | none => rfl
  | some v =>
    have : v = true := by
      unfold dtGet at h
      cases h2 : (dtB b).l.find? fun kv => decide (kv.1 = t.l) with
      | none => rw [h2] at h; cases h
      | some kv =>
        rw [h2] at h
        obtain ⟨u, _, e⟩ := List.mem_map.mp (List.mem_of_find?_eq_some h2)
        rw [← e] at h
        exact (Option.some.inj h).symm
    rw [this]; rfl
theorem eq_lst {a b : List Bool} (ha : a.length = 120) (hb : b.length = 120) : dtEq (dtB (lst a)).l (dtB (lst b)).l = decide (a = b) := by
  unfold dtEq
  have e1 : ((dtB (lst a)).l.all fun kv => dtGet (dtB (lst b)).l kv.1 == some kv.2) = lesM a b := by
    rw [← les_lst]
    show ((lst a).map _).all _ = _
    rw [List.all_map]
    unfold lesB
    exact all_congr fun t _ => dtB_get (lst b) t
  rw [e1]
  show ((((lst a).map _).length == ((lst b).map _).length) && _) = _
  rw [List.length_map, List.length_map]
  by_cases e : a = b
  · subst e
    have : lesM a a = true := List.all_eq_true.mpr fun k _ => by simp
    rw [this]; simp
  · rw [decide_eq_false e]
    cases h : lesM a b with
    | false => simp
    | true =>
      have : (lst a).length ≠ (lst b).length := fun z => e (eq_of_len ha hb h z)
      simp [this]
/-! marks joined and cut -/
def mk (g : Int → Bool) : List Bool := R120.map g
theorem mk_len (g : Int → Bool) : (mk g).length = 120 := by unfold mk; rw [List.length_map]; decide +kernel
theorem pk_mk {g : Int → Bool} {k : Int} (hk : k ∈ R120) : pk (mk g) k = g k := by
  obtain ⟨h1, h2⟩ := r_mem.mp hk
  unfold pk mk R120 rng
  rw [List.getD_eq_getElem?_getD, List.getElem?_map, List.getElem?_map, List.getElem?_range (by omega)]
  show g ((0 : Int) + (k.toNat : Int)) = g k
  congr 1
  omega
def jn (a b : List Bool) : List Bool := mk fun k => pk a k || pk b k
def cm (a b : List Bool) : List Bool := mk fun k => pk a k && pk b k
def rs (a b : List Bool) : List Bool := mk fun k => pk a k && !pk b k
def ap (a b : List Bool) : List Bool := mk fun k => !decide (pk a k = pk b k)
theorem lst_congr {a b : List Bool} (h : ∀ k ∈ R120, pk a k = pk b k) : lst a = lst b := by
  unfold lst; rw [List.filter_congr h]
theorem every_filter {f : Tup Int → Bool} {a : List Bool} (h : ∀ k ∈ R120, f (ev k) = pk a k) : every.filter f = lst a := by
  rw [every_ev, List.filter_map]
  unfold lst
  congr 1
  exact List.filter_congr h
theorem lst_filter {f : Tup Int → Bool} {m a : List Bool} (h : ∀ k ∈ R120, (pk m k && f (ev k)) = pk a k) : (lst m).filter f = lst a := by
  unfold lst
  rw [List.filter_map, List.filter_filter]
  congr 1
  refine List.filter_congr fun k hk => ?_
  rw [← h k hk, Bool.and_comm]; rfl
theorem in_lst {m : List Bool} {k : Int} (hk : k ∈ R120) : (ev k ∈ lst m) = (pk m k = true) := by
  have := mem_lst (m := m) hk
  rw [← this]
  exact propext (by simp)
theorem asc_cat (a b : List Bool) : asc (lst a ++ lst b) = lst (jn a b) := every_filter fun k hk => by
  unfold jn
  rw [pk_mk hk]
  simp only [List.mem_append, in_lst hk, Bool.decide_or, Bool.decide_eq_true]
theorem asc_cm (a b : List Bool) : asc ((lst a).filter fun t => decide (t ∈ lst b)) = lst (cm a b) := every_filter fun k hk => by
  unfold cm
  rw [pk_mk hk]
  simp only [List.mem_filter, in_lst hk, decide_eq_true_eq, Bool.decide_and, Bool.decide_eq_true]
theorem fil_cm (a b : List Bool) : ((lst a).filter fun t => decide (t ∈ lst b)) = lst (cm a b) := lst_filter fun k hk => by
  unfold cm
  rw [pk_mk hk, mem_lst hk]
theorem fil_rs (a b : List Bool) : ((lst a).filter fun t => !decide (t ∈ lst b)) = lst (rs a b) := lst_filter fun k hk => by
  unfold rs
  rw [pk_mk hk, mem_lst hk]
theorem asc_rs (a b : List Bool) : asc ((lst a).filter fun t => !decide (t ∈ lst b)) = lst (rs a b) := by rw [fil_rs, asc_lst]
def mE : List Bool := mk fun _ => false
def mA : List Bool := mk fun _ => true
theorem lst_mE : lst mE = [] := by decide +kernel
theorem lst_mA : lst mA = every := by decide +kernel
theorem jn_A (a : List Bool) : lst (jn a mA) = every := by
  rw [← lst_mA]
  exact lst_congr fun k hk => by unfold jn mA; rw [pk_mk hk, pk_mk hk]; simp
theorem rs_A (a : List Bool) : lst (rs a mA) = [] := by
  rw [← lst_mE]
  exact lst_congr fun k hk => by unfold rs mA mE; rw [pk_mk hk, pk_mk hk, pk_mk hk]; simp
theorem ap_eq (a b : List Bool) : lst (jn (rs a b) (rs b a)) = lst (ap a b) := lst_congr fun k hk => by
  unfold jn ap rs
  rw [pk_mk hk, pk_mk hk, pk_mk hk, pk_mk hk]
  cases pk a k <;> cases pk b k <;> rfl

structure Bk where
  l : List (Tup Int)
instance : Ob Bk := Ob.of "Book" fun b => [("_counts", ⟨dtB b.l⟩)]
abbrev bk (m : List Bool) : Bk := ⟨lst m⟩
abbrev getB (b : Bk) : Dt Bool := dtB b.l
theorem map_keys (l : List (Tup Int)) : ((dtB l).l.map fun kv => (⟨kv.1⟩ : Tup Int)) = l := by
  show (l.map _).map _ = l
  rw [List.map_map]; exact List.map_id _
theorem lst_short (m : List Bool) : (lst m).length < 1000000 := Nat.lt_of_le_of_lt (lst_len m) (by decide)
theorem cat_ok (a b : List Bool) : (∀ t ∈ lst a ++ lst b, t ∈ every) ∧ (lst a ++ lst b).length < 1000000 := ⟨fun t ht => (List.mem_append.mp ht).elim lst_sub lst_sub, by rw [List.length_append]; have := lst_len a; have := lst_len b; omega⟩
end K
set_option maxHeartbeats 0
namespace K
open PySem L2 Pv
open Pv.Rp (rp)
open Pv.Ow (ow)
open Pv.Da (toD)
def numStep (cell salt : Int) (s : Int × List Int) (lim : Int) : Int × List Int :=
  if cell < 1000000000000000000 then ((s.1 * 75 + 74 + salt) % 65537, s.2 ++ [(s.1 * 75 + 74 + salt) % 65537 / 7 % lim]) else (s.1 / lim, s.2 ++ [s.1 % lim])
def numbers (cell salt : Int) (lims : List Int) : List Int := (lims.foldl (numStep cell salt) (cell, [])).2
theorem numStep_len (cell salt : Int) (s : Int × List Int) (lim : Int) : (numStep cell salt s lim).2.length = s.2.length + 1 := by
  unfold numStep; split <;> simp
theorem nums_len (cell salt : Int) : ∀ (lims : List Int) (s : Int × List Int), (lims.foldl (numStep cell salt) s).2.length = s.2.length + lims.length
  | [], s => rfl
  | l :: r, s => by rw [List.foldl_cons, nums_len cell salt r, numStep_len, List.length_cons]; omega
theorem nums_spec (cell salt : Int) : ∀ (lims : List Int) (s : Int × List Int), (∀ l ∈ lims, 0 < l) → ∃ t : List Int, (lims.foldl (numStep cell salt) s).2 = s.2 ++ t ∧ t.length = lims.length ∧ ∀ i l, lims[i]? = some l → 0 ≤ t.getD i 0 ∧ t.getD i 0 < l
  | [], s, _ => ⟨[], by simp, rfl, fun i l h => by simp at h⟩
  | l :: r, s, h => by
    obtain ⟨v, hv, h1, h2⟩ : ∃ v, (numStep cell salt s l).2 = s.2 ++ [v] ∧ 0 ≤ v ∧ v < l := by
      have hl := h l List.mem_cons_self
      unfold numStep
      split
      · exact ⟨_, rfl, Int.emod_nonneg _ (by omega), Int.emod_lt_of_pos _ hl⟩
      · exact ⟨_, rfl, Int.emod_nonneg _ (by omega), Int.emod_lt_of_pos _ hl⟩
    obtain ⟨t, e1, e2, e3⟩ := nums_spec cell salt r (numStep cell salt s l) fun x hx => h x (List.mem_cons_of_mem _ hx)
    refine ⟨v :: t, by rw [List.foldl_cons, e1, hv, List.append_assoc]; rfl, by rw [List.length_cons, List.length_cons, e2], fun i l' hi => ?_⟩
    cases i with
    | zero =>
      have : l = l' := by simpa using hi
      subst this
      exact ⟨h1, h2⟩
    | succ i =>
      have := e3 i l' (by simpa using hi)
      simpa using this
theorem nums_lt {cell salt : Int} {lims : List Int} (h : ∀ l ∈ lims, 0 < l) {i : Nat} {l : Int} (hi : lims[i]? = some l) : 0 ≤ (numbers cell salt lims).getD i 0 ∧ (numbers cell salt lims).getD i 0 < l := by
  obtain ⟨t, e1, e2, e3⟩ := nums_spec cell salt lims (cell, []) h
  have e : numbers cell salt lims = t := by unfold numbers; rw [e1]; rfl
  rw [e]
  exact e3 i l hi
end K
set_option maxHeartbeats 0
namespace K
open PySem L2 Pv
open Pv.Rp (rp)
open Pv.Ow (ow)
open Pv.Da (toD)
def t3 (a b e : Int) : List (Tup Int) := if ((!decide (a = b)) && ((!decide (a = e)) && (!decide (b = e)))) = true then [⟨[a, b, e]⟩] else []
def tri3 (m a b : Int) : List (Tup Int) := (rng 0 m).flatMap (t3 a b)
def tri2 (m a : Int) : List (Tup Int) := (rng 0 m).flatMap (tri3 m a)
def tri (m : Int) : List (Tup Int) := (rng 0 m).flatMap (tri2 m)
theorem t3_len (a b e : Int) : (t3 a b e).length ≤ 1 := by unfold t3; split <;> simp
theorem tri_six : tri 6 = every := by decide +kernel
end K
set_option maxHeartbeats 0
namespace K
open PySem L2 Pv
open Pv.Rp (rp)
open Pv.Ow (ow)
open Pv.Da (toD)
theorem mem_cop {x : Int} : x ∈ cop ↔ 0 ≤ x ∧ x < 6 := by
  unfold cop
  simp only [List.mem_cons, List.not_mem_nil, or_false]
  omega
def lawC (t : Tup Int) : Bool := if (decide (at0 t 0 = at0 t 1) || (decide (at0 t 0 = at0 t 2) || decide (at0 t 1 = at0 t 2))) = true then false else ((t.l.filter fun _ => true).map fun p => decide ((0 : Int) ≤ p) && decide (p < 6)).all id
def is3 (t : Tup Int) : Prop := t = ⟨[at0 t 0, at0 t 1, at0 t 2]⟩
theorem is3_ex {t : Tup Int} (h : is3 t) : ∃ a b c : Int, t = ⟨[a, b, c]⟩ := ⟨_, _, _, h⟩
theorem is3_len : ∀ {t : Tup Int}, t.l.length = 3 → is3 t
  | ⟨[_, _, _]⟩, _ => rfl
theorem cnt_all : ∀ a ∈ cop, ∀ b ∈ cop, ∀ c ∈ cop, isCnt ⟨[a, b, c]⟩ = lawC ⟨[a, b, c]⟩ ∧ lawC ⟨[a, b, c]⟩ = decide ((⟨[a, b, c]⟩ : Tup Int) ∈ every) := by decide +kernel
theorem every_cop : ∀ t ∈ every, ∀ x ∈ t.l, x ∈ cop := by decide +kernel
theorem every_3 : ∀ t ∈ every, t.l.length = 3 := by decide +kernel
theorem cnt3 {t : Tup Int} (h : is3 t) : isCnt t = lawC t ∧ lawC t = decide (t ∈ every) := by
  obtain ⟨a, b, c, rfl⟩ := is3_ex h
  by_cases ha : a ∈ cop ∧ b ∈ cop ∧ c ∈ cop
  · exact cnt_all a ha.1 b ha.2.1 c ha.2.2
  · have e1 : isCnt ⟨[a, b, c]⟩ = false := by
      refine Bool.eq_false_iff.mpr fun z => ha ?_
      unfold isCnt at z
      have z := (Bool.and_eq_true_iff.mp z).2
      simpa using z
    have e2 : lawC ⟨[a, b, c]⟩ = false := by
      refine Bool.eq_false_iff.mpr fun z => ha ?_
      unfold lawC at z
      split at z
      · cases z
      · rw [mem_cop, mem_cop, mem_cop]
        simpa using z
    have e3 : (⟨[a, b, c]⟩ : Tup Int) ∉ every := fun z => ha ⟨every_cop _ z a (by simp), every_cop _ z b (by simp), every_cop _ z c (by simp)⟩
    rw [e1, e2, decide_eq_false e3]
    exact ⟨rfl, rfl⟩
def popW : List Int → List Int → List Int
  | _, [] => []
  | l, d :: ds => l.getD (d % (l.length : Int)).toNat 0 :: popW (l.eraseIdx (d % (l.length : Int)).toNat) ds
def popL : List Int → List Int → List Int
  | l, [] => l
  | l, d :: ds => popL (l.eraseIdx (d % (l.length : Int)).toNat) ds
theorem popW_snoc (d : Int) : ∀ ds l : List Int, popW l (ds ++ [d]) = popW l ds ++ [(popL l ds).getD (d % ((popL l ds).length : Int)).toNat 0]
  | [], l => rfl
  | x :: r, l => by
    show _ :: popW _ (r ++ [d]) = (_ :: popW _ r) ++ _
    rw [popW_snoc d r]; rfl
theorem popL_snoc (d : Int) : ∀ ds l : List Int, popL l (ds ++ [d]) = (popL l ds).eraseIdx (d % ((popL l ds).length : Int)).toNat
  | [], l => rfl
  | x :: r, l => popL_snoc d r _
theorem popW_len : ∀ ds l : List Int, (popW l ds).length = ds.length
  | [], l => rfl
  | x :: r, l => by show (popW _ r).length + 1 = r.length + 1; rw [popW_len r]
theorem mod_lt {d : Int} {n : Nat} (h : 0 < n) : (d % (n : Int)).toNat < n ∧ d % (n : Int) = ((d % (n : Int)).toNat : Int) := by
  have h0 := Int.emod_nonneg d (b := (n : Int)) (by omega)
  have h1 := Int.emod_lt_of_pos d (b := (n : Int)) (by omega)
  omega
theorem popL_len : ∀ ds l : List Int, ds.length ≤ l.length → (popL l ds).length = l.length - ds.length
  | [], l, _ => rfl
  | x :: r, l, h => by
    have h : r.length + 1 ≤ l.length := h
    have hx := (mod_lt (d := x) (n := l.length) (by omega)).1
    have e : (l.eraseIdx (x % (l.length : Int)).toNat).length = l.length - 1 := by rw [List.length_eraseIdx, if_pos hx]
    show (popL _ r).length = l.length - (r.length + 1)
    rw [popL_len r _ (by omega), e]
    omega
theorem getD_mem {l : List Int} {i : Nat} : l.getD i 0 ∈ l ∨ l.getD i 0 = 0 := by
  rw [List.getD_eq_getElem?_getD]
  cases h : l[i]? with
  | none => exact .inr rfl
  | some x => exact .inl (List.mem_of_getElem? h)
theorem popW_mem : ∀ ds l : List Int, ∀ y ∈ popW l ds, y ∈ l ∨ y = 0
  | [], l, y, h => by cases h
  | x :: r, l, y, h => by
    rcases List.mem_cons.mp h with rfl | h
    · exact getD_mem
    · exact (popW_mem r _ y h).imp List.mem_of_mem_eraseIdx id
def L9 (far : Int) : List Int := [0, 1, 2, 3, 4, 5, 6 + far, -1 - far, 6]
def tr3 (loose : Bool) (ds : List Int) (far : Int) : Tup Int := if loose = true then ⟨ds.map fun x => (L9 far).getD x.toNat 0⟩ else ⟨popW (rng 0 6) ds⟩
theorem tr3_ok {loose : Bool} {ds : List Int} {far : Int} (hl : ds.length = 3) (h0 : 0 ≤ far) (h1 : far < 1000000000) : is3 (tr3 loose ds far) ∧ ∀ y ∈ (tr3 loose ds far).l, y.natAbs < 100000000000 := by
  unfold tr3
  split
  · refine ⟨is3_len (by rw [List.length_map]; exact hl), fun y hy => ?_⟩
    obtain ⟨x, _, rfl⟩ := List.mem_map.mp hy
    rcases getD_mem (l := L9 far) (i := x.toNat) with z | z
    · simp only [L9, List.mem_cons, List.not_mem_nil, or_false] at z
      simp only [L9]
      omega
    · rw [z]; decide
  · refine ⟨is3_len (by show (popW _ _).length = 3; rw [popW_len]; exact hl), fun y hy => ?_⟩
    rcases popW_mem _ _ y hy with z | z
    · have := rng_mem.mp z; omega
    · rw [z]; decide
def lims4 : List Int := [3, 21, 21, 1000000000] ++ (List.replicate (60 : Int).toNat [9]).flatten
def lse (ns : List Int) (p : Int) : Bool := decide (ns.getD 0 0 = 1) || (decide (ns.getD 0 0 = 2) && decide (p = ns.getD 2 0))
def cu (ns : List Int) (p : Int) : List Int := cutL ns (some (4 + 3 * p)) (some (7 + 3 * p))
def gvn (ns : List Int) : List (Tup Int) := (rng 0 (ns.getD 1 0)).map fun p => tr3 (lse ns p) (cu ns p) (ns.getD 3 0)
theorem cu_ok {ns : List Int} (hn : ns.length = 64) (hb : ∀ i, 4 ≤ i → i < 64 → 0 ≤ ns.getD i 0 ∧ ns.getD i 0 < 9) {p : Int} (h0 : 0 ≤ p) (h1 : p < 20) : (cu ns p).length = 3 ∧ ∀ x ∈ cu ns p, 0 ≤ x ∧ x < 9 := by
  have e : cu ns p = (ns.drop (4 + 3 * p.toNat)).take 3 := by
    unfold cu cutL
    rw [show 4 + 3 * p = ((4 + 3 * p.toNat : Nat) : Int) by omega, show 7 + 3 * p = ((7 + 3 * p.toNat : Nat) : Int) by omega, HT.sIx_nat, HT.sIx_nat, hn, Nat.min_eq_left (by omega), Nat.min_eq_left (by omega)]
    congr 1
    omega
  rw [e]
  refine ⟨by rw [List.length_take, List.length_drop, hn]; omega, fun x hx => ?_⟩
  obtain ⟨i, hi⟩ := List.mem_iff_getElem?.mp hx
  have hi3 : i < 3 := by
    have := (List.getElem?_eq_some_iff.mp hi).1
    rw [List.length_take] at this; omega
  rw [List.getElem?_take_of_lt hi3, List.getElem?_drop] at hi
  have := hb (4 + 3 * p.toNat + i) (by omega) (by omega)
  rw [List.getD_eq_getElem?_getD, hi] at this
  exact this
theorem first_bad : ∀ l : List (Tup Int), (∀ t ∈ l, lawC t = true) ∨ ∃ pre r post, l = pre ++ r :: post ∧ (∀ t ∈ pre, lawC t = true) ∧ lawC r = false
  | [] => .inl fun _ z => nomatch z
  | x :: l => by
    cases h : lawC x with
    | false => exact .inr ⟨[], x, l, rfl, (fun _ z => nomatch z), h⟩
    | true =>
      rcases first_bad l with q | ⟨pre, r, post, rfl, h1, h2⟩
      · exact .inl fun t ht => (List.mem_cons.mp ht).elim (fun z => z ▸ h) (q t)
      · exact .inr ⟨x :: pre, r, post, rfl, fun t ht => (List.mem_cons.mp ht).elim (fun z => z ▸ h) (h1 t), h2⟩
theorem bad_of {pre post : List (Tup Int)} {r : Tup Int} (h1 : ∀ t ∈ pre, lawC t = true) (h2 : lawC r = false) : (pre ++ r :: post).filter (fun t => !lawC t) = r :: post.filter fun t => !lawC t := by
  rw [List.filter_append, List.filter_eq_nil_iff.mpr fun t ht => by rw [h1 t ht]; exact Bool.false_ne_true, List.nil_append, List.filter_cons_of_pos (by rw [h2]; rfl)]
theorem bad_nil {l : List (Tup Int)} (h : ∀ t ∈ l, lawC t = true) : l.filter (fun t => !lawC t) = [] := List.filter_eq_nil_iff.mpr fun t ht => by rw [h t ht]; exact Bool.false_ne_true
theorem asc_ok (cs : List (Tup Int)) : (∀ t ∈ asc cs, t ∈ every) ∧ (asc cs).length ≤ 120 := ⟨fun t h => (List.mem_filter.mp h).1, Nat.le_trans (List.length_filter_le _ _) (by decide +kernel)⟩
end K
set_option maxHeartbeats 0
namespace K
open PySem L2 Pv
open Pv.Rp (rp)
open Pv.Ow (ow)
open Pv.Da (toD)
structure Tx (K : PySem.W.Frag) (mg : Str → Option Value) (c : CL) : Prop where
  all : mg "all" = none
  bool : mg "bool" = none
  classmethod : mg "classmethod" = none
  int : mg "int" = none
  isinstance : mg "isinstance" = none
  iter : mg "iter" = none
  len : mg "len" = none
  list : mg "list" = none
  range : mg "range" = none
  set : mg "set" = none
  tuple : mg "tuple" = none
  COPIES : ∃ p, mg "COPIES" = some (.ref p) ∧ ∀ c H, rp K c H (.ref p) (⟨[0, 1, 2, 3, 4, 5]⟩ : TupW Int)
  Book : Clf K mg c Bk
  KeeperError : mg "KeeperError" = some (.ref (c "KeeperError"))
  BadKey : mg "BadKey" = some (.ref (c "BadKey"))
  BadCount : mg "BadCount" = some (.ref (c "BadCount"))
  xBadCount : Xi K c "BadCount"
  fBadCount_triple : PySem.W.findIn K (.ref (c "BadCount")) "triple" = some none
  kBadCount_KeeperError : PySem.W.kitOne K (.ref (c "BadCount")) (.ref (c "KeeperError")) = some true
  kBadCount_BadKey : PySem.W.kitOne K (.ref (c "BadCount")) (.ref (c "BadKey")) = some false
end K
set_option maxHeartbeats 0
namespace K
open PySem L2 Pv
open Pv.Rp (rp)
open Pv.Ow (ow)
open Pv.Da (toD)
section
variable {P : Program} {w : World} {K : PySem.W.Frag} {mg : Str → Option Value} {base : Heap} {c : CL}
theorem ok_BCinit {f cda cc C : Addr} {fd : FuncData} (F : FunX K "__init__" "BadCount.__init__" s_BCinit f cda cc fd) (T : SupC P K mg C C cc cda) (hno : PySem.W.findIn K (.ref C) "triple" = some none) : FnOk P w K mg base CX0 1 f fd ["self", "triple"] (spE C (PrT K) ["triple"]) := by
  refine fn_excR F sc_BCinit T rfl (by decide) rfl rfl rfl rfl (fun A outer s H e ws hu hl hp hE => ?_) (fun A outer s H e ws hl hp hE DD hnx => ?_)
  · obtain ⟨a, l, rfl, hq, hs, hz⟩ := hp
    exact fs_tup hu (pe_var (i := 1) rfl (.inl rfl)) (fun Q q => ⟨.ref a, rfl, q⟩) hq hs hz (by decide) fun u => ⟨by show 1 ≤ 1000; decide, hE, rfl⟩
  · obtain ⟨a, l, rfl, hq, hs, hz⟩ := hp
    exact ost1 1 rfl rfl T.oex hno hE fun d hd hne => ⟨_, pss_nil, hnx _ d _ hd hne upd_same (by rw [upd_ne hne, upd_same]; rfl) fun b h1 h2 => by rw [upd_ne h1, upd_ne h2]⟩
end
end K
set_option maxHeartbeats 0
namespace K
open PySem L2 Pv
open Pv.Rp (rp)
open Pv.Ow (ow)
open Pv.Da (toD)
section
variable {P : Program} {w : World} {K : PySem.W.Frag} {mg : Str → Option Value} {base : Heap} {c : CL}
def R_every : List Pk → Pk → Prop := fun as r => as = [] ∧ r = ⟨every⟩
theorem ok_every {f : Addr} {fd : FuncData} (F : Fun K "_every_count" "_every_count" s_every f fd) (tx : Tx K mg c) : FnOk P w K mg base CX0 1 f fd [] (fsp K c R_every) := by
  obtain ⟨pC, mC, hC⟩ := tx.COPIES
  refine def_ok F sc_every (by rintro as r ⟨rfl, _⟩; rfl) (by decide) ?_
  rintro cdv A outer s H xk as r hr ⟨rfl, rfl⟩
  refine ss_set (v := pairs) 0 sc_every.nd (e_lc2 (own := [("sender", 1), ("taker", 2)]) (vs1 := [2]) (p := fun _ => true) (ys := fun _ => cop) (gf := fun x Γ => Γ.set 1 (d x)) (gf1 := fun _ y Γ => Γ.set 2 (d y)) (p1 := fun x y => !decide (x = y)) (f := fun x y => (⟨[x, y]⟩ : Tup Int)) rfl sc_every.nd (by rfl) rfl (by decide) (i_tupW (e_cst mC (hC c))) (by decide) (by decide)
    (fun x _ _ _ _ _ _ => g_name 1 sc_every.nd) (fun x _ _ _ _ _ _ => ts_nil) (fun x _ _ _ _ _ _ _ => i_tupW (e_cst mC (hC c))) (fun x _ y _ _ _ _ _ _ => g_name 2 sc_every.nd)
    (fun x _ y _ _ _ _ _ _ => ts_one (t_neS (e_var 1) (e_var 2))) (fun x _ y _ _ _ _ _ _ _ => e_tup (al_cons (e_var 1) (al_cons (e_var 2) al_nil)) ) (by decide +kernel)) ?_
  refine ss_ret (e_lc2 (own := [("copy", 3), ("sender", 1), ("taker", 2)]) (vs1 := [1, 2]) (p := fun _ => true) (ys := fun _ => pairs) (gf := fun x Γ => Γ.set 3 (d x)) (gf1 := fun _ y Γ => (Γ.set 1 (d (at0 y 0))).set 2 (d (at0 y 1))) (p1 := fun x y => !decide (x ∈ y.l)) (f := fun x y => (⟨[x, at0 y 0, at0 y 1]⟩ : Tup Int)) rfl sc_every.nd (by rfl) rfl (by decide) (i_tupW (e_cst mC (hC c))) (by decide) (by decide)
    (fun x _ _ _ _ _ _ => g_name 3 sc_every.nd) (fun x _ _ _ _ _ _ => ts_nil) (fun x _ _ _ _ _ _ _ => i_list (e_var 0)) (fun x _ y hy _ _ _ _ _ => g_tup2e (pairs_two y hy) rfl (g_name 1 sc_every.nd) (g_name 2 sc_every.nd))
    (fun x _ y hy _ _ _ _ _ => ts_one (T.is (t_notInT (ys := ⟨[at0 y 0, at0 y 1]⟩) (e_var 3) (e_tup (al_cons (e_var 1) (al_cons (e_var 2) al_nil)))) (by rw [← pairs_two y hy]))) (fun x _ y _ _ _ _ _ _ _ => e_tup (al_cons (e_var 3) (al_cons (e_var 1) (al_cons (e_var 2) al_nil)))) (by decide +kernel)) rfl
end
end K
set_option maxHeartbeats 0
namespace K
open PySem L2 Pv
open Pv.Rp (rp)
open Pv.Ow (ow)
open Pv.Da (toD)
section
variable {P : Program} {w : World} {K : PySem.W.Frag} {mg : Str → Option Value} {base : Heap} {c : CL}
def R_isCount : List Pk → Pk → Prop := fun as r => ∃ t : Tup Int, as = [⟨t⟩] ∧ t.l.length ≤ 1000 ∧ r = ⟨isCnt t⟩
theorem ok_isCount {f : Addr} {fd : FuncData} (F : Fun K "_is_count" "_is_count" s_isCount f fd) (tx : Tx K mg c) : FnOk P w K mg base CX0 1 f fd ["triple"] (fsp K c R_isCount) := by
  obtain ⟨pC, mC, hC⟩ := tx.COPIES
  refine def_ok F sc_isCount (by rintro as r ⟨_, rfl, _⟩; rfl) (by decide) ?_
  rintro cdv A outer s H xk as r hr ⟨t, rfl, hl, rfl⟩
  refine ss_ret (v := isCnt t) (e_and (e_eqS (e_lenSet (e_var 0) tx.len tx.set hl) e_int) (fun _ => e_one (e_all rfl (e_lc (own := [("number", 1)]) (p := fun _ => true) (f := fun n => decide (n ∈ cop)) (gf := fun x Γ => Γ.set 1 (d x)) rfl sc_isCount.nd (by rfl) rfl (i_tup (e_var 0)) (by decide) (by omega)
    (fun x _ _ _ _ _ _ => g_name 1 sc_isCount.nd) (fun x _ _ _ _ _ _ => ts_nil) (fun x _ _ _ _ _ _ _ => e_inW (e_var 1) (e_cst mC (hC c)))) tx.all))) rfl
end
end K
set_option maxHeartbeats 0
namespace K
open PySem L2 Pv
open Pv.Rp (rp)
open Pv.Ow (ow)
open Pv.Da (toD)
section
variable {P : Program} {w : World} {K : PySem.W.Frag} {mg : Str → Option Value} {base : Heap} {c : CL}
def R_asc : List Pk → Pk → Prop := fun as r => (∃ cs : List (Tup Int), as = [⟨cs⟩] ∧ cs.length < 1000000 ∧ r = ⟨dtB (asc cs)⟩) ∨ (∃ cs : TupW (Tup Int), as = [⟨cs⟩] ∧ cs.l.length < 1000000 ∧ r = ⟨dtB (asc cs.l)⟩)
theorem ok_asc {f : Addr} {fd : FuncData} (F : Fun K "_ascending" "_ascending" s_asc f fd) (tx : Tx K mg c) (dE : Df P w K mg base c "_every_count" 1 R_every) : FnOk P w K mg base CX0 2 f fd ["counts"] (fsp K c R_asc) := by
  refine def_ok F sc_asc (by rintro as r (⟨_, rfl, _⟩ | ⟨_, rfl, _⟩) <;> rfl) (by decide) ?_
  rintro cdv A outer s H xk as r hr (⟨cs, rfl, hl, rfl⟩ | ⟨cs, rfl, hl, rfl⟩)
  · have hu := hu_of hr
    refine ss_set 1 sc_asc.nd (e_dcT (own := [("count", 2)]) (p := fun _ => true) (kf := fun x => x.l) (f := fun _ => true) (gf := fun x Γ => Γ.set 2 (d x)) hu rfl sc_asc.nd (by rfl) rfl (i_list (e_var 0)) (by decide) hl
      (fun x _ _ _ _ _ _ => g_name 2 sc_asc.nd) (fun x _ _ _ _ _ _ => ts_nil) (fun x _ _ _ _ _ _ _ => e_var 2) (fun x _ _ _ _ _ _ _ => e_bl)) ?_
    refine ss_ret (E.is (e_dcT (own := [("count", 2)]) (p := fun t => (dtGet (dtOf ((cs.filter fun _ => true).map fun x => (x.l, true))) t.l).isSome) (kf := fun x => x.l) (f := fun _ => true) (gf := fun x Γ => Γ.set 2 (d x)) hu rfl sc_asc.nd (by rfl) rfl (i_list (e_call0 dE hr ⟨rfl, rfl⟩)) (by decide) (by decide +kernel)
      (fun x _ _ _ _ _ _ => g_name 2 sc_asc.nd) (fun x _ _ _ _ _ _ => ts_one (t_dIn hu (e_var 2) (e_var 1))) (fun x _ _ _ _ _ _ _ => e_var 2) (fun x _ _ _ _ _ _ _ => e_bl)) (congrArg Dt.mk (asc_dt cs))) rfl
  · have hu := hu_of hr
    refine ss_set 1 sc_asc.nd (e_dcT (own := [("count", 2)]) (p := fun _ => true) (kf := fun x => x.l) (f := fun _ => true) (gf := fun x Γ => Γ.set 2 (d x)) hu rfl sc_asc.nd (by rfl) rfl (i_tupW (t := cs) (e_var 0)) (by decide) hl
      (fun x _ _ _ _ _ _ => g_name 2 sc_asc.nd) (fun x _ _ _ _ _ _ => ts_nil) (fun x _ _ _ _ _ _ _ => e_var 2) (fun x _ _ _ _ _ _ _ => e_bl)) ?_
    refine ss_ret (E.is (e_dcT (own := [("count", 2)]) (p := fun t => (dtGet (dtOf ((cs.l.filter fun _ => true).map fun x => (x.l, true))) t.l).isSome) (kf := fun x => x.l) (f := fun _ => true) (gf := fun x Γ => Γ.set 2 (d x)) hu rfl sc_asc.nd (by rfl) rfl (i_list (e_call0 dE hr ⟨rfl, rfl⟩)) (by decide) (by decide +kernel)
      (fun x _ _ _ _ _ _ => g_name 2 sc_asc.nd) (fun x _ _ _ _ _ _ => ts_one (t_dIn hu (e_var 2) (e_var 1))) (fun x _ _ _ _ _ _ _ => e_var 2) (fun x _ _ _ _ _ _ _ => e_bl)) (congrArg Dt.mk (asc_dt cs.l))) rfl
end
end K
set_option maxHeartbeats 0
namespace K
open PySem L2 Pv
open Pv.Rp (rp)
open Pv.Ow (ow)
open Pv.Da (toD)
section
variable {P : Program} {w : World} {K : PySem.W.Frag} {mg : Str → Option Value} {base : Heap} {c : CL}
def R_init : List Pk → Bk → Prop := fun as b => (∃ cs : List (Tup Int), as = [⟨cs⟩] ∧ (∀ t ∈ cs, t ∈ every) ∧ cs.length < 1000000 ∧ b = ⟨asc cs⟩) ∨ (as = [⟨(⟨[]⟩ : TupW (Tup Int))⟩] ∧ b = bk mE)
theorem ok_init {f : Addr} {fd : FuncData} {dvs : List V} {kws : List (Str × V)} (F : FunD K "__init__" "Book.__init__" (defArgs s_init) (defBody s_init) (defScope s_init) dvs kws f fd) (tx : Tx K mg c) (dC : Df P w K mg base c "_is_count" 1 R_isCount) (dA : Df P w K mg base c "_ascending" 2 R_asc) : FnOk P w K mg base CX0 3 f fd ["self", "counts"] (spI K c R_init) := by
  refine init_okD F sc_init (by rintro as r (⟨_, rfl, _⟩ | ⟨rfl, _⟩) <;> rfl) (by decide) ?_
  rintro cdv A outer s H xk as ob p hr (⟨cs, rfl, hc, hl, rfl⟩ | ⟨rfl, rfl⟩)
  · refine ss_forF (fun _ => [.own (Raw.mk "Book" p []), d cs, .any]) PassesOwn.never rfl (i_list (e_var 1)) (fun x => g_name 2 sc_init.nd) (.same (.same (.any .nil))) (fun i x hx => ?_) ?_
    · have hx2 := every_ok x (hc x (List.mem_of_getElem? hx))
      refine ss_when (t_not (t_val (e_call dC (hr.mono (by decide)) (a_cons (e_var 2) a_nil) ⟨x, rfl, hx2.1, rfl⟩))) (fun z => ?_) (fun _ => ss_nil (.same (.same (.any .nil))))
      rw [hx2.2] at z; cases z
    · refine ss_fld 0 rfl tx.Book.kl.cl (tx.Book.kl.na ⟨[]⟩ "_counts" List.mem_cons_self) (by show 0 < 1000; decide) (e_call dA hr (a_cons (e_var 1) a_nil) (.inl ⟨cs, rfl, hl, rfl⟩)) (ss_nil ?_)
      rfl
  · refine ss_forF (fun _ => [.own (Raw.mk "Book" p []), d (⟨[]⟩ : TupW (Tup Int)), .any]) PassesOwn.never rfl (i_tupW (t := (⟨[]⟩ : TupW (Tup Int))) (e_var 1)) (fun x => g_name 2 sc_init.nd) (.same (.same (.any .nil))) (fun i x hx => ?_) ?_
    · cases hx
    · refine ss_fld (v := dtB (asc [])) 0 rfl tx.Book.kl.cl (tx.Book.kl.na ⟨[]⟩ "_counts" List.mem_cons_self) (by show 0 < 1000; decide) (e_call dA hr (a_cons (e_var 1) a_nil) (.inr ⟨⟨[]⟩, rfl, by show 0 < 1000000; decide, rfl⟩)) (ss_nil ?_)
      have e : asc [] = lst mE := by rw [lst_mE]; decide +kernel
      rw [e]
      rfl
end
end K
set_option maxHeartbeats 0
namespace K
open PySem L2 Pv
open Pv.Rp (rp)
open Pv.Ow (ow)
open Pv.Da (toD)
section
variable {P : Program} {w : World} {K : PySem.W.Frag} {mg : Str → Option Value} {base : Heap} {c : CL}
def R_initW : List Pk → Bk → Prop := fun as b => ∃ cs : List (Tup Int), as = [⟨(⟨cs⟩ : TupW (Tup Int))⟩] ∧ (∀ t ∈ cs, t ∈ every) ∧ cs.length < 1000000 ∧ b = ⟨asc cs⟩
theorem ok_initW {f : Addr} {fd : FuncData} {dvs : List V} {kws : List (Str × V)} (F : FunD K "__init__" "Book.__init__" (defArgs s_init) (defBody s_init) (defScope s_init) dvs kws f fd) (tx : Tx K mg c) (dC : Df P w K mg base c "_is_count" 1 R_isCount) (dA : Df P w K mg base c "_ascending" 2 R_asc) : FnOk P w K mg base CX0 3 f fd ["self", "counts"] (spI K c R_initW) := by
  refine init_okD F sc_init (by rintro as r ⟨_, rfl, _⟩; rfl) (by decide) ?_
  rintro cdv A outer s H xk as ob p hr ⟨cs, rfl, hc, hl, rfl⟩
  refine ss_forF (fun _ => [.own (Raw.mk "Book" p []), d (⟨cs⟩ : TupW (Tup Int)), .any]) PassesOwn.never rfl (i_tupW (t := (⟨cs⟩ : TupW (Tup Int))) (e_var 1)) (fun x => g_name 2 sc_init.nd) (.same (.same (.any .nil))) (fun i x hx => ?_) ?_
  · have hx2 := every_ok x (hc x (List.mem_of_getElem? hx))
    refine ss_when (t_not (t_val (e_call dC (hr.mono (by decide)) (a_cons (e_var 2) a_nil) ⟨x, rfl, hx2.1, rfl⟩))) (fun z => ?_) (fun _ => ss_nil (.same (.same (.any .nil))))
    rw [hx2.2] at z; cases z
  · refine ss_fld 0 rfl tx.Book.kl.cl (tx.Book.kl.na ⟨[]⟩ "_counts" List.mem_cons_self) (by show 0 < 1000; decide) (e_call dA hr (a_cons (e_var 1) a_nil) (.inr ⟨⟨cs⟩, rfl, hl, rfl⟩)) (ss_nil ?_)
    rfl
end
end K
set_option maxHeartbeats 0
namespace K
open PySem L2 Pv
open Pv.Rp (rp)
open Pv.Ow (ow)
open Pv.Da (toD)
section
variable {P : Program} {w : World} {K : PySem.W.Frag} {mg : Str → Option Value} {base : Heap} {c : CL}
abbrev xBC (t : Tup Int) : Xn := ⟨"BadCount", some [("triple", ⟨t⟩)]⟩
def R_initX : List Pk → Xn → Prop := fun as x => ∃ (pre post : List (Tup Int)) (t : Tup Int), as = [⟨pre ++ t :: post⟩] ∧ (∀ y ∈ pre, y.l.length ≤ 1000 ∧ isCnt y = true) ∧ isCnt t = false ∧ t.l.length ≤ 1000 ∧ (∀ y ∈ t.l, y.natAbs < 100000000000) ∧ x = xBC t
theorem ok_initX {f : Addr} {fd : FuncData} {dvs : List V} {kws : List (Str × V)} (F : FunD K "__init__" "Book.__init__" (defArgs s_init) (defBody s_init) (defScope s_init) dvs kws f fd) (tx : Tx K mg c) (dC : Df P w K mg base c "_is_count" 1 R_isCount) (nb : Xcf P w K mg base c "BadCount" 1 ["triple"] (PrT K)) : FnOk P w K mg base (L2N.CX P w) 3 f fd ["self", "counts"] (spIX K c Bk R_initX) := by
  refine init_okXD F sc_init (by rintro as r ⟨_, _, _, rfl, _⟩; rfl) (by decide) ?_
  rintro cdv A outer s H xk as x p hr ⟨pre, post, t, rfl, h1, h2, h3, h4, rfl⟩
  refine ss_forQ (fun _ => [.own (Raw.mk "Book" p []), d (pre ++ t :: post), .any]) (fun i => i ≤ pre.length) own_def rfl (i_list (xs := pre ++ t :: post) (e_var 1)) (fun x => g_name 2 sc_init.nd) (.same (.same (.any .nil))) (Nat.zero_le _) (fun i y hy hi => ?_) (fun h => ?_)
  · by_cases z : i < pre.length
    · rw [List.getElem?_append_left z] at hy
      have q := h1 y (List.mem_of_getElem? hy)
      refine ss_when (t_not (t_val (e_call dC (hr.mono (by decide)) (a_cons (e_var 2) a_nil) ⟨y, rfl, q.1, rfl⟩))) (fun z => ?_) (fun _ => ss_nil ⟨.same (.same (.any .nil)), z⟩)
      rw [q.2] at z; cases z
    · have e : i = pre.length := by omega
      subst e
      rw [List.getElem?_append_right (Nat.le_refl _), Nat.sub_self] at hy
      cases hy
      refine ss_when (t_not (t_val (e_call dC (hr.mono (by decide)) (a_cons (e_var 2) a_nil) ⟨t, rfl, h3, rfl⟩))) (fun _ => ?_) (fun z => ?_)
      · exact ss_raise (mk_own (as := [⟨t⟩]) nb tx.BadCount hr (a_cons (e_var 2) a_nil) rfl (prT_of (t := t) h4 h3)) rfl takes_def rfl
      · rw [h2] at z; cases z
  · simp at h
    omega
end
end K
set_option maxHeartbeats 0
namespace K
open PySem L2 Pv
open Pv.Rp (rp)
open Pv.Ow (ow)
open Pv.Da (toD)
section
variable {P : Program} {w : World} {K : PySem.W.Frag} {mg : Str → Option Value} {base : Heap} {c : CL}
def R_len : List Pk → Pk → Prop := fun as r => ∃ b : Bk, as = [⟨b⟩] ∧ r = ⟨(b.l.length : Int)⟩
theorem ok_len {f : Addr} {fd : FuncData} (F : Fun K "__len__" "Book.__len__" s_len f fd) (tx : Tx K mg c) : FnOk P w K mg base CX0 1 f fd ["self"] (fsp K c R_len) := by
  refine def_ok F sc_len (by rintro as r ⟨_, rfl, _⟩; rfl) (by decide) ?_
  rintro cdv A outer s H xk as r hr ⟨b, rfl, rfl⟩
  refine ss_ret (E.is (e_lenDt (y := dtB b.l) (e_fld tx.Book.kl (e_var 0) rfl List.mem_cons_self) tx.len) (by rw [List.length_map])) rfl
end
end K
set_option maxHeartbeats 0
namespace K
open PySem L2 Pv
open Pv.Rp (rp)
open Pv.Ow (ow)
open Pv.Da (toD)
section
variable {P : Program} {w : World} {K : PySem.W.Frag} {mg : Str → Option Value} {base : Heap} {c : CL}
def R_in : List Pk → Pk → Prop := fun as r => ∃ (b : Bk) (t : Tup Int), as = [⟨b⟩, ⟨t⟩] ∧ r = ⟨decide (t ∈ b.l)⟩
theorem ok_in {f : Addr} {fd : FuncData} (F : Fun K "__contains__" "Book.__contains__" s_in f fd) (tx : Tx K mg c) : FnOk P w K mg base CX0 1 f fd ["self", "x"] (fsp K c R_in) := by
  refine def_ok F sc_in (by rintro as r ⟨_, _, rfl, _⟩; rfl) (by decide) ?_
  rintro cdv A outer s H xk as r hr ⟨b, t, rfl, rfl⟩
  exact ss_ret (E.is (e_dIn (y := dtB b.l) (hu_of hr) (e_var 1) (e_fld (ob := b) tx.Book.kl (e_var 0) rfl List.mem_cons_self)) (dtB_in _ _)) rfl
end
end K
set_option maxHeartbeats 0
namespace K
open PySem L2 Pv
open Pv.Rp (rp)
open Pv.Ow (ow)
open Pv.Da (toD)
section
variable {P : Program} {w : World} {K : PySem.W.Frag} {mg : Str → Option Value} {base : Heap} {c : CL}
def R_isInt : List Pk → Pk → Prop := fun as r => ∃ i : Int, as = [⟨i⟩] ∧ r = ⟨true⟩
theorem ok_isInt {f : Addr} {fd : FuncData} (F : Fun K "_law_is_int" "_law_is_int" s_isInt f fd) (tx : Tx K mg c) : FnOk P w K mg base CX0 1 f fd ["_law_given"] (fsp K c R_isInt) := by
  refine def_ok F sc_isInt (by rintro as r ⟨_, rfl, _⟩; rfl) (by decide) ?_
  rintro cdv A outer s H xk as r hr ⟨i, rfl, rfl⟩
  exact ss_ret (e_and (e_isi (f := "int") (m := "int") (x := i) (r := true) (e_var 0) tx.isinstance tx.int (by decide +kernel)) (fun _ => e_one (e_not (e_isi (f := "bool") (m := "bool") (x := i) (r := false) (e_var 0) tx.isinstance tx.bool (by decide +kernel))))) rfl
end
end K
set_option maxHeartbeats 0
namespace K
open PySem L2 Pv
open Pv.Rp (rp)
open Pv.Ow (ow)
open Pv.Da (toD)
section
variable {P : Program} {w : World} {K : PySem.W.Frag} {mg : Str → Option Value} {base : Heap} {c : CL}
theorem ok_isIntH {f : Addr} {fd : FuncData} (F : Fun K "_law_is_int" "_law_is_int" s_isInt f fd) (tx : Tx K mg c) : L2H.FnH P w K mg base CX0 1 f fd ["_law_given"] (fsp K c R_isInt) := by
  refine def_okH F sc_isInt (by rintro as r ⟨_, rfl, _⟩; rfl) (by decide) ?_
  rintro cdv A outer s H xk p as r hr ⟨i, rfl, rfl⟩
  exact ss_ret (e_and (e_isi (f := "int") (m := "int") (x := i) (r := true) (e_var 0) tx.isinstance tx.int (by decide +kernel)) (fun _ => e_one (e_not (e_isi (f := "bool") (m := "bool") (x := i) (r := false) (e_var 0) tx.isinstance tx.bool (by decide +kernel))))) rfl
end
end K
set_option maxHeartbeats 0
namespace K
open PySem L2 Pv
open Pv.Rp (rp)
open Pv.Ow (ow)
open Pv.Da (toD)
section
variable {P : Program} {w : World} {K : PySem.W.Frag} {mg : Str → Option Value} {base : Heap} {c : CL}
def R_cell : List Pk → Pk → Prop := fun as r => ∃ (sc : List Int) (k : Nat), as = [⟨sc⟩, ⟨(k : Int)⟩] ∧ r = ⟨sc.getD k 0⟩
theorem ok_cell {f : Addr} {fd : FuncData} (F : Fun K "_law_cell" "_law_cell" s_cell f fd) (tx : Tx K mg c) : FnOk P w K mg base CX0 1 f fd ["_law_script", "_law_k"] (fsp K c R_cell) := by
  refine def_ok F sc_cell (by rintro as r ⟨_, _, rfl, _⟩; rfl) (by decide) ?_
  rintro cdv A outer s H xk as r hr ⟨sc, k, rfl, rfl⟩
  refine ss_when (t_lt (e_var 1) (e_len (as := sc) (e_var 0) tx.len)) (fun h => ?_) (fun h => ?_)
  · have hk : k < sc.length := by have := of_decide_eq_true h; omega
    exact ss_ret (e_ixL (x := sc[k]) (as := sc) (e_var 0) (e_var 1) (atI_nat (List.getElem?_eq_getElem hk))) (by show (⟨_⟩ : Pk) = ⟨_⟩; rw [List.getD_eq_getElem?_getD, List.getElem?_eq_getElem hk]; rfl)
  · have hk : ¬ k < sc.length := by have := of_decide_eq_false h; omega
    exact ss_ret e_int (by show (⟨_⟩ : Pk) = ⟨_⟩; rw [List.getD_eq_getElem?_getD, List.getElem?_eq_none (by omega)]; rfl)
end
end K
set_option maxHeartbeats 0
namespace K
open PySem L2 Pv
open Pv.Rp (rp)
open Pv.Ow (ow)
open Pv.Da (toD)
section
variable {P : Program} {w : World} {K : PySem.W.Frag} {mg : Str → Option Value} {base : Heap} {c : CL}
def R_numbers : List Pk → Pk → Prop := fun as r => ∃ (cell salt : Int) (lims : List Int), as = [⟨cell⟩, ⟨salt⟩, ⟨lims⟩] ∧ (∀ l ∈ lims, 0 < l ∧ l < 1073741824) ∧ lims.length < 1000 ∧ r = ⟨numbers cell salt lims⟩
theorem ok_numbers {f : Addr} {fd : FuncData} (F : Fun K "_law_numbers" "_law_numbers" s_numbers f fd) (tx : Tx K mg c) : FnOk P w K mg base CX0 1 f fd ["_law_cell_here", "_law_salt", "_law_limits"] (fsp K c R_numbers) := by
  refine def_ok F sc_numbers (by rintro as r ⟨_, _, _, rfl, _⟩; rfl) (by decide) ?_
  rintro cdv A outer s H xk as r hr ⟨cell, salt, lims, rfl, hl, hz, rfl⟩
  refine ss_set 3 sc_numbers.nd (e_var 0) ?_
  refine ss_newL 4 Int sc_numbers.nd ?_
  have len : ∀ k, ((lims.take k).foldl (numStep cell salt) (cell, [])).2.length ≤ k := by
    intro k
    rw [nums_len, List.length_take]
    show 0 + min k lims.length ≤ k
    omega
  refine ss_forF (fun i => [d cell, d salt, d lims, d ((lims.take i).foldl (numStep cell salt) (cell, [])).1, o ((lims.take i).foldl (numStep cell salt) (cell, [])).2, .any]) PassesOwn.never rfl (i_list (e_var 2)) (fun x => g_name 5 sc_numbers.nd)
    (.same (.same (.same (.same (.same (.any .nil)))))) (fun i x hx => ?_) ?_
  · have hx2 := hl x (List.mem_of_getElem? hx)
    have hi : i < lims.length := (List.getElem?_eq_some_iff.mp hx).1
    have e1 : (lims.take (i + 1)).foldl (numStep cell salt) (cell, []) = numStep cell salt ((lims.take i).foldl (numStep cell salt) (cell, [])) x := by
      rw [take_succ' hx, List.foldl_append]; rfl
    have hk := len i
    rw [e1]
    generalize (lims.take i).foldl (numStep cell salt) (cell, []) = st at hk
    refine ss_if (t_lt (e_var 0) (e_pow e_int e_int ⟨by decide, by decide, by decide⟩)) (fun h => ?_) (fun h => ?_)
    · have e2 : numStep cell salt st x = ((st.1 * 75 + 74 + salt) % 65537, st.2 ++ [(st.1 * 75 + 74 + salt) % 65537 / 7 % x]) := by unfold numStep; rw [if_pos]; have := of_decide_eq_true h; exact this
      rw [e2]
      refine ss_set 3 sc_numbers.nd (e_mod (e_intc (e_add (e_add (e_mul (e_var 3) e_int (.inr ⟨by decide, by decide⟩)) e_int) (e_var 1)) tx.int) e_int) ?_
      refine ss_app 4 rfl (e_mod (e_intc (e_fdiv (e_var 3) e_int) tx.int) (e_var 5) hx2.1) (by omega) ?_
      exact ss_nil (ss_nil (.same (.same (.same (.d rfl (.o rfl (.any .nil)))))))
    · have e2 : numStep cell salt st x = (st.1 / x, st.2 ++ [st.1 % x]) := by unfold numStep; rw [if_neg]; have := of_decide_eq_false h; exact this
      rw [e2]
      refine ss_app 4 rfl (e_mod (e_intc (e_var 3) tx.int) (e_var 5) hx2.1) (by omega) ?_
      refine ss_set 3 sc_numbers.nd (e_fdiv (e_var 3) (e_var 5) ⟨hx2.1, hx2.2⟩) ?_
      exact ss_nil (ss_nil (.same (.same (.same (.d rfl (.o rfl (.any .nil)))))))
  · refine ss_freezeL 4 rfl (ss_ret (e_var 4) ?_)
    show (⟨_⟩ : Pk) = ⟨_⟩
    rw [List.take_length]; rfl
end
end K
set_option maxHeartbeats 0
namespace K
open PySem L2 Pv
open Pv.Rp (rp)
open Pv.Ow (ow)
open Pv.Da (toD)
section
variable {P : Program} {w : World} {K : PySem.W.Frag} {mg : Str → Option Value} {base : Heap} {c : CL}
def R_triples : List Pk → Pk → Prop := fun as r => ∃ m : Int, as = [⟨m⟩] ∧ 0 ≤ m ∧ m ≤ 10 ∧ r = ⟨tri m⟩
theorem ok_triples {f : Addr} {fd : FuncData} (F : Fun K "_law_triples" "_law_triples" s_triples f fd) (tx : Tx K mg c) : FnOk P w K mg base CX0 1 f fd ["_law_many"] (fsp K c R_triples) := by
  refine def_ok F sc_triples (by rintro as r ⟨_, rfl, _⟩; rfl) (by decide) ?_
  rintro cdv A outer s H xk as r hr ⟨m, rfl, m0, m1, rfl⟩
  have hb : -4611686018427387904 ≤ m ∧ m < 4611686018427387904 := by omega
  have l3 : ∀ a b, (tri3 m a b).length ≤ 10 := fun a b => by have := flat_len (t3_len a b) (rng 0 m); rw [rng0_len] at this; show ((rng 0 m).flatMap (t3 a b)).length ≤ 10; omega
  have l2 : ∀ a, (tri2 m a).length ≤ 100 := fun a => by have := flat_len (l3 a) (rng 0 m); rw [rng0_len] at this; show ((rng 0 m).flatMap (tri3 m a)).length ≤ 100; omega
  refine ss_newL 1 (Tup Int) sc_triples.nd ?_
  refine ss_forF (fun i => [d m, o (((rng 0 m).take i).flatMap (tri2 m)), .any, .any, .any]) PassesOwn.never rfl (i_rng1 (e_var 0) hb tx.range) (fun x => g_name 2 sc_triples.nd) (.same (.same (.any (.any (.any .nil))))) (fun i a ha => ?_) ?_
  · have q1 : (((rng 0 m).take i).flatMap (tri2 m)).length ≤ 1000 := by have := flat_len l2 ((rng 0 m).take i); rw [List.length_take, rng0_len] at this; omega
    rw [flat_take ha]
    generalize ((rng 0 m).take i).flatMap (tri2 m) = acc at q1
    refine ss_forF (fun j => [d m, o (acc ++ ((rng 0 m).take j).flatMap (tri3 m a)), d a, .any, .any]) PassesOwn.never rfl (i_rng1 (e_var 0) hb tx.range) (fun x => g_name 3 sc_triples.nd) (.same (.o (by simp) (.same (.any (.any .nil))))) (fun j b hb' => ?_) (ss_nil ?_)
    · have q2 : (((rng 0 m).take j).flatMap (tri3 m a)).length ≤ 100 := by have := flat_len (l3 a) ((rng 0 m).take j); rw [List.length_take, rng0_len] at this; omega
      rw [flat_take hb', ← List.append_assoc]
      have q3 : (acc ++ ((rng 0 m).take j).flatMap (tri3 m a)).length ≤ 1100 := by rw [List.length_append]; omega
      generalize acc ++ ((rng 0 m).take j).flatMap (tri3 m a) = acc2 at q3
      refine ss_forF (fun k => [d m, o (acc2 ++ ((rng 0 m).take k).flatMap (t3 a b)), d a, d b, .any]) PassesOwn.never rfl (i_rng1 (e_var 0) hb tx.range) (fun x => g_name 4 sc_triples.nd) (.same (.o (by simp) (.same (.same (.any .nil))))) (fun k e he => ?_) (ss_nil ?_)
      · have q4 : (((rng 0 m).take k).flatMap (t3 a b)).length ≤ 10 := by have := flat_len (t3_len a b) ((rng 0 m).take k); rw [List.length_take, rng0_len] at this; omega
        rw [flat_take he, ← List.append_assoc]
        have q5 : (acc2 ++ ((rng 0 m).take k).flatMap (t3 a b)).length ≤ 1110 := by rw [List.length_append]; omega
        generalize acc2 ++ ((rng 0 m).take k).flatMap (t3 a b) = acc3 at q5
        refine ss_when (t_bool (tw_and (t_neS (i := a) (j := b) (e_var 2) (e_var 3)) (fun _ => tw_and (t_neS (i := a) (j := e) (e_var 2) (e_var 4)) (fun _ => tw_and1 (t_neS (i := b) (j := e) (e_var 3) (e_var 4)))))) (fun h => ?_) (fun h => ?_)
        · refine ss_app 1 rfl (e_tup (al_cons (e_var 2) (al_cons (e_var 3) (al_cons (e_var 4) al_nil)))) (by omega) (ss_nil (ss_nil (.same (.o ?_ (.same (.same (.any .nil)))))))
          unfold t3; rw [if_pos h]
        · refine ss_nil (.same (.o ?_ (.same (.same (.any .nil)))))
          unfold t3; rw [if_neg (by rw [h]; exact Bool.false_ne_true), List.append_nil]
      · rw [List.take_length]
        exact .same (.same (.same (.any (.any .nil))))
    · rw [List.take_length]
      exact .same (.same (.any (.any (.any .nil))))
  · rw [List.take_length]
    exact ss_freezeL 1 rfl (ss_ret (e_var 1) rfl)
end
end K
set_option maxHeartbeats 0
namespace K
open PySem L2 Pv
open Pv.Rp (rp)
open Pv.Ow (ow)
open Pv.Da (toD)
section
variable {P : Program} {w : World} {K : PySem.W.Frag} {mg : Str → Option Value} {base : Heap} {c : CL}
def R_srows : List Pk → Pk → Prop := fun as r => ∃ l : List (Tup Int), as = [⟨l⟩, ⟨l⟩] ∧ l.length < 1000000 ∧ (∀ t ∈ l, t.l.length < 1000000) ∧ r = ⟨true⟩
theorem ok_srows {f : Addr} {fd : FuncData} (F : Fun K "_law_same_rows" "_law_same_rows" s_srows f fd) (tx : Tx K mg c) (dI : Df P w K mg base c "_law_is_int" 1 R_isInt) : FnOk P w K mg base CX0 2 f fd ["_law_told", "_law_due"] (fsp K c R_srows) := by
  refine def_ok F sc_srows (by rintro as r ⟨_, rfl, _⟩; rfl) (by decide) ?_
  rintro cdv A outer s H xk as r hr ⟨l, rfl, hl, ht, rfl⟩
  have hu := hu_of hr
  refine ss_when (t_bool (tw_or (t_not (t_val (e_isi (f := "list") (m := "list") (x := l) (r := true) (e_var 0) tx.isinstance tx.list (by decide +kernel)))) (fun _ => tw_or1 (t_neS (e_len (as := l) (e_var 0) tx.len) (e_len (as := l) (e_var 1) tx.len))))) (fun h => ?_) (fun _ => ?_)
  · simp at h
  refine ss_forF (fun _ => [d l, d l, .any, .any]) PassesOwn.never rfl (i_rng1 (e_len (as := l) (e_var 1) tx.len) (by omega) tx.range) (fun x => g_name 2 sc_srows.nd) (.same (.same (.any (.any .nil)))) (fun i x hx => ?_) ?_
  · obtain ⟨hi, rfl⟩ : i < l.length ∧ x = (i : Int) := by
      have h1 := (List.getElem?_eq_some_iff.mp hx).1
      rw [rng0_len] at h1
      unfold rng at hx
      rw [List.getElem?_map, List.getElem?_range (by omega)] at hx
      have h2 : (0 : Int) + (i : Int) = x := Option.some.inj hx
      exact ⟨by omega, by omega⟩
    have at_ : atI l (i : Int) = some l[i] := atI_nat (List.getElem?_eq_getElem hi)
    have hm : l[i] ∈ l := List.getElem_mem hi
    refine ss_when (t_bool (tw_or (t_not (t_val (e_isi (f := "tuple") (m := "tuple") (x := l[i]) (r := true) (e_ixL (as := l) (e_var 0) (e_var 2) at_) tx.isinstance tx.tuple (by decide +kernel)))) (fun _ => tw_or1 (t_neD (hu64 hr) (e_ixL (as := l) (e_var 0) (e_var 2) at_) (e_ixL (as := l) (e_var 1) (e_var 2) at_))))) (fun h => ?_) (fun _ => ?_)
    · simp at h
    refine ss_when (t_not (t_val (e_all rfl (e_lc (own := [("_law_part", 3)]) (p := fun _ => true) (f := fun _ => true) (gf := fun x Γ => Γ.set 3 (d x)) rfl sc_srows.nd (by rfl) rfl (i_tup (e_ixL (as := l) (e_var 0) (e_var 2) at_)) (by decide) (ht _ hm)
      (fun x _ _ _ _ _ _ => g_name 3 sc_srows.nd) (fun x _ _ _ _ _ _ => ts_nil) (fun x _ _ _ _ _ _ _ => e_call dI hr (a_cons (e_var 3) a_nil) ⟨x, rfl, rfl⟩)) tx.all))) (fun h => ?_) (fun _ => ss_nil (.same (.same (.any (.any .nil)))))
    simp at h
  · exact ss_ret e_bl rfl
end
end K
set_option maxHeartbeats 0
namespace K
open PySem L2 Pv
open Pv.Rp (rp)
open Pv.Ow (ow)
open Pv.Da (toD)
section
variable {P : Program} {w : World} {K : PySem.W.Frag} {mg : Str → Option Value} {base : Heap} {c : CL}
def R_same : List Pk → Pk → Prop := fun as r => ∃ b : Bk, as = [⟨b⟩, ⟨b.l⟩] ∧ b.l.length < 1000000 ∧ (∀ t ∈ b.l, t.l.length < 1000000) ∧ r = ⟨true⟩
theorem ok_same {f : Addr} {fd : FuncData} (F : Fun K "_law_same_book" "_law_same_book" s_same f fd) (tx : Tx K mg c) (dI : Df P w K mg base c "_law_is_int" 1 R_isInt) (dR : Df P w K mg base c "_law_same_rows" 2 R_srows) (mLen : Mt P w K mg base c "Book" "__len__" 1 R_len) (itB : ItB K mg c Bk Bool "_counts" getB) : FnOk P w K mg base CX0 6 f fd ["_law_book", "_law_due"] (fsp K c R_same) := by
  refine def_ok F sc_same (by rintro as r ⟨_, rfl, _⟩; rfl) (by decide) ?_
  rintro cdv A outer s H xk as r hr ⟨b, rfl, hl, ht, rfl⟩
  have hlen : ∀ {Y : Cx} {Δ : List Sl} {p0 p1 pos : Pos} {y : Str}, Y.prog = P → Y.w = w → Y.K = K → Y.mg = mg → Y.base = base → True := fun _ _ _ _ _ => trivial
  refine ss_when (t_bool (tw_or (t_not (t_val (e_call dI (hr.mono (by decide)) (a_cons (e_lenO (ob := b) (z := (b.l.length : Int)) mLen (hr.mono (by decide)) (e_var 0) ⟨b, rfl, rfl⟩ (by omega) (by omega) tx.len) a_nil) ⟨_, rfl, rfl⟩))) (fun _ => tw_or1 (t_neS (e_lenO (ob := b) (z := (b.l.length : Int)) mLen (hr.mono (by decide)) (e_var 0) ⟨b, rfl, rfl⟩ (by omega) (by omega) tx.len) (e_len (as := b.l) (e_var 1) tx.len))))) (fun h => ?_) (fun _ => ?_)
  · simp at h
  refine ss_ret (e_call dR (hr.mono (by decide)) (a_cons (E.is (b := b.l) (e_listO (ob := b) itB mLen hr rfl (e_var 0) ⟨b, rfl, by rw [List.length_map]⟩ (by rw [List.length_map]; exact hl) tx.list) ?_) (a_cons (e_var 1) a_nil)) ⟨b.l, rfl, hl, ht, rfl⟩) rfl
  rw [List.map_map]
  exact List.map_id _
end
end K
set_option maxHeartbeats 0
namespace K
open PySem L2 Pv
open Pv.Rp (rp)
open Pv.Ow (ow)
open Pv.Da (toD)
section
variable {P : Program} {w : World} {K : PySem.W.Frag} {mg : Str → Option Value} {base : Heap} {c : CL}
def R_triple4 : List Pk → Pk → Prop := fun as r => ∃ (loose : Bool) (ds : List Int) (far : Int), as = [⟨loose⟩, ⟨ds⟩, ⟨far⟩] ∧ ds.length = 3 ∧ (∀ x ∈ ds, 0 ≤ x ∧ x < 9) ∧ r = ⟨tr3 loose ds far⟩
theorem ok_triple4 {f : Addr} {fd : FuncData} (F : Fun K "_law_triple" "_law_triple" s_triple4 f fd) (tx : Tx K mg c) : FnOk P w K mg base CX0 1 f fd ["_law_loose", "_law_draws", "_law_far"] (fsp K c R_triple4) := by
  refine def_ok F sc_triple4 (by rintro as r ⟨_, _, _, rfl, _⟩; rfl) (by decide) ?_
  rintro cdv A outer s H xk as r hr ⟨loose, ds, far, rfl, hl, hd, rfl⟩
  refine ss_when (t_val (z := loose) (e_var 0)) (fun h => ?_) (fun h => ?_)
  · refine ss_ret (v := tr3 loose ds far) (E.is (e_tupc (as := ds.map fun x => (L9 far).getD x.toNat 0) (E.is (e_lc (own := [("_law_draw", 3)]) (p := fun _ => true) (f := fun x => (L9 far).getD x.toNat 0) (gf := fun x Γ => Γ.set 3 (d x)) rfl sc_triple4.nd (by rfl) rfl (i_list (xs := ds) (e_var 1)) (by decide) (by omega)
      (fun x hx _ _ _ _ _ => g_name 3 sc_triple4.nd) (fun x hx _ _ _ _ _ => ts_nil) (fun x hx _ _ _ _ _ _ => e_ixL (as := L9 far) (e_lst (al_cons e_int (al_cons e_int (al_cons e_int (al_cons e_int (al_cons e_int (al_cons e_int (al_cons (e_add e_int (e_var 2)) (al_cons (e_sub (e_neg e_int) (e_var 2)) (al_cons e_int al_nil)))))))))) (e_var 3) (atI_getD (hd x hx).1 (by have := (hd x hx).2; show x.toNat < 9; omega)))) (by rw [filt_true])) tx.tuple) (by unfold tr3; rw [if_pos h])) rfl
  · refine ss_setO 4 sc_triple4.nd (eo_listR e_int (by decide) tx.list tx.range) ?_
    refine ss_newL 5 Int sc_triple4.nd ?_
    refine ss_forF (fun i => [d loose, d ds, d far, .any, o (popL (rng 0 6) (ds.take i)), o (popW (rng 0 6) (ds.take i))]) PassesOwn.never rfl (i_list (xs := ds) (e_var 1)) (fun x => g_name 3 sc_triple4.nd) (.same (.same (.same (.any (.same (.same .nil)))))) (fun i x hx => ?_) ?_
    · have hi : i < ds.length := (List.getElem?_eq_some_iff.mp hx).1
      rw [take_succ' hx, popL_snoc, popW_snoc]
      have h1 : (popL (rng 0 6) (ds.take i)).length = 6 - i := by
        rw [popL_len _ _ (by rw [List.length_take, rng0_len]; omega), rng0_len, List.length_take]; omega
      have h2 : (popW (rng 0 6) (ds.take i)).length = i := by rw [popW_len, List.length_take]; omega
      generalize popL (rng 0 6) (ds.take i) = left at h1 ⊢
      generalize popW (rng 0 6) (ds.take i) = found at h2 ⊢
      have hm := mod_lt (d := x) (n := left.length) (by omega)
      refine ss_appM 5 (xs := found) (v := left.getD (x % (left.length : Int)).toNat 0) rfl (em_popAt 4 (ys := left) rfl (e_mod (e_intc (e_var 3) tx.int) (e_lenOw 4 (xs := left) rfl tx.len) (by omega)) hm.2 (by rw [List.getD_eq_getElem?_getD, List.getElem?_eq_getElem hm.1]; rfl) (by omega)) rfl (by omega) (ss_nil (.same (.same (.same (.any (.same (.same .nil)))))))
    · refine ss_freezeL 5 rfl (ss_ret (v := tr3 loose ds far) (E.is (e_tupc (as := popW (rng 0 6) (ds.take ds.length)) (e_var 5) tx.tuple) (by unfold tr3; rw [if_neg (by rw [h]; exact Bool.false_ne_true), List.take_length])) rfl)
end
end K
set_option maxHeartbeats 0
namespace K
open PySem L2 Pv
open Pv.Rp (rp)
open Pv.Ow (ow)
open Pv.Da (toD)
section
variable {P : Program} {w : World} {K : PySem.W.Frag} {mg : Str → Option Value} {base : Heap} {c : CL}
def R_isC4 : List Pk → Pk → Prop := fun as r => ∃ t : Tup Int, as = [⟨t⟩] ∧ is3 t ∧ r = ⟨lawC t⟩
theorem ok_isC4 {f : Addr} {fd : FuncData} (F : Fun K "_law_is_count" "_law_is_count" s_isC4 f fd) (tx : Tx K mg c) : FnOk P w K mg base CX0 1 f fd ["_law_triple_here"] (fsp K c R_isC4) := by
  refine def_ok F sc_isC4 (by rintro as r ⟨_, rfl, _⟩; rfl) (by decide) ?_
  rintro cdv A outer s H xk as r hr ⟨t, rfl, h3, rfl⟩
  have hl : t.l.length = 3 := congrArg (fun t : Tup Int => t.l.length) h3
  refine ss_asg (v := t) (e_var 0) (g_tup3e h3 rfl (g_name 1 sc_isC4.nd) (g_name 2 sc_isC4.nd) (g_name 3 sc_isC4.nd)) ?_
  refine ss_when (t_bool (tw_or (t_eqS (i := at0 t 0) (j := at0 t 1) (e_var 1) (e_var 2)) (fun _ => tw_or (t_eqS (i := at0 t 0) (j := at0 t 2) (e_var 1) (e_var 3)) (fun _ => tw_or1 (t_eqS (i := at0 t 1) (j := at0 t 2) (e_var 2) (e_var 3)))))) (fun h => ?_) (fun h => ?_)
  · exact ss_ret (v := lawC t) (E.is e_bl (by unfold lawC; rw [if_pos h])) rfl
  · exact ss_ret (v := lawC t) (E.is (e_all rfl (e_lc (own := [("_law_part", 4)]) (p := fun _ => true) (f := fun p : Int => decide ((0 : Int) ≤ p) && decide (p < 6)) (gf := fun x Γ => Γ.set 4 (d x)) rfl sc_isC4.nd (by rfl) rfl (i_tup (t := t) (e_var 0)) (by decide) (by omega)
      (fun x hx _ _ _ _ _ => g_name 4 sc_isC4.nd) (fun x hx _ _ _ _ _ => ts_nil) (fun x hx _ _ _ _ _ _ => e_leLt e_int (e_var 4) e_int)) tx.all) (by unfold lawC; rw [if_neg (by rw [h]; exact Bool.false_ne_true)])) rfl
end
end K
set_option maxHeartbeats 0
namespace K
open PySem L2 Pv
open Pv.Rp (rp)
open Pv.Ow (ow)
open Pv.Da (toD)
section
variable {P : Program} {w : World} {K : PySem.W.Frag} {mg : Str → Option Value} {base : Heap} {c : CL}
def R_looks4 : List Pk → Pk → Prop := fun as r => ∃ (l : List (Tup Int)) (far : Int), as = [⟨(⟨l⟩ : Bk)⟩, ⟨l⟩, ⟨far⟩] ∧ (∀ t ∈ l, t ∈ every) ∧ l.length ≤ 120 ∧ 0 ≤ far ∧ r = ⟨true⟩
theorem no4 {l : List (Tup Int)} (h : ∀ t ∈ l, t ∈ every) {a b c : Int} (hn : ¬ ((0 ≤ a ∧ a < 6) ∧ (0 ≤ b ∧ b < 6) ∧ (0 ≤ c ∧ c < 6))) : decide ((⟨[a, b, c]⟩ : Tup Int) ∈ l) = false := by
  refine decide_eq_false fun z => hn ?_
  have q := every_cop _ (h _ z)
  exact ⟨mem_cop.mp (q a (by simp)), mem_cop.mp (q b (by simp)), mem_cop.mp (q c (by simp))⟩
theorem ok_looks4 {f : Addr} {fd : FuncData} (F : Fun K "_law_looks" "_law_looks" s_looks4 f fd) (tx : Tx K mg c) (dSR : Df P w K mg base c "_law_same_rows" 2 R_srows) (dSame : Df P w K mg base c "_law_same_book" 6 R_same) (mI : Mt P w K mg base c "Book" "__contains__" 1 R_in) (itB : ItB K mg c Bk Bool "_counts" getB) : FnOk P w K mg base CX0 7 f fd ["_law_book", "_law_due", "_law_far"] (fsp K c R_looks4) := by
  refine def_ok F sc_looks4 (by rintro as r ⟨_, _, rfl, _⟩; rfl) (by decide) ?_
  rintro cdv A outer s H xk as r hr ⟨l, far, rfl, hev, hlen, hfar, rfl⟩
  have r1 := hr.mono (show 1 ≤ 6 by decide)
  have r2 := hr.mono (show 2 ≤ 6 by decide)
  have q65 := hu65 hr
  have hl : l.length < 1000000 := by omega
  have hsh : ∀ t ∈ l, t.l.length < 1000000 := fun t ht => by rw [every_3 t (hev t ht)]; decide
  have ek : ((((getB (⟨l⟩ : Bk)).l.map fun kv => (⟨kv.1⟩ : Tup Int)).filter fun _ => true).map id) = l := by rw [filt_true, List.map_id]; exact map_keys l
  refine ss_when (t_bool (tw_or (t_not (t_val (e_call dSame hr (a_cons (e_var 0) (a_cons (e_var 1) a_nil)) ⟨⟨l⟩, rfl, hl, hsh, rfl⟩))) (fun _ => tw_or1 (t_not (t_val (e_call dSR r2 (a_cons (E.is (b := l) (e_lc (own := [("_law_triple_here", 3)]) (p := fun _ => true) (f := id) (gf := fun x Γ => Γ.set 3 (d x)) rfl sc_looks4.nd (by rfl) rfl (i_own (ob := (⟨l⟩ : Bk)) itB r1 (e_var 0)) (by decide) (by have e := map_keys l; have : ((getB (⟨l⟩ : Bk)).l.map fun kv => (⟨kv.1⟩ : Tup Int)) = l := e; rw [this]; exact hl)
      (fun x _ _ _ _ _ _ => g_name 3 sc_looks4.nd) (fun x _ _ _ _ _ _ => ts_nil) (fun x _ _ _ _ _ _ _ => e_var 3)) ek) (a_cons (e_var 1) a_nil)) ⟨l, rfl, hl, hsh, rfl⟩)))))) (fun h => ?_) (fun _ => ?_)
  · simp at h
  have sA : ∀ {a b e g : Sl}, Le [d (⟨l⟩ : Bk), d l, d far, .any, a, b, e, g] [d (⟨l⟩ : Bk), d l, d far, .any, .any, .any, .any, .any] := .same (.same (.same (.any (.any (.any (.any (.any .nil)))))))
  refine ss_forF (fun _ => [d (⟨l⟩ : Bk), d l, d far, .any, .any, .any, .any, .any]) PassesOwn.never rfl (i_rng2 (lo := -1) (hi := 7) (e_neg e_int) e_int (by decide) (by decide) tx.range) (fun x => g_name 4 sc_looks4.nd) sA (fun i a ha => ?_) ?_
  · refine ss_forF (fun _ => [d (⟨l⟩ : Bk), d l, d far, .any, d a, .any, .any, .any]) PassesOwn.never rfl (i_rng2 (lo := -1) (hi := 7) (e_neg e_int) e_int (by decide) (by decide) tx.range) (fun x => g_name 5 sc_looks4.nd) (.same (.same (.same (.any (.same (.any (.any (.any .nil)))))))) (fun i b hb => ?_) (ss_nil sA)
    refine ss_forF (fun _ => [d (⟨l⟩ : Bk), d l, d far, .any, d a, d b, .any, .any]) PassesOwn.never rfl (i_rng2 (lo := -1) (hi := 7) (e_neg e_int) e_int (by decide) (by decide) tx.range) (fun x => g_name 6 sc_looks4.nd) (.same (.same (.same (.any (.same (.same (.any (.any .nil)))))))) (fun i e he => ?_) (ss_nil (.same (.same (.same (.any (.same (.any (.any (.any .nil)))))))))
    refine ss_when (t_neS (i := decide ((⟨[a, b, e]⟩ : Tup Int) ∈ l)) (j := decide ((⟨[a, b, e]⟩ : Tup Int) ∈ l)) (e_inO (ob := (⟨l⟩ : Bk)) (y := (⟨[a, b, e]⟩ : Tup Int)) mI r1 (e_tup (al_cons (e_var 4) (al_cons (e_var 5) (al_cons (e_var 6) al_nil)))) (e_var 0) ⟨⟨l⟩, ⟨[a, b, e]⟩, rfl, rfl⟩) (e_inD q65 (x := (⟨[a, b, e]⟩ : Tup Int)) (ys := l) (e_tup (al_cons (e_var 4) (al_cons (e_var 5) (al_cons (e_var 6) al_nil)))) (e_var 1))) (fun h => ?_) (fun _ => ss_nil (.same (.same (.same (.any (.same (.same (.any (.any .nil)))))))))
    simp at h
  refine ss_forF (fun _ => [d (⟨l⟩ : Bk), d l, d far, .any, .any, .any, .any, .any]) PassesOwn.never rfl (i_list (xs := l) (e_var 1)) (fun x => g_name 3 sc_looks4.nd) sA (fun i t ht => ?_) ?_
  · have hm := hev t (List.mem_of_getElem? ht)
    have h3 := is3_len (every_3 t hm)
    refine ss_forF (fun _ => [d (⟨l⟩ : Bk), d l, d far, d t, .any, .any, .any, .any]) PassesOwn.never rfl (i_list (xs := [6, 7, 8, 10, 16, 100]) (e_lst (al_cons e_int (al_cons e_int (al_cons e_int (al_cons e_int (al_cons e_int (al_cons e_int al_nil)))))))) (fun x => g_name 7 sc_looks4.nd) (.same (.same (.same (.same (.any (.any (.any (.any .nil)))))))) (fun i u hu => ?_) (ss_nil (.same (.same (.same (.any (.any (.any (.any (.any .nil)))))))))
    have h6 : 6 ≤ u := by
      have := List.mem_of_getElem? hu
      simp only [List.mem_cons, List.not_mem_nil, or_false] at this
      omega
    have q := every_cop _ hm
    have m1 := mem_cop.mp (q (at0 t 1) (by rw [h3]; simp [at0]))
    have m2 := mem_cop.mp (q (at0 t 2) (by rw [h3]; simp [at0]))
    refine ss_asg (v := t) (e_var 3) (g_tup3e h3 rfl (g_name 4 sc_looks4.nd) (g_name 5 sc_looks4.nd) (g_name 6 sc_looks4.nd)) ?_
    refine ss_when (t_bool (tw_or (t_inO (ob := (⟨l⟩ : Bk)) (y := (⟨[at0 t 0, at0 t 1 - 1, at0 t 2 + u]⟩ : Tup Int)) (z := false) mI r1 (e_tup (al_cons (e_var 4) (al_cons (e_sub (e_var 5) e_int) (al_cons (e_add (e_var 6) (e_var 7)) al_nil)))) (e_var 0) ⟨⟨l⟩, _, rfl, by rw [no4 hev (by omega)]⟩) (fun _ => tw_or1 (t_inO (ob := (⟨l⟩ : Bk)) (y := (⟨[at0 t 0 - 1, at0 t 1 + u, at0 t 2]⟩ : Tup Int)) (z := false) mI r1 (e_tup (al_cons (e_sub (e_var 4) e_int) (al_cons (e_add (e_var 5) (e_var 7)) (al_cons (e_var 6) al_nil)))) (e_var 0) ⟨⟨l⟩, _, rfl, by rw [no4 hev (by omega)]⟩)))) (fun h => ?_) (fun _ => ss_nil (.same (.same (.same (.same (.any (.any (.any (.any .nil)))))))))
    simp at h
  exact ss_ret (v := true) (E.is (e_and (e_notInO (ob := (⟨l⟩ : Bk)) (y := (⟨[far + 6, 0, 1]⟩ : Tup Int)) (z := false) mI r1 (e_tup (al_cons (e_add (e_var 2) e_int) (al_cons e_int (al_cons e_int al_nil)))) (e_var 0) ⟨⟨l⟩, _, rfl, by rw [no4 hev (by omega)]⟩) (fun _ => e_one (e_notInO (ob := (⟨l⟩ : Bk)) (y := (⟨[0, 1, -1 - far]⟩ : Tup Int)) (z := false) mI r1 (e_tup (al_cons e_int (al_cons e_int (al_cons (e_sub (e_neg e_int) (e_var 2)) al_nil)))) (e_var 0) ⟨⟨l⟩, _, rfl, by rw [no4 hev (by omega)]⟩))) rfl) rfl
end
end K
set_option maxHeartbeats 0
namespace K
open PySem L2 Pv
open Pv.Rp (rp)
open Pv.Ow (ow)
open Pv.Da (toD)
section
variable {P : Program} {w : World} {K : PySem.W.Frag} {mg : Str → Option Value} {base : Heap} {c : CL}
abbrev tw (ns : List Int) (p : Int) : Tup Int := tr3 (lse ns p) (cu ns p) (ns.getD 3 0)
theorem lims_at {i : Nat} (h1 : 4 ≤ i) (h2 : i < 64) : lims4[i]? = some 9 := by
  have h : ∀ i : Fin 64, 4 ≤ i.val → lims4[i.val]? = some 9 := by decide +kernel
  exact h ⟨i, h2⟩ h1
def R_law : List Pk → Pk → Prop := fun as r => ∃ sc : List Int, as = [⟨sc⟩] ∧ r = ⟨true⟩
theorem ok_law {f : Addr} {fd : FuncData} (F : Fun K "law" "law" s_law_k04 f fd) (tx : Tx K mg c) (dCell : Df P w K mg base c "_law_cell" 1 R_cell) (dNum : Df P w K mg base c "_law_numbers" 1 R_numbers) (dT : Df P w K mg base c "_law_triple" 1 R_triple4) (dC : Df P w K mg base c "_law_is_count" 1 R_isC4)
    (dTri : Df P w K mg base c "_law_triples" 1 R_triples) (dI : DfH P w K mg base c "_law_is_int" 1 R_isInt) (dSame : Df P w K mg base c "_law_same_book" 6 R_same) (dLk : Df P w K mg base c "_law_looks" 7 R_looks4)
    (mkB : Mq P w K mg base c Bk "Book" 3 R_init) (mkW : Mq P w K mg base c Bk "Book" 3 R_initW) (mk0 : Mq0 P w K mg base c Bk "Book" 3 (bk mE)) (mkX : MqX P w K mg base c Bk "Book" 3 R_initX) : FnOk P w K mg base CX0 8 f fd ["_law_script"] (fsp K c R_law) := by
  refine def_ok F sc_law_k04 (by rintro as r ⟨_, rfl, _⟩; rfl) (by decide) ?_
  rintro cdv A outer s H xk as r hr ⟨sc, rfl, rfl⟩
  have nd := sc_law_k04.nd
  have r1 := hr.mono (show 1 ≤ 7 by decide)
  have r4 := hr.mono (show 4 ≤ 7 by decide)
  have r6 := hr.mono (show 6 ≤ 7 by decide)
  have q65 := hu65 hr
  have q64 := hu64 hr
  refine ss_set (v := numbers (sc.getD 0 0) 6 lims4) 1 nd (e_call dNum r1 (a_cons (e_call dCell r1 (a_cons (e_var 0) (a_cons e_int a_nil)) ⟨sc, 0, rfl, rfl⟩) (a_cons e_int (a_cons (E.is (b := lims4) (e_cat (e_lst (al_cons e_int (al_cons e_int (al_cons e_int (al_cons (e_pow e_int e_int ⟨by decide, by decide, by decide⟩) al_nil))))) (e_rep (al_cons e_int al_nil) e_int) (by decide)) (by decide +kernel)) a_nil))) ⟨_, 6, lims4, rfl, by decide +kernel, by decide, rfl⟩) ?_
  have hn : (numbers (sc.getD 0 0) 6 lims4).length = 64 := by unfold numbers; rw [nums_len]; rfl
  have hpos : ∀ l ∈ lims4, 0 < l := by decide +kernel
  have z1 := nums_lt (cell := sc.getD 0 0) (salt := 6) hpos (i := 1) (l := 21) rfl
  have z3 := nums_lt (cell := sc.getD 0 0) (salt := 6) hpos (i := 3) (l := 1000000000) rfl
  have zd : ∀ i, 4 ≤ i → i < 64 → 0 ≤ (numbers (sc.getD 0 0) 6 lims4).getD i 0 ∧ (numbers (sc.getD 0 0) 6 lims4).getD i 0 < 9 := fun i h1 h2 => nums_lt hpos (lims_at h1 h2)
  generalize numbers (sc.getD 0 0) 6 lims4 = ns at hn z1 z3 zd ⊢
  have ix : ∀ {Y : Cx} {Δ : List Sl} {e2 : Expr} {j : Int} {q1 q2 : Pos} {y : Str} (h0 : 0 ≤ j) (h1 : j.toNat < 64) (ha : E Y c Δ (.Name y q1) ns) (hb : E Y c Δ e2 j) (hp : PlainIx e2), E Y c Δ (.Subscript (.Name y q1) e2 q2) (ns.getD j.toNat 0) := fun h0 h1 ha hb hp => e_ixL ha hb (atI_getD h0 (by omega)) hp
  refine ss_newL 2 (Tup Int) nd ?_
  show Ss _ _ _ [d sc, d ns, o ([] : List (Tup Int)), .any, .any, .any, .any, .any, .any, .any, .any, .any] _ _
  refine ss_forF (xs := rng 0 (ns.getD 1 0)) (fun i => [d sc, d ns, o (((rng 0 (ns.getD 1 0)).take i).map (tw ns)), .any, .any, .any, .any, .any, .any, .any, .any, .any]) PassesOwn.never rfl (i_rng1 (m := ns.getD 1 0) (ix (j := 1) (by decide) (by decide) (e_var 1) e_int (fun _ _ => rfl)) (by exact ⟨by have := z1.1; show (-4611686018427387904 : Int) ≤ ns.getD 1 0; omega, by have := z1.2; show ns.getD 1 0 < (4611686018427387904 : Int); omega⟩) tx.range) (fun x => g_name 3 nd) (Le.refl _) (fun i p hp => ?_) ?_
  · have hp2 := rng_mem.mp (List.mem_of_getElem? hp)
    have hcu := cu_ok hn zd (p := p) hp2.1 (by have := hp2.2; have := z1.2; have : p < ns.getD 1 0 := hp2.2; omega)
    have hil : i < (rng 0 (ns.getD 1 0)).length := (List.getElem?_eq_some_iff.mp hp).1
    rw [rng0_len] at hil
    rw [take_succ' hp, List.map_append]
    refine ss_set (v := lse ns p) 4 nd (e_or (e_eqS (i := ns.getD 0 0) (j := 1) (ix (j := 0) (by decide) (by decide) (e_var 1) e_int (fun _ _ => rfl)) e_int) (fun _ => e_one (e_and (e_eqS (i := ns.getD 0 0) (j := 2) (ix (j := 0) (by decide) (by decide) (e_var 1) e_int (fun _ _ => rfl)) e_int) (fun _ => e_one (e_eqS (i := p) (j := ns.getD 2 0) (e_var 3) (ix (j := 2) (by decide) (by decide) (e_var 1) e_int (fun _ _ => rfl))))))) ?_
    refine ss_app 2 (v := tw ns p) rfl (e_call dT r1 (a_cons (e_var 4) (a_cons (e_slL (t := ns) (lo := some (4 + 3 * p)) (hi := some (7 + 3 * p)) (e_var 1) (e_add e_int (e_mul e_int (e_var 3) (.inl ⟨by decide, by decide⟩))) (e_add e_int (e_mul e_int (e_var 3) (.inl ⟨by decide, by decide⟩)))) (a_cons (ix (j := 3) (by decide) (by decide) (e_var 1) e_int (fun _ _ => rfl)) a_nil))) ⟨lse ns p, cu ns p, ns.getD 3 0, rfl, hcu.1, hcu.2, rfl⟩) (by rw [List.length_map, List.length_take, rng0_len]; omega) (ss_nil (.same (.same (.same (.any (.any (.any (.any (.any (.any (.any (.any (.any .nil)))))))))))))
  rw [List.take_length]
  have hg3 : ∀ t ∈ (rng 0 (ns.getD 1 0)).map (tw ns), is3 t ∧ ∀ y ∈ t.l, y.natAbs < 100000000000 := fun t ht => by
    obtain ⟨p, hp, rfl⟩ := List.mem_map.mp ht
    have hp2 := rng_mem.mp hp
    exact tr3_ok (cu_ok hn zd (p := p) hp2.1 (by have := z1.2; have : p < ns.getD 1 0 := hp2.2; omega)).1 z3.1 z3.2
  have hgl : ((rng 0 (ns.getD 1 0)).map (tw ns)).length ≤ 20 := by rw [List.length_map, rng0_len]; have := z1.2; omega
  generalize (rng 0 (ns.getD 1 0)).map (tw ns) = gv at hg3 hgl ⊢
  refine ss_freezeL 2 (xs := gv) rfl ?_
  show Ss _ _ _ [d sc, d ns, d gv, .any, .any, .any, .any, .any, .any, .any, .any, .any] _ _
  refine ss_setLc 5 (own := [("_law_triple_here", 6)]) (p := fun t => !lawC t) (f := id) (gf := fun x Γ => Γ.set 6 (d x)) rfl nd (by rfl) rfl (i_list (xs := gv) (e_var 2)) (by decide) (by omega)
    (fun x _ _ _ _ _ _ => g_name 6 nd) (fun t ht _ _ _ _ _ => ts_one (t_not (t_val (e_call dC r1 (a_cons (e_var 6) a_nil) ⟨t, rfl, (hg3 t ht).1, rfl⟩)))) (fun x _ _ _ _ _ _ _ => e_var 6) ?_
  rw [List.map_id]
  refine ss_setO 7 nd (eo_listc (as := gv) (e_var 2) tx.list) ?_
  rcases first_bad gv with hA | ⟨pre, t, post, rfl, hb1, hb2⟩
  · rw [bad_nil hA]
    have hev : ∀ t ∈ gv, t ∈ every := fun t ht => by
      have e := (cnt3 (hg3 t ht).1).2
      rw [hA t ht] at e
      exact of_decide_eq_true e.symm
    refine ss_try 9 nd ⟨rfl, by decide, .inl tx.BadCount⟩ takes_nox (fun W' pn xe tk po => ?_)
    refine ss_set (v := (⟨asc gv⟩ : Bk)) 8 nd (e_lendLO 7 (xs := gv) (.cons .nil) rfl (e_make mkB r4 (a_cons (e_var 7) a_nil) (.inl ⟨gv, rfl, hev, by omega, rfl⟩))) (ss_nil ?_)
    show Ss _ _ _ [d sc, d ns, d gv, .any, .any, d ([] : List (Tup Int)), .any, o gv, d (⟨asc gv⟩ : Bk), .any, .any, .any] _ _
    refine ss_when (t_neD (x := ([] : List (Tup Int))) (y := []) q64 (e_var 5) (e_lst al_nil)) (fun h => ?_) (fun _ => ?_)
    · simp at h
    refine ss_setLc 11 (own := [("_law_triple_here", 6)]) (p := fun t => decide (t ∈ gv)) (f := id) (gf := fun x Γ => Γ.set 6 (d x)) rfl nd (by rfl) rfl (i_list (xs := every) (e_call dTri r1 (a_cons e_int a_nil) ⟨6, rfl, by decide, by decide, by rw [tri_six]⟩)) (by decide) (by decide +kernel)
      (fun x _ _ _ _ _ _ => g_name 6 nd) (fun t ht _ _ _ _ _ => ts_one (t_inD q65 (x := t) (ys := gv) (e_var 6) (e_var 2))) (fun x _ _ _ _ _ _ _ => e_var 6) ?_
    rw [List.map_id]
    show Ss _ _ _ [d sc, d ns, d gv, .any, .any, d ([] : List (Tup Int)), .any, o gv, d (⟨asc gv⟩ : Bk), .any, .any, d (asc gv)] _ _
    have lk : R_looks4 [⟨(⟨asc gv⟩ : Bk)⟩, ⟨asc gv⟩, ⟨ns.getD 3 0⟩] ⟨true⟩ := ⟨asc gv, ns.getD 3 0, rfl, (asc_ok gv).1, (asc_ok gv).2, z3.1, rfl⟩
    refine ss_when (t_bool (tw_or (t_not (t_val (e_call dLk hr (a_cons (e_var 8) (a_cons (e_var 11) (a_cons (ix (j := 3) (by decide) (by decide) (e_var 1) e_int (fun _ _ => rfl)) a_nil))) lk))) (fun _ => tw_or1 (t_not (t_val (e_call dLk hr (a_cons (e_make mkW r4 (a_cons (e_tw (e_tupc (as := gv) (e_var 2) tx.tuple)) a_nil) ⟨gv, rfl, hev, by omega, rfl⟩) (a_cons (e_var 11) (a_cons (ix (j := 3) (by decide) (by decide) (e_var 1) e_int (fun _ _ => rfl)) a_nil))) lk)))))) (fun h => ?_) (fun _ => ?_)
    · simp at h
    refine ss_app 7 (xs := gv) (v := (⟨[5, 4, 3]⟩ : Tup Int)) rfl (e_tup (al_cons e_int (al_cons e_int (al_cons e_int al_nil)))) (by omega) ?_
    refine ss_ins0 7 (xs := gv ++ [⟨[5, 4, 3]⟩]) (v := (⟨[0, 1, 2]⟩ : Tup Int)) rfl e_int (e_tup (al_cons e_int (al_cons e_int (al_cons e_int al_nil)))) (by rw [List.length_append]; show gv.length + 1 < 1000000; omega) ?_
    refine ss_when (t_not (t_val (e_call dLk hr (a_cons (e_var 8) (a_cons (e_var 11) (a_cons (ix (j := 3) (by decide) (by decide) (e_var 1) e_int (fun _ _ => rfl)) a_nil))) lk))) (fun h => ?_) (fun _ => ?_)
    · simp at h
    exact ss_ret (v := true) (e_call dSame r6 (a_cons (e_make0N mk0 r4).e (a_cons (E.is (b := lst mE) (e_lst al_nil) lst_mE.symm) a_nil)) ⟨bk mE, rfl, lst_short mE, fun t ht => by rw [every_3 t (lst_sub ht)]; decide, rfl⟩) rfl
  · rw [bad_of hb1 hb2]
    have ht := hg3 t (by simp)
    have h3 : t.l.length = 3 := congrArg (fun t : Tup Int => t.l.length) ht.1
    refine ss_freezeL 7 (xs := pre ++ t :: post) rfl ?_
    refine ss_try 9 nd ⟨rfl, by decide, .inl tx.BadCount⟩ takes_nox (fun W' pn xe tk po => ?_)
    refine ss_setX 8 nd (xp_make mkX tk r4 (a_cons (e_var 7) a_nil) ⟨pre, post, t, rfl, fun y hy => by
      have q := (hg3 y (List.mem_append_left _ hy)).1
      exact ⟨by rw [show y.l.length = 3 from congrArg (fun t : Tup Int => t.l.length) q]; decide, (cnt3 q).1.trans (hb1 y hy)⟩, (cnt3 ht.1).1.trans hb2, by omega, ht.2, rfl⟩) ?_
    refine .inl ⟨tx.xBadCount.exm, fun p oe pn dd hz hf => ?_⟩
    refine ss_when (t_bool (tw_or (t_eqD (x := t :: post.filter fun t => !lawC t) (y := ([] : List (Tup Int))) q64 (e_var 5) (e_lst al_nil)) (fun _ => tw_or (t_not (t_val (e_isX (x := xBC t) (r := true) tx.xBadCount.exc tx.xBadCount.cl hz hf (e_var 9) tx.isinstance tx.KeeperError tx.kBadCount_KeeperError))) (fun _ => tw_or (t_val (e_isX (x := xBC t) (r := false) tx.xBadCount.exc tx.xBadCount.cl hz hf (e_var 9) tx.isinstance tx.BadKey tx.kBadCount_BadKey)) (fun _ => tw_or1 (t_not (t_val (e_isi (f := "tuple") (m := "tuple") (x := t) (r := true) (e_xf (x := xBC t) (z := t) tx.xBadCount.xf tx.fBadCount_triple hz hf (e_var 9) rfl rfl) tx.isinstance tx.tuple (by decide +kernel))))))))) (fun h => ?_) (fun _ => ?_)
    · simp at h
    exact ss_ret (v := true) (E.is (e_and (e_eqD (x := t) (y := t) q64 (e_xf (x := xBC t) (z := t) tx.xBadCount.xf tx.fBadCount_triple hz hf (e_var 9) rfl rfl) (e_ixL (as := t :: post.filter fun t => !lawC t) (e_var 5) e_int (atI_of (by decide) rfl))) (fun _ => e_one (e_allH (hot_suite hz hf) (e_lcH (own := [("_law_part", 10)]) (f := fun _ : Int => true) (gf := fun x Γ => Γ.set 10 (d x)) (hot_pin hz hf).1 (hot_pin hz hf).2 nd (by rfl) (i_tupH (e_xf (x := xBC t) (z := t) tx.xBadCount.xf tx.fBadCount_triple hz hf (e_var 9) rfl rfl)) (by decide) (by omega)
      (fun x hx _ _ _ _ _ => g_name 10 nd) (fun x hx _ _ _ _ _ => e_callH dI (room_mark (hr.mono (by decide)) _) ⟨(p, oe), (hot_pin hz hf).2, List.mem_singleton.mpr rfl⟩ (a_cons (e_var 10) a_nil) ⟨x, rfl, rfl⟩)) tx.all))) (by simp)) rfl
end
end K
set_option maxHeartbeats 0
namespace K
open PySem L2 Pv
open Pv.Rp (rp)
open Pv.Ow (ow)
open Pv.Da (toD)
theorem it_body (Y : Cx) (e1 : Y.N = (["self"] : List Str)) (e2 : Y.env.scope = defScope s_iter) (e3 : Y.mg "iter" = none) : PSs Y (defBody s_iter) (tRet (tCB (rIterK Y.s_0.heap.objs.size) (tCons (tFld Y.K (tVar 0) ("_counts" : Str)) tNil))) := by
  have v : Vis Y.env.scope "self" := by rw [e2]; exact .inl rfl
  have g : Gl Y "iter" := by unfold Gl Env.kindOf; rw [e2]; rfl
  exact pss_one (ps_ret (pe_callB call_iterK g e3 (by decide +kernel) (pa_cons (pe_fld (pe_var (by rw [e1]; rfl) v) rfl) pa_nil)))

theorem all_mk {l : PySem.W.OpenLaw} {w : World} {K : PySem.W.Frag} {h : Heap} {mg : Str → Option Value} {fa C_Book C_KeeperError C_BadKey C_BadCount f_BCinit cda_BCinit cc_BCinit f_every f_isCount f_asc f_init dT_init dE_init f_len f_in f_iter f_isInt f_cell f_numbers f_triples f_srows f_same f_triple4 f_isC4 f_looks4 f_law_k04 p_COPIES : Addr} (X : K.In h) (G : h.Ns mainGlobals mg) (hfa : mg "law" = some (.ref fa))
    {od_BCinit an_BCinit cdd_BCinit od_every an_every od_isCount an_isCount od_asc an_asc odD_init odE_init od_init an_init od_len an_len od_in an_in od_iter an_iter od_isInt an_isInt od_cell an_cell od_numbers an_numbers od_triples an_triples od_srows an_srows od_same an_same od_triple4 an_triple4 od_isC4 an_isC4 od_looks4 an_looks4 od_law_k04 an_law_k04 od_COPIES : Option Addr} {sl_BCinit ccs_BCinit sl_every sl_isCount sl_asc slD_init slE_init sl_init sl_len sl_in sl_iter sl_isInt sl_cell sl_numbers sl_triples sl_srows sl_same sl_triple4 sl_isC4 sl_looks4 sl_law_k04 sl_COPIES : Array (Option Value)} {oc_BCinit kV_BCinit dc_BCinit pm_BCinit ct_BCinit ccl_BCinit oc_every kV_every dc_every pm_every cd_every ct_every oc_isCount kV_isCount dc_isCount pm_isCount cd_isCount ct_isCount oc_asc kV_asc dc_asc pm_asc cd_asc ct_asc ocD_init oc_init kV_init dc_init pm_init cd_init ct_init oc_len kV_len dc_len pm_len cd_len ct_len oc_in kV_in dc_in pm_in cd_in ct_in oc_iter kV_iter dc_iter pm_iter cd_iter ct_iter oc_isInt kV_isInt dc_isInt pm_isInt cd_isInt ct_isInt oc_cell kV_cell dc_cell pm_cell cd_cell ct_cell oc_numbers kV_numbers dc_numbers pm_numbers cd_numbers ct_numbers oc_triples kV_triples dc_triples pm_triples cd_triples ct_triples oc_srows kV_srows dc_srows pm_srows cd_srows ct_srows oc_same kV_same dc_same pm_same cd_same ct_same oc_triple4 kV_triple4 dc_triple4 pm_triple4 cd_triple4 ct_triple4 oc_isC4 kV_isC4 dc_isC4 pm_isC4 cd_isC4 ct_isC4 oc_looks4 kV_looks4 dc_looks4 pm_looks4 cd_looks4 ct_looks4 oc_law_k04 kV_law_k04 dc_law_k04 pm_law_k04 cd_law_k04 ct_law_k04 : Value} {nD_init nE_init n_COPIES : Nat} {t_COPIES_0 t_COPIES_1 t_COPIES_2 t_COPIES_3 t_COPIES_4 t_COPIES_5 : Tok} {nm_BadCount qn_BadCount : Str} {N_BadCount : Addr} {bs_BadCount sub_BadCount : List Value} {sn_BadCount : List Str} {ab_BadCount : Bool} {col_BadCount : Option Bool} {dd_BadCount : Option Addr} {m0_BadCount m1_BadCount m2_BadCount m3_BadCount m5_BadCount : Option Value} {vs_BCinit : Array Value} {file_BCinit : Str} {tf_BCinit : Tok}
    (aC_Book : PySem.W.nsIn K mainGlobals "Book" = some (some (.ref C_Book)))
    (pg_Book : PySem.W.plainGet K C_Book Str.empty = true)
    (hd_Book : PySem.W.hasDictIn K C_Book = true)
    (po_Book : PySem.W.plainOver K C_Book = true)
    (sa_Book : PySem.W.findIn K (.ref C_Book) "__setattr__" = some (some (.builtin "object.__setattr__")))
    (mk_Book : PySem.W.makesIn K C_Book = true)
    (kc_Book : PySem.W.keepIn K (.ref C_Book) = true)
    (sf_Book : PySem.W.selfFirst K C_Book = true)
    (ha_Book : PySem.W.findIn K (.ref C_Book) "__class__" = some (some (.builtin "object.__class__")))
    (hm_Book : PySem.W.mroIn K C_Book (.type "object") = some true)
    (nI_Book__counts : PySem.W.findIn K (.ref C_Book) "_counts" = some none)
    (hn : PySem.W.specialIn K (.builtin "object.__class__") "__get__" = some (some (.builtin "getset_descriptor.__get__")))
    (ht : PySem.W.takesIn K (.builtin "object.__class__") = some true)
    (aC_KeeperError : PySem.W.nsIn K mainGlobals "KeeperError" = some (some (.ref C_KeeperError)))
    (aC_BadKey : PySem.W.nsIn K mainGlobals "BadKey" = some (some (.ref C_BadKey)))
    (aC_BadCount : PySem.W.nsIn K mainGlobals "BadCount" = some (some (.ref C_BadCount)))
    (z_super : PySem.W.nsIn K mainGlobals "super" = some none)
    (htop : (l.prog.main.scope.names.lookup ("super" : Str)).isSome = false)
    (opq : PySem.W.nsIn K cStatics "thirdparty.any" = some none)
    (xL_BadCount : K.lookup C_BadCount = some (excClassObj nm_BadCount qn_BadCount C_BadCount N_BadCount bs_BadCount [.ref C_KeeperError, .type "ValueError", .type "Exception", .type "BaseException", .type "object"] true sn_BadCount sub_BadCount ab_BadCount col_BadCount dd_BadCount m0_BadCount m1_BadCount m2_BadCount m3_BadCount m5_BadCount "ValueError.__new__"))
    (sa_BadCount : PySem.W.findIn K (.ref C_BadCount) "__setattr__" = some (some (.builtin "object.__setattr__")))
    (ga_BadCount : PySem.W.findIn K (.ref C_BadCount) "__getattribute__" = some (some (.builtin "BaseException.__getattribute__")))
    (gg_BadCount : PySem.W.findIn K (.ref C_BadCount) "__getattr__" = some none)
    (kC_BadCount : PySem.W.keepIn K (.ref C_BadCount) = true)
    (eC_BadCount : PySem.W.subIn K (.ref C_BadCount) (.type "BaseException") = some true)
    (tC_BadCount : PySem.W.typeIn K (.ref C_BadCount) = some (.type "type"))
    (hC_BadCount : PySem.W.hasDictIn K C_BadCount = true)
    (sC_BadCount : PySem.W.subIn K (.ref C_BadCount) (.ref C_BadCount) = some true)
    (ha_BadCount : PySem.W.findIn K (.ref C_BadCount) "__class__" = some (some (.builtin "object.__class__")))
    (hm_BadCount : PySem.W.mroIn K C_BadCount (.type "object") = some true)
    (nI_BadCount_triple : PySem.W.findIn K (.ref C_BadCount) "triple" = some none)
    (kp_BadCount_KeeperError : PySem.W.kitOne K (.ref C_BadCount) (.ref C_KeeperError) = some true)
    (kp_BadCount_BadKey : PySem.W.kitOne K (.ref C_BadCount) (.ref C_BadKey) = some false)
    (a_BCinit : PySem.W.findIn K (.ref C_BadCount) "__init__" = some (some (.ref f_BCinit)))
    (t_BCinit : PySem.W.typeIn K (.ref f_BCinit) = some (.type "function"))
    (l_BCinit : K.lookup f_BCinit = some ⟨oc_BCinit, od_BCinit, .func (PySem.W.ksFn "__init__" "BadCount.__init__" (defArgs s_BCinit) (defBody s_BCinit) (defScope s_BCinit) .none kV_BCinit dc_BCinit pm_BCinit an_BCinit (.ref cda_BCinit) ct_BCinit cc_BCinit), sl_BCinit⟩)
    (c_BCinit : PySem.W.codeIn K (.ref cda_BCinit) "BadCount.__init__" = true)
    (ce_BCinit : K.lookup cc_BCinit = some ⟨.type "cell", none, .cell (some (.ref C_BadCount)), #[]⟩)
    (co_BCinit : K.lookup cda_BCinit = some ⟨ccl_BCinit, cdd_BCinit, .fields vs_BCinit, ccs_BCinit⟩)
    (v2_BCinit : vs_BCinit[2]? = some (.str file_BCinit tf_BCinit))
    (fi_BCinit : ((l.prog.main.file : Str) == file_BCinit) = true)
    (sb_BCinit : PySem.W.mroIn K C_BadCount (.ref C_BadCount) = some true)
    (iv_BCinit : PySem.W.subIn K (.ref C_BadCount) (.type "ValueError") = some true)
    (al_BCinit : PySem.W.ks_superIn K C_BadCount C_BadCount "__init__" = some (some (.builtin "ValueError.__init__")))
    (a_every : PySem.W.nsIn K mainGlobals "_every_count" = some (some (.ref f_every)))
    (l_every : K.lookup f_every = some ⟨oc_every, od_every, .func (PySem.W.fnOf "_every_count" "_every_count" (defArgs s_every) (defBody s_every) (defScope s_every) .none kV_every dc_every pm_every an_every cd_every ct_every), sl_every⟩)
    (c_every : PySem.W.codeIn K cd_every "_every_count" = true)
    (k_every : PySem.W.keepIn K (.ref f_every) = true)
    (a_isCount : PySem.W.nsIn K mainGlobals "_is_count" = some (some (.ref f_isCount)))
    (l_isCount : K.lookup f_isCount = some ⟨oc_isCount, od_isCount, .func (PySem.W.fnOf "_is_count" "_is_count" (defArgs s_isCount) (defBody s_isCount) (defScope s_isCount) .none kV_isCount dc_isCount pm_isCount an_isCount cd_isCount ct_isCount), sl_isCount⟩)
    (c_isCount : PySem.W.codeIn K cd_isCount "_is_count" = true)
    (k_isCount : PySem.W.keepIn K (.ref f_isCount) = true)
    (a_asc : PySem.W.nsIn K mainGlobals "_ascending" = some (some (.ref f_asc)))
    (l_asc : K.lookup f_asc = some ⟨oc_asc, od_asc, .func (PySem.W.fnOf "_ascending" "_ascending" (defArgs s_asc) (defBody s_asc) (defScope s_asc) .none kV_asc dc_asc pm_asc an_asc cd_asc ct_asc), sl_asc⟩)
    (c_asc : PySem.W.codeIn K cd_asc "_ascending" = true)
    (k_asc : PySem.W.keepIn K (.ref f_asc) = true)
    (a_init : PySem.W.findIn K (.ref C_Book) "__init__" = some (some (.ref f_init)))
    (i_init : PySem.W.isFn K (.ref f_init) = true)
    (l_init : K.lookup f_init = some ⟨oc_init, od_init, .func (PySem.W.fnOf "__init__" "Book.__init__" (defArgs s_init) (defBody s_init) (defScope s_init) (.ref dT_init) kV_init dc_init pm_init an_init cd_init ct_init), sl_init⟩)
    (lD_init : K.lookup dT_init = some ⟨ocD_init, odD_init, .seq #[.ref dE_init] nD_init, slD_init⟩)
    (lE_init : K.lookup dE_init = some ⟨.type "tuple", odE_init, .seq #[] nE_init, slE_init⟩)
    (c_init : PySem.W.codeIn K cd_init "Book.__init__" = true)
    (k_init : PySem.W.keepIn K (.ref f_init) = true)
    (a_len : PySem.W.findIn K (.ref C_Book) "__len__" = some (some (.ref f_len)))
    (i_len : PySem.W.isFn K (.ref f_len) = true)
    (n_len : PySem.W.fnIn K f_len = true)
    (l_len : K.lookup f_len = some ⟨oc_len, od_len, .func (PySem.W.fnOf "__len__" "Book.__len__" (defArgs s_len) (defBody s_len) (defScope s_len) .none kV_len dc_len pm_len an_len cd_len ct_len), sl_len⟩)
    (c_len : PySem.W.codeIn K cd_len "Book.__len__" = true)
    (k_len : PySem.W.keepIn K (.ref f_len) = true)
    (a_in : PySem.W.findIn K (.ref C_Book) "__contains__" = some (some (.ref f_in)))
    (i_in : PySem.W.isFn K (.ref f_in) = true)
    (n_in : PySem.W.fnIn K f_in = true)
    (l_in : K.lookup f_in = some ⟨oc_in, od_in, .func (PySem.W.fnOf "__contains__" "Book.__contains__" (defArgs s_in) (defBody s_in) (defScope s_in) .none kV_in dc_in pm_in an_in cd_in ct_in), sl_in⟩)
    (c_in : PySem.W.codeIn K cd_in "Book.__contains__" = true)
    (k_in : PySem.W.keepIn K (.ref f_in) = true)
    (a_iter : PySem.W.findIn K (.ref C_Book) "__iter__" = some (some (.ref f_iter)))
    (i_iter : PySem.W.isFn K (.ref f_iter) = true)
    (n_iter : PySem.W.fnIn K f_iter = true)
    (l_iter : K.lookup f_iter = some ⟨oc_iter, od_iter, .func (PySem.W.fnOf "__iter__" "Book.__iter__" (defArgs s_iter) (defBody s_iter) (defScope s_iter) .none kV_iter dc_iter pm_iter an_iter cd_iter ct_iter), sl_iter⟩)
    (c_iter : PySem.W.codeIn K cd_iter "Book.__iter__" = true)
    (k_iter : PySem.W.keepIn K (.ref f_iter) = true)
    (a_isInt : PySem.W.nsIn K mainGlobals "_law_is_int" = some (some (.ref f_isInt)))
    (l_isInt : K.lookup f_isInt = some ⟨oc_isInt, od_isInt, .func (PySem.W.fnOf "_law_is_int" "_law_is_int" (defArgs s_isInt) (defBody s_isInt) (defScope s_isInt) .none kV_isInt dc_isInt pm_isInt an_isInt cd_isInt ct_isInt), sl_isInt⟩)
    (c_isInt : PySem.W.codeIn K cd_isInt "_law_is_int" = true)
    (k_isInt : PySem.W.keepIn K (.ref f_isInt) = true)
    (a_cell : PySem.W.nsIn K mainGlobals "_law_cell" = some (some (.ref f_cell)))
    (l_cell : K.lookup f_cell = some ⟨oc_cell, od_cell, .func (PySem.W.fnOf "_law_cell" "_law_cell" (defArgs s_cell) (defBody s_cell) (defScope s_cell) .none kV_cell dc_cell pm_cell an_cell cd_cell ct_cell), sl_cell⟩)
    (c_cell : PySem.W.codeIn K cd_cell "_law_cell" = true)
    (k_cell : PySem.W.keepIn K (.ref f_cell) = true)
    (a_numbers : PySem.W.nsIn K mainGlobals "_law_numbers" = some (some (.ref f_numbers)))
    (l_numbers : K.lookup f_numbers = some ⟨oc_numbers, od_numbers, .func (PySem.W.fnOf "_law_numbers" "_law_numbers" (defArgs s_numbers) (defBody s_numbers) (defScope s_numbers) .none kV_numbers dc_numbers pm_numbers an_numbers cd_numbers ct_numbers), sl_numbers⟩)
    (c_numbers : PySem.W.codeIn K cd_numbers "_law_numbers" = true)
    (k_numbers : PySem.W.keepIn K (.ref f_numbers) = true)
    (a_triples : PySem.W.nsIn K mainGlobals "_law_triples" = some (some (.ref f_triples)))
    (l_triples : K.lookup f_triples = some ⟨oc_triples, od_triples, .func (PySem.W.fnOf "_law_triples" "_law_triples" (defArgs s_triples) (defBody s_triples) (defScope s_triples) .none kV_triples dc_triples pm_triples an_triples cd_triples ct_triples), sl_triples⟩)
    (c_triples : PySem.W.codeIn K cd_triples "_law_triples" = true)
    (k_triples : PySem.W.keepIn K (.ref f_triples) = true)
    (a_srows : PySem.W.nsIn K mainGlobals "_law_same_rows" = some (some (.ref f_srows)))
    (l_srows : K.lookup f_srows = some ⟨oc_srows, od_srows, .func (PySem.W.fnOf "_law_same_rows" "_law_same_rows" (defArgs s_srows) (defBody s_srows) (defScope s_srows) .none kV_srows dc_srows pm_srows an_srows cd_srows ct_srows), sl_srows⟩)
    (c_srows : PySem.W.codeIn K cd_srows "_law_same_rows" = true)
    (k_srows : PySem.W.keepIn K (.ref f_srows) = true)
    (a_same : PySem.W.nsIn K mainGlobals "_law_same_book" = some (some (.ref f_same)))
    (l_same : K.lookup f_same = some ⟨oc_same, od_same, .func (PySem.W.fnOf "_law_same_book" "_law_same_book" (defArgs s_same) (defBody s_same) (defScope s_same) .none kV_same dc_same pm_same an_same cd_same ct_same), sl_same⟩)
    (c_same : PySem.W.codeIn K cd_same "_law_same_book" = true)
    (k_same : PySem.W.keepIn K (.ref f_same) = true)
    (a_triple4 : PySem.W.nsIn K mainGlobals "_law_triple" = some (some (.ref f_triple4)))
    (l_triple4 : K.lookup f_triple4 = some ⟨oc_triple4, od_triple4, .func (PySem.W.fnOf "_law_triple" "_law_triple" (defArgs s_triple4) (defBody s_triple4) (defScope s_triple4) .none kV_triple4 dc_triple4 pm_triple4 an_triple4 cd_triple4 ct_triple4), sl_triple4⟩)
    (c_triple4 : PySem.W.codeIn K cd_triple4 "_law_triple" = true)
    (k_triple4 : PySem.W.keepIn K (.ref f_triple4) = true)
    (a_isC4 : PySem.W.nsIn K mainGlobals "_law_is_count" = some (some (.ref f_isC4)))
    (l_isC4 : K.lookup f_isC4 = some ⟨oc_isC4, od_isC4, .func (PySem.W.fnOf "_law_is_count" "_law_is_count" (defArgs s_isC4) (defBody s_isC4) (defScope s_isC4) .none kV_isC4 dc_isC4 pm_isC4 an_isC4 cd_isC4 ct_isC4), sl_isC4⟩)
    (c_isC4 : PySem.W.codeIn K cd_isC4 "_law_is_count" = true)
    (k_isC4 : PySem.W.keepIn K (.ref f_isC4) = true)
    (a_looks4 : PySem.W.nsIn K mainGlobals "_law_looks" = some (some (.ref f_looks4)))
    (l_looks4 : K.lookup f_looks4 = some ⟨oc_looks4, od_looks4, .func (PySem.W.fnOf "_law_looks" "_law_looks" (defArgs s_looks4) (defBody s_looks4) (defScope s_looks4) .none kV_looks4 dc_looks4 pm_looks4 an_looks4 cd_looks4 ct_looks4), sl_looks4⟩)
    (c_looks4 : PySem.W.codeIn K cd_looks4 "_law_looks" = true)
    (k_looks4 : PySem.W.keepIn K (.ref f_looks4) = true)
    (a_law_k04 : PySem.W.nsIn K mainGlobals "law" = some (some (.ref f_law_k04)))
    (l_law_k04 : K.lookup f_law_k04 = some ⟨oc_law_k04, od_law_k04, .func (PySem.W.fnOf "law" "law" (defArgs s_law_k04) (defBody s_law_k04) (defScope s_law_k04) .none kV_law_k04 dc_law_k04 pm_law_k04 an_law_k04 cd_law_k04 ct_law_k04), sl_law_k04⟩)
    (c_law_k04 : PySem.W.codeIn K cd_law_k04 "law" = true)
    (k_law_k04 : PySem.W.keepIn K (.ref f_law_k04) = true)
    (aP_COPIES : PySem.W.nsIn K mainGlobals "COPIES" = some (some (.ref p_COPIES)))
    (lP_COPIES : K.lookup p_COPIES = some ⟨.type "tuple", od_COPIES, .seq #[.int 0 t_COPIES_0, .int 1 t_COPIES_1, .int 2 t_COPIES_2, .int 3 t_COPIES_3, .int 4 t_COPIES_4, .int 5 t_COPIES_5] n_COPIES, sl_COPIES⟩)
    (z_all : PySem.W.nsIn K mainGlobals "all" = some none)
    (z_bool : PySem.W.nsIn K mainGlobals "bool" = some none)
    (z_classmethod : PySem.W.nsIn K mainGlobals "classmethod" = some none)
    (z_int : PySem.W.nsIn K mainGlobals "int" = some none)
    (z_isinstance : PySem.W.nsIn K mainGlobals "isinstance" = some none)
    (z_iter : PySem.W.nsIn K mainGlobals "iter" = some none)
    (z_len : PySem.W.nsIn K mainGlobals "len" = some none)
    (z_list : PySem.W.nsIn K mainGlobals "list" = some none)
    (z_range : PySem.W.nsIn K mainGlobals "range" = some none)
    (z_set : PySem.W.nsIn K mainGlobals "set" = some none)
    (z_tuple : PySem.W.nsIn K mainGlobals "tuple" = some none) :
    ∃ c : CL, ∃ fd : FuncData, (∀ (s : Shared) (v : Value), BindsTo s fd ⟨[v], []⟩ [("_law_script", v)]) ∧ ∀ base : Heap, K.In base → base.Ns mainGlobals mg → FnOk l.prog w K mg base CX0 8 fa fd ["_law_script"] (fsp K c R_law) := by
  have e := hfa.symm.trans (PySem.W.mg_of X G a_law_k04)
  cases e
  have mg_ := fun {x : Str} {v : Value} (z : PySem.W.nsIn K mainGlobals x = some (some v)) => PySem.W.mg_of X G z
  have no_ := fun {x : Str} (z : PySem.W.nsIn K mainGlobals x = some none) => PySem.W.mg_none_of X G z
  have oex_BadCount : OexC K C_BadCount := ⟨⟨_, _, _, _, _, _, _, _, _, _, _, _, _, _, _, xL_BadCount, rfl⟩, sa_BadCount, eC_BadCount, tC_BadCount, kC_BadCount⟩
  have cd_BadCount : ∃ cd, PySem.W.clsIn K C_BadCount = some cd := ⟨_, by unfold PySem.W.clsIn; rw [xL_BadCount] <;> rfl⟩
  have exc_BadCount : ExcC K C_BadCount := ⟨ga_BadCount, gg_BadCount, eC_BadCount, hC_BadCount, ha_BadCount, hn, ht, hm_BadCount⟩
  have xf_BadCount : XfC K C_BadCount := ⟨ga_BadCount, gg_BadCount, eC_BadCount, hC_BadCount⟩
  have exm_BadCount := PySem.W.exm_ref eC_BadCount hC_BadCount tC_BadCount sC_BadCount
  have FX_BCinit : FunX K "__init__" "BadCount.__init__" s_BCinit f_BCinit cda_BCinit cc_BCinit _ := ⟨⟨_, _, _, _, _, _, _, _, rfl, l_BCinit, c_BCinit⟩⟩
  have b_BCinit : Binds K (PySem.W.ksFn "__init__" "BadCount.__init__" (defArgs s_BCinit) (defBody s_BCinit) (defScope s_BCinit) .none kV_BCinit dc_BCinit pm_BCinit an_BCinit (.ref cda_BCinit) ct_BCinit cc_BCinit) ["self", "triple"] [] := fun s us _ hl => match us, hl with | [_, _], _ => .of_eq rfl
  have SX_BCinit : SupC l.prog K mg C_BadCount C_BadCount cc_BCinit cda_BCinit := ⟨oex_BadCount, ce_BCinit, cd_BadCount, sb_BCinit, no_ z_super, ⟨_, _, _, _, _, _, co_BCinit, v2_BCinit, fi_BCinit⟩, htop, opq, iv_BCinit, al_BCinit⟩
  have F_every := fun_mk (st := s_every) l_every c_every k_every
  have b_every := F_every.binds (ps := []) fun _ _ _ _ _ _ us hl => match us, hl with | [], _ => rfl
  have F_isCount := fun_mk (st := s_isCount) l_isCount c_isCount k_isCount
  have b_isCount := F_isCount.binds (ps := ["triple"]) fun _ _ _ _ _ _ us hl => match us, hl with | [_], _ => rfl
  have F_asc := fun_mk (st := s_asc) l_asc c_asc k_asc
  have b_asc := F_asc.binds (ps := ["counts"]) fun _ _ _ _ _ _ us hl => match us, hl with | [_], _ => rfl
  have F_init : FunD K "__init__" "Book.__init__" (defArgs s_init) (defBody s_init) (defScope s_init) [.ref dE_init] [] f_init _ := ⟨⟨_, _, _, _, _, _, _, _, _, _, rfl, l_init, c_init, .inr ⟨by simp, dT_init, _, [.ref dE_init], nD_init, rfl, lD_init, rfl, .cons rfl .nil⟩, .inl rfl⟩, k_init⟩
  obtain ⟨ds_init, vd_init, b_init⟩ := F_init.binds1 (ps := ["self", "counts"]) 2 1 (by simp) rfl (fun T kV doc pm an cdv ct us its h1 h2 => match us, h1, its, h2 with | [_, _], _, [_], _ => ⟨_, rfl, rfl⟩)
  cases vd_init
  obtain ⟨ds0_init, vd0_init, b0_init⟩ := F_init.binds1 (ps := ["self", "counts"]) 1 0 (by simp) rfl (fun T kV doc pm an cdv ct us its h1 h2 => match us, h1, its, h2 with | [_], _, [_], _ => ⟨_, rfl, rfl⟩)
  have F_len := fun_mk (st := s_len) l_len c_len k_len
  have b_len := F_len.binds (ps := ["self"]) fun _ _ _ _ _ _ us hl => match us, hl with | [_], _ => rfl
  have F_in := fun_mk (st := s_in) l_in c_in k_in
  have b_in := F_in.binds (ps := ["self", "x"]) fun _ _ _ _ _ _ us hl => match us, hl with | [_, _], _ => rfl
  have F_iter := fun_mk (st := s_iter) l_iter c_iter k_iter
  have b_iter := F_iter.binds (ps := ["self"]) fun _ _ _ _ _ _ us hl => match us, hl with | [_], _ => rfl
  have F_isInt := fun_mk (st := s_isInt) l_isInt c_isInt k_isInt
  have b_isInt := F_isInt.binds (ps := ["_law_given"]) fun _ _ _ _ _ _ us hl => match us, hl with | [_], _ => rfl
  have F_cell := fun_mk (st := s_cell) l_cell c_cell k_cell
  have b_cell := F_cell.binds (ps := ["_law_script", "_law_k"]) fun _ _ _ _ _ _ us hl => match us, hl with | [_, _], _ => rfl
  have F_numbers := fun_mk (st := s_numbers) l_numbers c_numbers k_numbers
  have b_numbers := F_numbers.binds (ps := ["_law_cell_here", "_law_salt", "_law_limits"]) fun _ _ _ _ _ _ us hl => match us, hl with | [_, _, _], _ => rfl
  have F_triples := fun_mk (st := s_triples) l_triples c_triples k_triples
  have b_triples := F_triples.binds (ps := ["_law_many"]) fun _ _ _ _ _ _ us hl => match us, hl with | [_], _ => rfl
  have F_srows := fun_mk (st := s_srows) l_srows c_srows k_srows
  have b_srows := F_srows.binds (ps := ["_law_told", "_law_due"]) fun _ _ _ _ _ _ us hl => match us, hl with | [_, _], _ => rfl
  have F_same := fun_mk (st := s_same) l_same c_same k_same
  have b_same := F_same.binds (ps := ["_law_book", "_law_due"]) fun _ _ _ _ _ _ us hl => match us, hl with | [_, _], _ => rfl
  have F_triple4 := fun_mk (st := s_triple4) l_triple4 c_triple4 k_triple4
  have b_triple4 := F_triple4.binds (ps := ["_law_loose", "_law_draws", "_law_far"]) fun _ _ _ _ _ _ us hl => match us, hl with | [_, _, _], _ => rfl
  have F_isC4 := fun_mk (st := s_isC4) l_isC4 c_isC4 k_isC4
  have b_isC4 := F_isC4.binds (ps := ["_law_triple_here"]) fun _ _ _ _ _ _ us hl => match us, hl with | [_], _ => rfl
  have F_looks4 := fun_mk (st := s_looks4) l_looks4 c_looks4 k_looks4
  have b_looks4 := F_looks4.binds (ps := ["_law_book", "_law_due", "_law_far"]) fun _ _ _ _ _ _ us hl => match us, hl with | [_, _, _], _ => rfl
  have F_law_k04 := fun_mk (st := s_law_k04) l_law_k04 c_law_k04 k_law_k04
  have b_law_k04 := F_law_k04.binds (ps := ["_law_script"]) fun _ _ _ _ _ _ us hl => match us, hl with | [_], _ => rfl
  have kt_Book : Kt K C_Book := ⟨⟨pg_Book, hd_Book, po_Book, sa_Book⟩, ha_Book, hn, ht, hm_Book⟩
  have vv_Book : (Value.ref C_Book == Value.ref C_Book) = true := by simp
  have kO_Book : PySem.W.kitOne K (.ref C_Book) (.ref C_Book) = some true := by unfold PySem.W.kitOne; rw [if_pos vv_Book]
  have nf_Book : PySem.W.notFirst K C_Book (.ref C_Book) = true := by unfold PySem.W.notFirst; rw [vv_Book]; rfl
  obtain ⟨c, e_Book, e_KeeperError, e_BadKey, e_BadCount⟩ : ∃ c : CL, C_Book = c "Book" ∧ C_KeeperError = c "KeeperError" ∧ C_BadKey = c "BadKey" ∧ C_BadCount = c "BadCount" := ⟨fun s => if s = "Book" then C_Book else if s = "KeeperError" then C_KeeperError else if s = "BadKey" then C_BadKey else if s = "BadCount" then C_BadCount else C_Book, by simp, by simp, by simp, by simp⟩
  subst e_Book e_KeeperError e_BadKey e_BadCount
  refine ⟨c, ?_⟩
  have tx : Tx K mg c := {
    all := no_ z_all,
    bool := no_ z_bool,
    classmethod := no_ z_classmethod,
    int := no_ z_int,
    isinstance := no_ z_isinstance,
    iter := no_ z_iter,
    len := no_ z_len,
    list := no_ z_list,
    range := no_ z_range,
    set := no_ z_set,
    tuple := no_ z_tuple,
    COPIES := ⟨p_COPIES, mg_ aP_COPIES, fun c H => ⟨p_COPIES, ([0, 1, 2, 3, 4, 5] : List Int).map V.int, rfl, .inr ⟨_, _, _, lP_COPIES, rfl, rfl, (by show 6 ≤ sizeLine; decide), (.cons ⟨_, rfl⟩ (.cons ⟨_, rfl⟩ (.cons ⟨_, rfl⟩ (.cons ⟨_, rfl⟩ (.cons ⟨_, rfl⟩ (.cons ⟨_, rfl⟩ .nil))))))⟩, rpl_int'⟩⟩,
    Book := ⟨⟨kt_Book.cl, fun b f hf => by
      have hf : f ∈ (["_counts"] : List Str) := hf
      simp only [List.mem_cons, List.not_mem_nil, or_false] at hf
      subst hf
      exact nI_Book__counts⟩, mg_ aC_Book, kt_Book, kO_Book, sf_Book, nf_Book⟩,
    KeeperError := mg_ aC_KeeperError,
    BadKey := mg_ aC_BadKey,
    BadCount := mg_ aC_BadCount,
    xBadCount := ⟨xf_BadCount, exc_BadCount, by obtain ⟨cd, h⟩ := cd_BadCount; rw [h]; rfl, exm_BadCount⟩,
    fBadCount_triple := nI_BadCount_triple,
    kBadCount_KeeperError := kp_BadCount_KeeperError,
    kBadCount_BadKey := kp_BadCount_BadKey }
  refine ⟨PySem.W.fnOf "law" "law" (defArgs s_law_k04) (defBody s_law_k04) (defScope s_law_k04) .none kV_law_k04 dc_law_k04 pm_law_k04 an_law_k04 cd_law_k04 ct_law_k04, fun s v => .of_eq rfl, fun base _ _ => ?_⟩
  have q_BCinit : Xcf l.prog w K mg base c "BadCount" 1 ["triple"] (PrT K) := ⟨oex_BadCount, f_BCinit, _, _, a_BCinit, t_BCinit, ok_BCinit FX_BCinit SX_BCinit nI_BadCount_triple, b_BCinit⟩
  have q_every : Df l.prog w K mg base c "_every_count" 1 R_every := .mk' F_every (ok_every F_every tx ) (mg_ a_every) b_every
  have q_isCount : Df l.prog w K mg base c "_is_count" 1 R_isCount := .mk' F_isCount (ok_isCount F_isCount tx ) (mg_ a_isCount) b_isCount
  have q_asc : Df l.prog w K mg base c "_ascending" 2 R_asc := .mk' F_asc (ok_asc F_asc tx q_every) (mg_ a_asc) b_asc
  have q_init : Mq l.prog w K mg base c Bk "Book" 3 R_init := ⟨f_init, _, _, ⟨mk_Book, a_init, i_init, kc_Book⟩, (ok_init F_init tx q_isCount q_asc), mg_ aC_Book, b_init⟩
  have q_initW : Mq l.prog w K mg base c Bk "Book" 3 R_initW := ⟨f_init, _, _, ⟨mk_Book, a_init, i_init, kc_Book⟩, (ok_initW F_init tx q_isCount q_asc), mg_ aC_Book, b_init⟩
  have q_init0 : Mq0 l.prog w K mg base c Bk "Book" 3 (bk mE) := ⟨f_init, _, _, R_init, ds0_init, [.ref dE_init], [⟨(⟨[]⟩ : TupW (Tup Int))⟩], ⟨mk_Book, a_init, i_init, kc_Book⟩, ok_init F_init tx q_isCount q_asc, mg_ aC_Book, b0_init, vd0_init, fun Hf => .cons ⟨dE_init, [], rfl, .inr ⟨_, _, _, lE_init, rfl, rfl, Nat.zero_le _, .nil⟩, .nil⟩ .nil, .inr ⟨rfl, rfl⟩⟩
  have q_initX : MqX l.prog w K mg base c Bk "Book" 3 R_initX := ⟨f_init, _, _, ⟨mk_Book, a_init, i_init, kc_Book⟩, (ok_initX F_init tx q_isCount q_BCinit), mg_ aC_Book, b_init⟩
  have q_len : Mt l.prog w K mg base c "Book" "__len__" 1 R_len := ⟨f_len, _, _, (ok_len F_len tx ), ⟨a_len, i_len, k_len⟩, n_len, b_len⟩
  have q_in : Mt l.prog w K mg base c "Book" "__contains__" 1 R_in := ⟨f_in, _, _, (ok_in F_in tx ), ⟨a_in, i_in, k_in⟩, n_in, b_in⟩
  have itB : ItB K mg c Bk Bool "_counts" getB := ⟨⟨f_iter, fun Y e1 e2 => by
    subst e1 e2
    exact ⟨⟨_, ["self"], ["self"], _, _, _, F_iter, sc_iter, b_iter, rfl, fun Z g1 g2 g3 g4 _ => it_body Z g3 g4 (by rw [g2]; exact no_ z_iter)⟩, a_iter, i_iter, kt_Book.cl, nI_Book__counts⟩⟩, fun b => rfl⟩
  have q_isInt : Df l.prog w K mg base c "_law_is_int" 1 R_isInt := .mk' F_isInt (ok_isInt F_isInt tx ) (mg_ a_isInt) b_isInt
  have q_isIntH : DfH l.prog w K mg base c "_law_is_int" 1 R_isInt := ⟨f_isInt, _, _, (ok_isIntH F_isInt tx ), mg_ a_isInt, k_isInt, b_isInt⟩
  have q_cell : Df l.prog w K mg base c "_law_cell" 1 R_cell := .mk' F_cell (ok_cell F_cell tx ) (mg_ a_cell) b_cell
  have q_numbers : Df l.prog w K mg base c "_law_numbers" 1 R_numbers := .mk' F_numbers (ok_numbers F_numbers tx ) (mg_ a_numbers) b_numbers
  have q_triples : Df l.prog w K mg base c "_law_triples" 1 R_triples := .mk' F_triples (ok_triples F_triples tx ) (mg_ a_triples) b_triples
  have q_srows : Df l.prog w K mg base c "_law_same_rows" 2 R_srows := .mk' F_srows (ok_srows F_srows tx q_isInt) (mg_ a_srows) b_srows
  have q_same : Df l.prog w K mg base c "_law_same_book" 6 R_same := .mk' F_same (ok_same F_same tx q_isInt q_srows q_len itB) (mg_ a_same) b_same
  have q_triple4 : Df l.prog w K mg base c "_law_triple" 1 R_triple4 := .mk' F_triple4 (ok_triple4 F_triple4 tx ) (mg_ a_triple4) b_triple4
  have q_isC4 : Df l.prog w K mg base c "_law_is_count" 1 R_isC4 := .mk' F_isC4 (ok_isC4 F_isC4 tx ) (mg_ a_isC4) b_isC4
  have q_looks4 : Df l.prog w K mg base c "_law_looks" 7 R_looks4 := .mk' F_looks4 (ok_looks4 F_looks4 tx q_srows q_same q_in itB) (mg_ a_looks4) b_looks4
  exact ok_law F_law_k04 tx q_cell q_numbers q_triple4 q_isC4 q_triples q_isIntH q_same q_looks4 q_init q_initW q_init0 q_initX
theorem walk {l : PySem.W.OpenLaw} {q : Program} {loose : List Str} {XP : (Str → Option Value) → Heap → Prop} {YP : World → Heap → Prop} {d : DefRec} {K : Params → PySem.W.Frag} (hn : l.most = some 63) (hdf : d.params.defaults = [])
    (hY : ∀ (w : World) (h : Heap), YP w h → (K w.params).In h)
    (F : ∀ (w : World) (mg : Str → Option Value) (fa : Addr) (h : Heap), (K w.params).In h → h.Ns mainGlobals mg → mg d.name = some (.ref fa) →
      ∃ c : CL, ∃ fd : FuncData, (∀ (s : Shared) (u : Value), BindsTo s fd ⟨[u], []⟩ [("_law_script", u)]) ∧ ∀ base : Heap, (K w.params).In base → base.Ns mainGlobals mg → FnOk l.prog w (K w.params) mg base CX0 8 fa fd ["_law_script"] (fsp (K w.params) c R_law)) :
    PySem.W.WalkO q loose XP YP l.row.toRowW d [] (fun f vs => PySem.call f vs) :=
  L2.walk_of (n := 63) (k := 8) (x := "_law_script") (CX := fun _ => CX0) (sp := fun w => fun vs H Q E => ∀ c : CL, fsp (K w.params) c R_law vs H Q E) hn (by decide) hdf ⟨rfl, by decide, by decide⟩ hY (fun w mg fa h KX G hm => by
    obtain ⟨c, fd, h1, h2⟩ := F w mg fa h KX G hm
    exact ⟨fd, h1, fun base b1 b2 => ⟨fun vs H Q E z => (h2 base b1 b2).len vs H Q E (z c), fun A outer s H args us vs Q E a1 a2 a3 a4 a5 => (h2 base b1 b2).run A outer s H args us vs Q E a1 a2 a3 a4 (a5 c)⟩⟩)
    (fun w H a ns hl _ hS c => ⟨H, [⟨ns⟩], ⟨true⟩, Same.refl _, .cons ⟨a, _, rfl, hS, rpl_int'⟩ .nil, ⟨ns, rfl, rfl⟩, fun v _ _ _ z => z⟩) fun _ _ _ _ _ z => z
end K
open PySem PySem.W PyProof.Rows in
set_option maxRecDepth 100000 in
set_option maxHeartbeats 0 in
theorem PySem.Challenge.cw_partkeepers_k04_counts_of_a_book_holds : PySem.Challenge.rw_partkeepers_k04_counts_of_a_book.Holds := by
  w_on; o_law; k_head; (case hw => w_witness2)
  k_fill
  refine K.walk (l := PySem.Challenge.rw_partkeepers_k04_counts_of_a_book) rfl rfl (fun w h Y => PySem.W.kIn_of Y) ?F
  case F =>
    intro w mg fa h KX G hmg
    refine' K.all_mk KX G hmg ?aC_Book ?pg_Book ?hd_Book ?po_Book ?sa_Book ?mk_Book ?kc_Book ?sf_Book ?ha_Book ?hm_Book ?nI_Book__counts ?hn ?ht ?aC_KeeperError ?aC_BadKey ?aC_BadCount ?z_super ?htop ?opq ?xL_BadCount ?sa_BadCount ?ga_BadCount ?gg_BadCount ?kC_BadCount ?eC_BadCount ?tC_BadCount ?hC_BadCount ?sC_BadCount ?ha_BadCount ?hm_BadCount ?nI_BadCount_triple ?kp_BadCount_KeeperError ?kp_BadCount_BadKey ?a_BCinit ?t_BCinit ?l_BCinit ?c_BCinit ?ce_BCinit ?co_BCinit ?v2_BCinit ?fi_BCinit ?sb_BCinit ?iv_BCinit ?al_BCinit ?a_every ?l_every ?c_every ?k_every ?a_isCount ?l_isCount ?c_isCount ?k_isCount ?a_asc ?l_asc ?c_asc ?k_asc ?a_init ?i_init ?l_init ?lD_init ?lE_init ?c_init ?k_init ?a_len ?i_len ?n_len ?l_len ?c_len ?k_len ?a_in ?i_in ?n_in ?l_in ?c_in ?k_in ?a_iter ?i_iter ?n_iter ?l_iter ?c_iter ?k_iter ?a_isInt ?l_isInt ?c_isInt ?k_isInt ?a_cell ?l_cell ?c_cell ?k_cell ?a_numbers ?l_numbers ?c_numbers ?k_numbers ?a_triples ?l_triples ?c_triples ?k_triples ?a_srows ?l_srows ?c_srows ?k_srows ?a_same ?l_same ?c_same ?k_same ?a_triple4 ?l_triple4 ?c_triple4 ?k_triple4 ?a_isC4 ?l_isC4 ?c_isC4 ?k_isC4 ?a_looks4 ?l_looks4 ?c_looks4 ?k_looks4 ?a_law_k04 ?l_law_k04 ?c_law_k04 ?k_law_k04 ?aP_COPIES ?lP_COPIES ?z_all ?z_bool ?z_classmethod ?z_int ?z_isinstance ?z_iter ?z_len ?z_list ?z_range ?z_set ?z_tuple
    (case aC_Book => k_is)
    (case pg_Book => k_is)
    (case hd_Book => k_is)
    (case po_Book => k_is)
    (case sa_Book => k_is)
    (case mk_Book => k_is)
    (case kc_Book => k_is)
    (case sf_Book => k_is)
    (case ha_Book => k_is)
    (case hm_Book => k_is)
    (case nI_Book__counts => k_is)
    (case hn => k_is)
    (case ht => k_is)
    (case aC_KeeperError => k_is)
    (case aC_BadKey => k_is)
    (case aC_BadCount => k_is)
    (case z_super => k_is)
    (case htop => first | k_is | rfl | decide +kernel)
    (case opq => first | k_is | rfl | decide +kernel)
    (case xL_BadCount => k_is)
    (case sa_BadCount => k_is)
    (case ga_BadCount => k_is)
    (case gg_BadCount => k_is)
    (case kC_BadCount => k_is)
    (case eC_BadCount => k_is)
    (case tC_BadCount => k_is)
    (case hC_BadCount => k_is)
    (case sC_BadCount => first | k_is | rfl | decide +kernel)
    (case ha_BadCount => k_is)
    (case hm_BadCount => k_is)
    (case nI_BadCount_triple => k_is)
    (case kp_BadCount_KeeperError => first | k_is | rfl | decide +kernel)
    (case kp_BadCount_BadKey => first | k_is | rfl | decide +kernel)
    (case a_BCinit => k_is)
    (case t_BCinit => k_is)
    (case l_BCinit => k_is)
    (case c_BCinit => k_is)
    (case ce_BCinit => k_is)
    (case co_BCinit => k_is)
    (case v2_BCinit => first | k_is | rfl | decide +kernel)
    (case fi_BCinit => first | k_is | rfl | decide +kernel)
    (case sb_BCinit => first | k_is | rfl | decide +kernel)
    (case iv_BCinit => first | k_is | rfl | decide +kernel)
    (case al_BCinit => first | k_is | rfl | decide +kernel)
    (case a_every => k_is)
    (case l_every => k_is)
    (case c_every => k_is)
    (case k_every => k_is)
    (case a_isCount => k_is)
    (case l_isCount => k_is)
    (case c_isCount => k_is)
    (case k_isCount => k_is)
    (case a_asc => k_is)
    (case l_asc => k_is)
    (case c_asc => k_is)
    (case k_asc => k_is)
    (case a_init => k_is)
    (case i_init => k_is)
    (case l_init => k_is)
    (case lD_init => k_is)
    (case lE_init => k_is)
    (case c_init => k_is)
    (case k_init => k_is)
    (case a_len => k_is)
    (case i_len => k_is)
    (case n_len => k_is)
    (case l_len => k_is)
    (case c_len => k_is)
    (case k_len => k_is)
    (case a_in => k_is)
    (case i_in => k_is)
    (case n_in => k_is)
    (case l_in => k_is)
    (case c_in => k_is)
    (case k_in => k_is)
    (case a_iter => k_is)
    (case i_iter => k_is)
    (case n_iter => k_is)
    (case l_iter => k_is)
    (case c_iter => k_is)
    (case k_iter => k_is)
    (case a_isInt => k_is)
    (case l_isInt => k_is)
    (case c_isInt => k_is)
    (case k_isInt => k_is)
    (case a_cell => k_is)
    (case l_cell => k_is)
    (case c_cell => k_is)
    (case k_cell => k_is)
    (case a_numbers => k_is)
    (case l_numbers => k_is)
    (case c_numbers => k_is)
    (case k_numbers => k_is)
    (case a_triples => k_is)
    (case l_triples => k_is)
    (case c_triples => k_is)
    (case k_triples => k_is)
    (case a_srows => k_is)
    (case l_srows => k_is)
    (case c_srows => k_is)
    (case k_srows => k_is)
    (case a_same => k_is)
    (case l_same => k_is)
    (case c_same => k_is)
    (case k_same => k_is)
    (case a_triple4 => k_is)
    (case l_triple4 => k_is)
    (case c_triple4 => k_is)
    (case k_triple4 => k_is)
    (case a_isC4 => k_is)
    (case l_isC4 => k_is)
    (case c_isC4 => k_is)
    (case k_isC4 => k_is)
    (case a_looks4 => k_is)
    (case l_looks4 => k_is)
    (case c_looks4 => k_is)
    (case k_looks4 => k_is)
    (case a_law_k04 => k_is)
    (case l_law_k04 => k_is)
    (case c_law_k04 => k_is)
    (case k_law_k04 => k_is)
    (case aP_COPIES => k_is)
    (case lP_COPIES => k_is)
    (case z_all => k_is)
    (case z_bool => k_is)
    (case z_classmethod => k_is)
    (case z_int => k_is)
    (case z_isinstance => k_is)
    (case z_iter => k_is)
    (case z_len => k_is)
    (case z_list => k_is)
    (case z_range => k_is)
    (case z_set => k_is)
    (case z_tuple => k_is)
