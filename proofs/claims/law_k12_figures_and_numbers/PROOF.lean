import PyProof.Rows.All
import Wide.All
import OpenK.AllK
import Wide.FinOn
import HandS.ForMost
import HandS.Wide
import HandS.Style
import HandS.Evl
import HandS.Conv
import HandS.IsInst
import HandS.Codes
import HandS.WideBits
import PySem.Challenge.RW_halfpace_k12_figures_and_numbers
set_option Elab.async false
set_option linter.all false
set_option maxRecDepth 100000
set_option maxHeartbeats 4000000
set_option autoImplicit false
namespace HB
/-! blocks: the mirror and its mathematics -/
def bl (p : Nat) : Nat → Nat → Nat → Nat → List (Nat × Nat)
  | 0, _, _, _ => []
  | f + 1, v, l, h =>
    if l < h then
      if l % p ≠ 0 then (l, v) :: bl p f v (l + 1) h
      else if h % p ≠ 0 then bl p f v l (h - 1) ++ [(h - 1, v)]
      else bl p f (v + 1) (l / p) (h / p)
    else []
/-- with fuel enough -/
def B (p v l h : Nat) : List (Nat × Nat) := bl p (h - l) v l h
theorem half {p l h : Nat} (hp : 2 ≤ p) (hl : l < h) (l0 : l % p = 0) (h0 : h % p = 0) : h / p - l / p < h - l ∧ l / p < h / p := by
  have e1 : p * (l / p) = l := by have := Nat.div_add_mod l p; omega
  have e2 : p * (h / p) = h := by have := Nat.div_add_mod h p; omega
  have lt : l / p < h / p := by
    apply Nat.lt_of_mul_lt_mul_left (a := p)
    omega
  refine ⟨?_, lt⟩
  obtain ⟨d, hd⟩ : ∃ d, h / p = l / p + d := ⟨h / p - l / p, by omega⟩
  have e3 : h = l + p * d := by
    rw [← e2, hd, Nat.mul_add, e1]
  have : 2 * d ≤ p * d := Nat.mul_le_mul_right d hp
  omega
theorem bl_fuel {p : Nat} (hp : 2 ≤ p) : ∀ (f g v l h : Nat), h - l ≤ f → h - l ≤ g → bl p f v l h = bl p g v l h := by
  intro f
  induction f with
  | zero =>
    intro g v l h hf hg
    cases g with
    | zero => rfl
    | succ g =>
      have : ¬ l < h := by omega
      simp [bl, this]
  | succ f ih =>
    intro g v l h hf hg
    cases g with
    | zero =>
      have : ¬ l < h := by omega
      simp [bl, this]
    | succ g =>
      unfold bl
      by_cases c : l < h
      · rw [if_pos c, if_pos c]
        by_cases c1 : l % p ≠ 0
        · rw [if_pos c1, if_pos c1, ih g v (l + 1) h (by omega) (by omega)]
        · rw [if_neg c1, if_neg c1]
          by_cases c2 : h % p ≠ 0
          · rw [if_pos c2, if_pos c2, ih g v l (h - 1) (by omega) (by omega)]
          · rw [if_neg c2, if_neg c2]
            have := half hp c (by omega) (by omega)
            exact ih g (v + 1) (l / p) (h / p) (by omega) (by omega)
      · rw [if_neg c, if_neg c]
theorem B_end {p v l h : Nat} (c : ¬ l < h) : B p v l h = [] := by
  unfold B
  rw [show h - l = 0 by omega]
  rfl
theorem B_low {p v l h : Nat} (c : l < h) (m : l % p ≠ 0) : B p v l h = (l, v) :: B p v (l + 1) h := by
  unfold B
  rw [show h - l = (h - (l + 1)) + 1 by omega]
  show (if l < h then _ else _) = _
  rw [if_pos c, if_pos m]
theorem B_high {p v l h : Nat} (c : l < h) (m : l % p = 0) (m2 : h % p ≠ 0) : B p v l h = B p v l (h - 1) ++ [(h - 1, v)] := by
  unfold B
  rw [show h - l = (h - 1 - l) + 1 by omega]
  show (if l < h then _ else _) = _
  rw [if_pos c, if_neg (by omega), if_pos m2]
theorem B_up {p v l h : Nat} (hp : 2 ≤ p) (c : l < h) (m : l % p = 0) (m2 : h % p = 0) : B p v l h = B p (v + 1) (l / p) (h / p) := by
  have hh := half hp c m m2
  unfold B
  rw [show h - l = (h - l - 1) + 1 by omega]
  show (if l < h then _ else _) = _
  rw [if_pos c, if_neg (by omega), if_neg (by omega)]
  exact bl_fuel hp _ _ _ _ _ (by omega) (by omega)
theorem div_eq {p l h : Nat} (c : ¬ l < h) (e : l ≤ h) : B p 0 (l / p) (h / p) = [] := by
  have : l = h := by omega
  subst this
  exact B_end (by omega)
/-- a rule of induction: one for all three ways -/
theorem B_ind {p : Nat} (hp : 2 ≤ p) {C : Nat → Nat → Nat → List (Nat × Nat) → Prop}
    (h0 : ∀ v l h, l = h → C v l h [])
    (h1 : ∀ v l h, l < h → l % p ≠ 0 → C v (l + 1) h (B p v (l + 1) h) → C v l h ((l, v) :: B p v (l + 1) h))
    (h2 : ∀ v l h, l < h → l % p = 0 → h % p ≠ 0 → C v l (h - 1) (B p v l (h - 1)) → C v l h (B p v l (h - 1) ++ [(h - 1, v)]))
    (h3 : ∀ v l h, l < h → l % p = 0 → h % p = 0 → l / p < h / p → C (v + 1) (l / p) (h / p) (B p (v + 1) (l / p) (h / p)) → C v l h (B p (v + 1) (l / p) (h / p))) :
    ∀ (n v l h : Nat), h - l ≤ n → l ≤ h → C v l h (B p v l h) := by
  intro n
  induction n with
  | zero =>
    intro v l h hn hle
    rw [B_end (by omega)]
    exact h0 v l h (by omega)
  | succ n ih =>
    intro v l h hn hle
    by_cases c : l < h
    · by_cases c1 : l % p = 0
      · by_cases c2 : h % p = 0
        · have hh := half hp c c1 c2
          rw [B_up hp c c1 c2]
          exact h3 v l h c c1 c2 hh.2 (ih _ _ _ (by omega) (by omega))
        · rw [B_high c c1 c2]
          exact h2 v l h c c1 c2 (ih _ _ _ (by omega) (by omega))
      · rw [B_low c c1]
        exact h1 v l h c c1 (ih _ _ _ (by omega) (by omega))
    · rw [B_end c]
      exact h0 v l h (by omega)
/-! side by side -/
inductive Chain (p : Nat) : List (Nat × Nat) → Nat → Nat → Prop
  | nil (x) : Chain p [] x x
  | cons {a k r y} : Chain p r (a * p ^ k + p ^ k) y → Chain p ((a, k) :: r) (a * p ^ k) y
theorem Chain.snoc {p : Nat} {ks : List (Nat × Nat)} {x a k : Nat} (h : Chain p ks x (a * p ^ k)) : Chain p (ks ++ [(a, k)]) x (a * p ^ k + p ^ k) := by
  generalize e : a * p ^ k = y at h
  induction h with
  | nil x => subst e; exact .cons (.nil _)
  | cons r ih => exact .cons (ih e)
theorem pw {p v l : Nat} (m : l % p = 0) : l / p * p ^ (v + 1) = l * p ^ v := by
  have e1 : l / p * p = l := by have := Nat.div_add_mod l p; rw [Nat.mul_comm]; omega
  rw [Nat.pow_succ, Nat.mul_comm (p ^ v) p, ← Nat.mul_assoc, e1]
theorem B_chain {p : Nat} (hp : 2 ≤ p) {v l h : Nat} (hle : l ≤ h) : Chain p (B p v l h) (l * p ^ v) (h * p ^ v) := by
  refine B_ind hp (C := fun v l h ks => Chain p ks (l * p ^ v) (h * p ^ v)) ?_ ?_ ?_ ?_ (h - l) v l h (Nat.le_refl _) hle
  · intro v l h e; subst e; exact .nil _
  · intro v l h c m ih
    rw [Nat.succ_mul] at ih
    exact .cons ih
  · intro v l h c m m2 ih
    have e : h * p ^ v = (h - 1) * p ^ v + p ^ v := by
      rw [← Nat.succ_mul]
      congr 1
      omega
    rw [e]
    exact ih.snoc
  · intro v l h c m m2 hh ih
    rw [pw m, pw m2] at ih
    exact ih
/-! at most so many -/
theorem B_len {p : Nat} (hp : 2 ≤ p) : ∀ {v l h : Nat} (n : Nat), l ≤ h → h ≤ p ^ (n + 1) → (B p v l h).length ≤ 2 * ((p - 1) * n) + 1 + (if l % p = 0 then 0 else p - l % p) + h % p := by
  intro v l h n hle hn
  refine B_ind hp (C := fun v l h ks => ∀ n, h ≤ p ^ (n + 1) → ks.length ≤ 2 * ((p - 1) * n) + 1 + (if l % p = 0 then 0 else p - l % p) + h % p) ?_ ?_ ?_ ?_ (h - l) v l h (Nat.le_refl _) hle n hn
  · intro v l h e n _
    exact Nat.zero_le _
  · intro v l h c m ih n hn
    have := ih n hn
    rw [List.length_cons, if_neg m]
    have lt := Nat.mod_lt l (show 0 < p by omega)
    have key : (if (l + 1) % p = 0 then 0 else p - (l + 1) % p) + 1 = p - l % p := by
      rw [Nat.add_mod, Nat.mod_eq_of_lt (show 1 < p by omega)]
      by_cases z : l % p + 1 = p
      · rw [z, Nat.mod_self, if_pos rfl]; omega
      · rw [Nat.mod_eq_of_lt (show l % p + 1 < p by omega), if_neg (by omega)]; omega
    omega
  · intro v l h c m m2 ih n hn
    have := ih n (by omega)
    rw [List.length_append, List.length_singleton]
    have key : (h - 1) % p + 1 = h % p := by
      have e : h % p = ((h - 1) + 1) % p := by congr 1; omega
      have lt := Nat.mod_lt (h - 1) (show 0 < p by omega)
      rw [Nat.add_mod, Nat.mod_eq_of_lt (show 1 < p by omega)] at e
      by_cases z : (h - 1) % p + 1 = p
      · rw [z, Nat.mod_self] at e; omega
      · rw [Nat.mod_eq_of_lt (show (h - 1) % p + 1 < p by omega)] at e; omega
    omega
  · intro v l h c m m2 hh ih n hn
    rw [if_pos m, m2]
    cases n with
    | zero =>
      have e2 : h / p * p = h := by have := Nat.div_add_mod h p; rw [Nat.mul_comm]; omega
      have hp1 : h ≤ p := by simpa using hn
      have q1 : h / p ≤ 1 := by
        have := Nat.div_le_div_right (c := p) hp1
        rwa [Nat.div_self (by omega)] at this
      have q2 : h / p = 1 := Nat.le_antisymm q1 (Nat.lt_of_le_of_lt (Nat.zero_le _) hh)
      have q3 : l / p = 0 := by rw [q2] at hh; exact Nat.lt_one_iff.mp hh
      rw [q2, q3]
      have z : B p (v + 1) 0 1 = [(0, v + 1)] := by
        rw [B_high (by omega) (Nat.zero_mod p) (by rw [Nat.mod_eq_of_lt (by omega)]; omega), B_end (by omega)]
        rfl
      rw [z]
      exact Nat.le_add_left _ _
    | succ n =>
      have hq : h / p ≤ p ^ (n + 1) := by
        rw [Nat.pow_succ] at hn
        exact Nat.div_le_of_le_mul (by rw [Nat.mul_comm]; exact hn)
      have := ih n hq
      have a1 : (if l / p % p = 0 then 0 else p - l / p % p) ≤ p - 1 := by split <;> omega
      have a2 : h / p % p ≤ p - 1 := by have := Nat.mod_lt (h / p) (show 0 < p by omega); omega
      rw [Nat.mul_succ]
      omega
theorem B_len' {p : Nat} (hp : 2 ≤ p) {v l h : Nat} (n : Nat) (hle : l ≤ h) (hn : h ≤ p ^ (n + 1)) : (B p v l h).length ≤ 2 * (p - 1) * (n + 1) + 1 := by
  have := B_len hp (v := v) n hle hn
  have a1 : (if l % p = 0 then 0 else p - l % p) ≤ p - 1 := by split <;> omega
  have a2 : h % p ≤ p - 1 := by have := Nat.mod_lt h (show 0 < p by omega); omega
  rw [Nat.mul_assoc, Nat.mul_succ]
  omega
/-! none can be wider -/
def LowI (p F v l : Nat) : Prop := (l % p = 0 → l * p ^ v < F + p ^ (v + 1)) ∧ (l % p ≠ 0 → l / p * p ^ (v + 1) < F)
def HighI (p L v h : Nat) : Prop := L < (h / p + 1) * p ^ (v + 1)
theorem succ_mod {p l : Nat} (hp : 2 ≤ p) (m : l % p ≠ 0) : ((l + 1) % p = 0 ∧ l + 1 = (l / p + 1) * p) ∨ ((l + 1) % p ≠ 0 ∧ (l + 1) / p = l / p) := by
  have lt := Nat.mod_lt l (show 0 < p by omega)
  have dm := Nat.div_add_mod l p
  generalize hr : l % p = r at *
  generalize hq : l / p = q at *
  have e : l + 1 = (r + 1) + q * p := by rw [Nat.mul_comm q p]; omega
  by_cases z : r + 1 = p
  · left
    rw [e, z, Nat.succ_mul, Nat.add_comm]
    refine ⟨?_, rfl⟩
    rw [Nat.add_mod, Nat.mul_mod_left, Nat.mod_self]
    simp
  · right
    rw [e, Nat.add_mul_mod_self_right, Nat.add_mul_div_right _ _ (by omega), Nat.mod_eq_of_lt (by omega), Nat.div_eq_of_lt (by omega)]
    omega
theorem pred_div {p h : Nat} (hp : 2 ≤ p) (m : h % p ≠ 0) : (h - 1) / p = h / p := by
  have lt := Nat.mod_lt h (show 0 < p by omega)
  have dm := Nat.div_add_mod h p
  generalize hr : h % p = r at *
  generalize hq : h / p = q at *
  have e : h - 1 = (r - 1) + q * p := by rw [Nat.mul_comm q p]; omega
  rw [e, Nat.add_mul_div_right _ _ (by omega), Nat.div_eq_of_lt (by omega)]
  omega
theorem LowI.step {p F v l : Nat} (hp : 2 ≤ p) (m : l % p ≠ 0) (I : LowI p F v l) : LowI p F v (l + 1) := by
  have i := I.2 m
  rcases succ_mod hp m with ⟨a, b⟩ | ⟨a, b⟩
  · refine ⟨fun _ => ?_, fun z => absurd a z⟩
    rw [b, Nat.mul_assoc, Nat.mul_comm p, ← Nat.pow_succ, Nat.succ_mul]
    show l / p * p ^ (v + 1) + p ^ (v + 1) < F + p ^ (v + 1)
    omega
  · refine ⟨fun z => absurd z a, fun _ => ?_⟩
    rw [b]
    exact i
theorem LowI.up {p F v l : Nat} (hp : 2 ≤ p) (m : l % p = 0) (I : LowI p F v l) : LowI p F (v + 1) (l / p) := by
  have i := I.1 m
  rw [← pw m] at i
  generalize l / p = u at *
  constructor
  · intro _
    have : p ^ (v + 1) ≤ p ^ (v + 1 + 1) := Nat.pow_le_pow_right (by omega) (by omega)
    omega
  · intro z
    have dm := Nat.div_add_mod u p
    have e : u / p * p ^ (v + 1 + 1) + p ^ (v + 1) ≤ u * p ^ (v + 1) := by
      rw [Nat.pow_succ p (v + 1), Nat.mul_comm (p ^ (v + 1)) p, ← Nat.mul_assoc, ← Nat.succ_mul]
      apply Nat.mul_le_mul_right
      rw [Nat.mul_comm]
      omega
    omega
theorem HighI.up {p L v h : Nat} (hp : 2 ≤ p) (I : HighI p L v h) : HighI p L (v + 1) (h / p) := by
  unfold HighI at *
  generalize h / p = u at *
  refine Nat.lt_of_lt_of_le I ?_
  rw [Nat.pow_succ p (v + 1), Nat.mul_comm (p ^ (v + 1)) p, ← Nat.mul_assoc]
  apply Nat.mul_le_mul_right
  have dm := Nat.div_add_mod u p
  have lt := Nat.mod_lt u (show 0 < p by omega)
  rw [Nat.succ_mul, Nat.mul_comm]
  omega
theorem B_wide {p : Nat} (hp : 2 ≤ p) {F L v l h : Nat} (hle : l ≤ h) (hl : LowI p F v l) (hh : HighI p L v h) : ∀ x ∈ B p v l h, x.1 / p * p ^ (x.2 + 1) < F ∨ L < (x.1 / p + 1) * p ^ (x.2 + 1) := by
  refine B_ind hp (C := fun v l h ks => LowI p F v l → HighI p L v h → ∀ x ∈ ks, x.1 / p * p ^ (x.2 + 1) < F ∨ L < (x.1 / p + 1) * p ^ (x.2 + 1)) ?_ ?_ ?_ ?_ (h - l) v l h (Nat.le_refl _) hle hl hh
  · intro v l h e _ _ x hx
    cases hx
  · intro v l h c m ih il ih2 x hx
    rcases List.mem_cons.mp hx with rfl | hx
    · exact .inl (il.2 m)
    · exact ih (il.step hp m) ih2 x hx
  · intro v l h c m m2 ih il ih2 x hx
    rcases List.mem_append.mp hx with hx | hx
    · refine ih il ?_ x hx
      unfold HighI at *
      rw [pred_div hp m2]
      exact ih2
    · rw [List.mem_singleton] at hx
      subst hx
      right
      show L < ((h - 1) / p + 1) * p ^ (v + 1)
      rw [pred_div hp m2]
      exact ih2
  · intro v l h c m m2 _ ih il ih2 x hx
    exact ih (il.up hp m) (ih2.up hp) x hx
theorem B_wide0 {p f e : Nat} (hp : 2 ≤ p) (hle : f ≤ e) : ∀ x ∈ B p 0 f e, x.1 / p * p ^ (x.2 + 1) < f ∨ e < (x.1 / p + 1) * p ^ (x.2 + 1) := by
  refine B_wide hp hle ⟨fun _ => ?_, fun m => ?_⟩ ?_
  · rw [Nat.pow_zero]
    have : 0 < p ^ (0 + 1) := Nat.pow_pos (by omega)
    omega
  · have dm := Nat.div_add_mod f p
    rw [Nat.zero_add, Nat.pow_one, Nat.mul_comm]
    omega
  · unfold HighI
    have dm := Nat.div_add_mod e p
    have lt := Nat.mod_lt e (show 0 < p by omega)
    rw [Nat.zero_add, Nat.pow_one, Nat.succ_mul, Nat.mul_comm]
    omega
/-! one block -/
theorem B_one {p : Nat} (hp : 2 ≤ p) : ∀ (n v : Nat), B p v 0 (p ^ n) = [(0, v + n)]
  | 0, v => by
    rw [B_high (by simp) (Nat.zero_mod p) (by rw [Nat.pow_zero, Nat.mod_eq_of_lt (by omega)]; omega), B_end (by simp)]
    rfl
  | n + 1, v => by
    have e : p ^ (n + 1) / p = p ^ n := by rw [Nat.pow_succ, Nat.mul_div_cancel _ (by omega)]
    rw [B_up hp (Nat.pow_pos (by omega)) (Nat.zero_mod p) (by rw [Nat.pow_succ, Nat.mul_mod_left]), e, Nat.zero_div, B_one hp n (v + 1)]
    congr 2
    omega
/-- levels are low -/
theorem Chain.le {p : Nat} {ks : List (Nat × Nat)} {x y : Nat} (h : Chain p ks x y) : x ≤ y ∧ ∀ b ∈ ks, x ≤ b.1 * p ^ b.2 ∧ b.1 * p ^ b.2 + p ^ b.2 ≤ y := by
  induction h with
  | nil x => exact ⟨Nat.le_refl _, fun b hb => nomatch hb⟩
  | cons r ih =>
    refine ⟨by omega, fun b hb => ?_⟩
    rcases List.mem_cons.mp hb with rfl | hb
    · exact ⟨Nat.le_refl _, ih.1⟩
    · have := ih.2 b hb
      omega
end HB

/-! what every law here draws on: the bag, taken from -/
namespace HG
open PySem PySem.Spec PyProof.Rows L2
/-- xs[k] read ahead of xs[k] op= e -/
def rGetL (K : PySem.W.Frag) : V → V → Hp → VK → Prop := fun o i H Q => ∃ p xs k v, o = .ref p ∧ i = .int k ∧ SqL K H p xs ∧ 0 ≤ k ∧ xs[k.toNat]? = some v ∧ Q v H
theorem get_list {X : Cx} : PGet X (rGetL X.K) := by
  intro pins s σ H o i ov iv Q I ro ri h
  obtain ⟨p, xs, k, v, rfl, rfl, hq, h0, hx, q⟩ := h
  cases ro
  obtain ⟨t, rfl⟩ := ri
  obtain ⟨its, r, pl, hz⟩ := I.list hq
  obtain ⟨w, ew, rw'⟩ := r.get hx
  have hn := line63
  have hl := r.length
  have hlt : k.toNat < xs.length := (List.getElem?_eq_some_iff.mp hx).1
  exact wpAny_getItem_list pl.isList h0 (by omega) (by simpa using ew) ⟨v, H, I, rw', q⟩
theorem atI_int {α : Type} {xs : List α} {i : Int} {v : α} (h0 : 0 ≤ i) (h : xs[i.toNat]? = some v) : atI xs i = some v := by
  obtain ⟨j, rfl⟩ := Int.eq_ofNat_of_zero_le h0
  exact atI_nat h
theorem upd_self {H : Hp} {p : Addr} {o : HO} (h : H p = some o) : upd H p o = H := by
  funext b
  unfold upd
  by_cases e : b = p
  · rw [if_pos e, e, h]
  · rw [if_neg e]
theorem same_upd {H : Hp} {p : Addr} {o : HO} (h : H p = none) : Same H (upd H p o) := fun b x e => by
  rw [upd_ne (ne_of_none e h)]
  exact e
/-- the bag: its place, what is drawn from, how far -/
def bagL (b0 b1 b2 : Int) (c : Addr) : HO := .lst [.int b0, .int b1, .int b2, .ref c]
def Bag (H : Hp) (p : Addr) : Prop := ∃ (c : Addr) (b0 b1 b2 : Int) (cs : List Int), H p = some (bagL b0 b1 b2 c) ∧ H c = some (.lst (cs.map V.int)) ∧ 0 ≤ b2
theorem Bag.lst {H : Hp} {p : Addr} (B : Bag H p) : ∃ xs, H p = some (.lst xs) := let ⟨_, _, _, _, _, h, _⟩ := B; ⟨_, h⟩
theorem bag_ne {H : Hp} {p c : Addr} {b0 b1 b2 : Int} {cs : List Int} (h : H p = some (bagL b0 b1 b2 c)) (g : H c = some (.lst (cs.map V.int))) : c ≠ p := fun e => by
  subst e
  rw [h] at g
  have g := HO.lst.inj (Option.some.inj g)
  rcases cs with _ | ⟨a, _ | ⟨b, _ | ⟨d, _ | ⟨f, r⟩⟩⟩⟩ <;> simp at g
theorem Bag.same {H H' : Hp} {p : Addr} (s : Same H H') (B : Bag H p) : Bag H' p := let ⟨c, b0, b1, b2, cs, h, g, z⟩ := B; ⟨c, b0, b1, b2, cs, s _ _ h, s _ _ g, z⟩
def spBag (K : PySem.W.Frag) : Sp := fun vs H Q _ => ∃ (a : Addr) (ns : List Int), vs = [.ref a] ∧ SqL K H a (ns.map V.int) ∧ ns.length ≤ 63 ∧ ∀ p H', Same H H' → H p = none → Bag H' p → Q (.ref p) H'
def spTake : Sp := fun vs H Q _ => ∃ (p : Addr) (m : Int), vs = [.ref p, .int m] ∧ Bag H p ∧ 0 < m ∧ m.natAbs < 2 ^ 1000 ∧ ∀ (r : Int) (xs : List V), 0 ≤ r → r < m → Bag (upd H p (.lst xs)) p → Q (.int r) (upd H p (.lst xs))
/-- the bag, and none of it at q -/
def BagOff (H : Hp) (p q : Addr) : Prop := ∃ (c : Addr) (b0 b1 b2 : Int) (cs : List Int), H p = some (bagL b0 b1 b2 c) ∧ H c = some (.lst (cs.map V.int)) ∧ 0 ≤ b2 ∧ p ≠ q ∧ c ≠ q
theorem BagOff.of {H : Hp} {p q : Addr} (B : Bag H p) (n : H q = none) : BagOff H p q := let ⟨c, b0, b1, b2, cs, h, g, z⟩ := B; ⟨c, b0, b1, b2, cs, h, g, z, ne_of_none h n, ne_of_none g n⟩
theorem BagOff.bag {H : Hp} {p q : Addr} (B : BagOff H p q) : Bag H p := let ⟨c, b0, b1, b2, cs, h, g, z, _, _⟩ := B; ⟨c, b0, b1, b2, cs, h, g, z⟩
theorem BagOff.same {H H' : Hp} {p q : Addr} (s : Same H H') (B : BagOff H p q) : BagOff H' p q := let ⟨c, b0, b1, b2, cs, h, g, z, n1, n2⟩ := B; ⟨c, b0, b1, b2, cs, s _ _ h, s _ _ g, z, n1, n2⟩
theorem BagOff.off {H : Hp} {p q : Addr} {o : HO} (B : BagOff H p q) : BagOff (upd H q o) p q := let ⟨c, b0, b1, b2, cs, h, g, z, n1, n2⟩ := B; ⟨c, b0, b1, b2, cs, by rw [upd_ne n1]; exact h, by rw [upd_ne n2]; exact g, z, n1, n2⟩
theorem BagOff.upd {H : Hp} {p q : Addr} {o : HO} (B : BagOff H p q) : Bag (upd H q o) p := B.off.bag
theorem BagOff.ne {H : Hp} {p q : Addr} (B : BagOff H p q) : p ≠ q := let ⟨_, _, _, _, _, _, _, _, n1, _⟩ := B; n1
theorem BagOff.put {H : Hp} {p q c : Addr} {b0 b1 b2 x y z : Int} (B : BagOff H p q) (h : H p = some (bagL b0 b1 b2 c)) (hz : 0 ≤ z) : BagOff (L2.upd H p (bagL x y z c)) p q := by
  obtain ⟨c', d0, d1, d2, cs, h', g, _, n1, n2⟩ := B
  have n3 := bag_ne h' g
  rw [h] at h'
  have e : c = c' := by
    have := HO.lst.inj (Option.some.inj h')
    simp at this
    exact this.2.2.2
  subst e
  exact ⟨c, x, y, z, cs, upd_same, by rw [upd_ne n3]; exact g, hz, n1, n2⟩
/-- the same promise, and what the bag doesn't reach it doesn't reach behind -/
def spTake2 : Sp := fun vs H Q _ => ∃ (p : Addr) (m : Int), vs = [.ref p, .int m] ∧ Bag H p ∧ 0 < m ∧ m.natAbs < 2 ^ 1000 ∧ ∀ (r : Int) (xs : List V), 0 ≤ r → r < m → Bag (L2.upd H p (.lst xs)) p → (∀ q, BagOff H p q → BagOff (L2.upd H p (.lst xs)) p q) → Q (.int r) (L2.upd H p (.lst xs))
theorem take_imp : ∀ (vs : List V) (H : Hp) (Q : VK) (E : XK), spTake vs H Q E → spTake2 vs H Q E := fun vs H Q E ⟨p, m, e, b, h0, h1, k⟩ => ⟨p, m, e, b, h0, h1, fun r xs r0 r1 hb _ => k r xs r0 r1 hb⟩
end HG

namespace HG
open PySem PySem.Spec PyProof.Rows L2
/-! what holds of a wish holds of a weaker one -/
def MoE (t : TE) : Prop := ∀ σ H Q Q', (∀ v H1, Q v H1 → Q' v H1) → t σ H Q → t σ H Q'
def MoT (t : TT) : Prop := ∀ σ H Q Q', (∀ b H1, Q b H1 → Q' b H1) → t σ H Q → t σ H Q'
def MoA (t : TA) : Prop := ∀ σ H Q Q', (∀ vs H1, Q vs H1 → Q' vs H1) → t σ H Q → t σ H Q'
def MoR (r : R2) : Prop := ∀ x y H Q Q', (∀ v H1, Q v H1 → Q' v H1) → r x y H Q → r x y H Q'
theorem mo_var {i : Nat} : MoE (tVar i) := fun σ H Q Q' hq ⟨v, e, q⟩ => ⟨v, e, hq _ _ q⟩
theorem mo_c {v : V} : MoE (tC v) := fun σ H Q Q' hq q => hq _ _ q
theorem mo_op {r : R2} {ta tb : TE} (hr : MoR r) (ha : MoE ta) (hb : MoE tb) : MoE (tOp r ta tb) := fun σ H Q Q' hq h => ha σ H _ _ (fun x H1 h1 => hb σ H1 _ _ (fun y H2 h2 => hr x y H2 _ _ hq h2) h1) h
theorem mo_rI {C : Int → Int → Prop} {g : Int → Int → V} : MoR (rI C g) := fun x y H Q Q' hq ⟨i, j, e1, e2, c, q⟩ => ⟨i, j, e1, e2, c, hq _ _ q⟩
theorem mo_rI0 {g : Int → Int → V} : MoR (rI0 g) := fun x y H Q Q' hq ⟨i, j, e1, e2, q⟩ => ⟨i, j, e1, e2, hq _ _ q⟩
theorem mo_rEq : MoR rEq := fun x y H Q Q' hq ⟨c, q⟩ => ⟨c, hq _ _ q⟩
theorem mo_rNe : MoR rNe := fun x y H Q Q' hq ⟨c, q⟩ => ⟨c, hq _ _ q⟩
theorem mo_rIxL {K : PySem.W.Frag} : MoR (rIxL K) := fun x y H Q Q' hq ⟨p, xs, i, v, e1, e2, s, a, q⟩ => ⟨p, xs, i, v, e1, e2, s, a, hq _ _ q⟩
theorem mo_test {t : TE} (h : MoE t) : MoT (tTest t) := fun σ H Q Q' hq q => h σ H _ _ (fun v H1 ⟨k, e, q⟩ => ⟨k, e, hq _ _ q⟩) q
theorem mo_and {t u : TT} (ht : MoT t) (hu : MoT u) : MoT (tAnd t u) := fun σ H Q Q' hq q => ht σ H _ _ (fun c H1 q => by
  cases c with
  | true => exact iteT (hu σ H1 _ _ hq (by simpa using q))
  | false => exact iteF (hq _ _ (by simpa using q))) q
def MoC (r : List V → Hp → VK → Prop) : Prop := ∀ xs H Q Q', (∀ v H1, Q v H1 → Q' v H1) → r xs H Q → r xs H Q'
theorem mo_nil : MoA tNil := fun σ H Q Q' hq q => hq _ _ q
theorem mo_cons {t : TE} {u : TA} (ht : MoE t) (hu : MoA u) : MoA (tCons t u) := fun σ H Q Q' hq q => ht σ H _ _ (fun x H1 q1 => hu σ H1 _ _ (fun xs H2 q2 => hq _ _ q2) q1) q
theorem mo_cb {r : List V → Hp → VK → Prop} {t : TA} (hr : MoC r) (ht : MoA t) : MoE (tCB r t) := fun σ H Q Q' hq q => ht σ H _ _ (fun vs H1 q1 => hr vs H1 _ _ hq q1) q
end HG

namespace HG
open PySem PySem.Spec PyProof.Rows L2 HB
def kV2 (k : Nat × Nat) : HO := .tup [.int (k.1 : Int), .int (k.2 : Int)]
/-- at these places stand these pairs -/
def Tups (H : Hp) : List Addr → List (Nat × Nat) → Prop
  | [], [] => True
  | t :: ts, k :: ks => H t = some (kV2 k) ∧ Tups H ts ks
  | _, _ => False
theorem Tups.len {H : Hp} : ∀ {ts : List Addr} {ks : List (Nat × Nat)}, Tups H ts ks → ts.length = ks.length
  | [], [], _ => rfl
  | _ :: _, _ :: _, h => congrArg (· + 1) (Tups.len h.2)
  | [], _ :: _, h => h.elim
  | _ :: _, [], h => h.elim
theorem Tups.mono {H H' : Hp} (s : ∀ t k, H t = some (kV2 k) → H' t = some (kV2 k)) : ∀ {ts : List Addr} {ks : List (Nat × Nat)}, Tups H ts ks → Tups H' ts ks
  | [], [], _ => trivial
  | _ :: _, _ :: _, h => ⟨s _ _ h.1, Tups.mono s h.2⟩
  | [], _ :: _, h => h.elim
  | _ :: _, [], h => h.elim
theorem Tups.app {H : Hp} {us : List Addr} {ms : List (Nat × Nat)} (g : Tups H us ms) : ∀ {ts : List Addr} {ks : List (Nat × Nat)}, Tups H ts ks → Tups H (ts ++ us) (ks ++ ms)
  | [], [], _ => g
  | _ :: _, _ :: _, h => ⟨h.1, Tups.app g h.2⟩
  | [], _ :: _, h => h.elim
  | _ :: _, [], h => h.elim
theorem Tups.rev {H : Hp} : ∀ {ts : List Addr} {ks : List (Nat × Nat)}, Tups H ts ks → Tups H ts.reverse ks.reverse
  | [], [], _ => trivial
  | t :: ts, k :: ks, h => by
    rw [List.reverse_cons, List.reverse_cons]
    exact Tups.app (show Tups H [t] [k] from ⟨h.1, trivial⟩) (Tups.rev h.2)
  | [], _ :: _, h => h.elim
  | _ :: _, [], h => h.elim
theorem Tups.get {H : Hp} : ∀ {ts : List Addr} {ks : List (Nat × Nat)} {i : Nat} {t : Addr}, Tups H ts ks → ts[i]? = some t → ∃ k, ks[i]? = some k ∧ H t = some (kV2 k)
  | [], [], _, _, _, h => by cases h
  | t :: ts, k :: ks, 0, _, h, e => by
    cases e
    exact ⟨k, rfl, h.1⟩
  | t :: ts, k :: ks, i + 1, _, h, e => Tups.get (i := i) h.2 e
  | [], _ :: _, _, _, h, _ => h.elim
  | _ :: _, [], _, _, h, _ => h.elim
def kD (k : Nat × Nat) : PyData := .tuple [.int (k.1 : Int), .int (k.2 : Int)]
theorem Tups.dp {K : PySem.W.Frag} {H : Hp} : ∀ {ts : List Addr} {ks : List (Nat × Nat)}, Tups H ts ks → DpAll K H (ts.map V.ref) (ks.map kD)
  | [], [], _ => .nil
  | _ :: _, _ :: _, h => .cons (.tup (.of h.1) (.cons (.int _) (.cons (.int _) .nil))) (Tups.dp h.2)
  | [], _ :: _, h => h.elim
  | _ :: _, [], h => h.elim
/-- the state of the walk of blocks -/
def Inn (H : Hp) (fr bk : Addr) (p : Nat) (R : List (Nat × Nat)) (d v lo hi : Nat) (H' : Hp) : Prop :=
  lo ≤ hi ∧ hi - lo ≤ d ∧ Same H H' ∧ ∃ (ts us : List Addr) (ks ms : List (Nat × Nat)), H' fr = some (.lst (ts.map V.ref)) ∧ H' bk = some (.lst (us.map V.ref)) ∧ Tups H' ts ks ∧ Tups H' us ms ∧ ks ++ B p v lo hi ++ ms.reverse = R
theorem tup_stay {H' : Hp} {t fr : Addr} {xs ys : List V} {o : HO} (ht : H' t = none) (hf : H' fr = some (.lst xs)) : ∀ a k, H' a = some (kV2 k) → (upd (upd H' t o) fr (.lst ys)) a = some (kV2 k) := fun a k e => by
  have n1 : a ≠ fr := ne_of e hf (by intro z; cases z)
  rw [upd_ne n1, upd_ne (ne_of_none e ht)]
  exact e
theorem fr_same {H H' : Hp} {t fr : Addr} {o u : HO} (s : Same H H') (nf : H fr = none) (ht : H' t = none) : Same H (upd (upd H' t o) fr u) := fun b x e => by
  rw [upd_ne (ne_of_none e nf), upd_ne (ne_of_none e (s.free ht))]
  exact s b x e
theorem Inn.front {H H' : Hp} {fr bk : Addr} {p : Nat} {R : List (Nat × Nat)} {d v lo hi : Nat} (I : Inn H fr bk p R d v lo hi H') (nf : H fr = none) (nfb : fr ≠ bk) (c : lo < hi) (m : lo % p ≠ 0) {t : Addr} (ht : H' t = none) :
    ∃ xs, (upd H' t (kV2 (lo, v))) fr = some (.lst xs) ∧ xs.length ≤ R.length ∧ Inn H fr bk p R d v (lo + 1) hi (upd (upd H' t (kV2 (lo, v))) fr (.lst (xs ++ [.ref t]))) := by
  obtain ⟨i1, i2, s, ts, us, ks, ms, hf, hb, tf, tb, e⟩ := I
  have ntf : fr ≠ t := ne_of_none hf ht
  have ntb : bk ≠ t := ne_of_none hb ht
  refine ⟨ts.map V.ref, by rw [upd_ne ntf]; exact hf, ?_, by omega, by omega, fr_same s nf ht, ts ++ [t], us, ks ++ [(lo, v)], ms, ?_, ?_, ?_, ?_, ?_⟩
  · rw [List.length_map, tf.len, ← e, List.length_append, List.length_append]
    omega
  · rw [upd_same, List.map_append]
    rfl
  · rw [upd_ne nfb.symm, upd_ne ntb]
    exact hb
  · refine Tups.app (show Tups _ [t] [(lo, v)] from ⟨?_, trivial⟩) (tf.mono (tup_stay ht hf))
    rw [upd_ne ntf.symm, upd_same]
  · exact tb.mono (tup_stay ht hf)
  · rw [← e, B_low c m, List.append_assoc, List.append_assoc, List.append_assoc]
    rfl
theorem Inn.back {H H' : Hp} {fr bk : Addr} {p : Nat} {R : List (Nat × Nat)} {d v lo hi : Nat} (I : Inn H fr bk p R d v lo hi H') (nb : H bk = none) (nfb : fr ≠ bk) (c : lo < hi) (m : lo % p = 0) (m2 : hi % p ≠ 0) {t : Addr} (ht : H' t = none) :
    ∃ xs, (upd H' t (kV2 (hi - 1, v))) bk = some (.lst xs) ∧ xs.length ≤ R.length ∧ Inn H fr bk p R d v lo (hi - 1) (upd (upd H' t (kV2 (hi - 1, v))) bk (.lst (xs ++ [.ref t]))) := by
  obtain ⟨i1, i2, s, ts, us, ks, ms, hf, hb, tf, tb, e⟩ := I
  have ntf : fr ≠ t := ne_of_none hf ht
  have ntb : bk ≠ t := ne_of_none hb ht
  refine ⟨us.map V.ref, by rw [upd_ne ntb]; exact hb, ?_, by omega, by omega, fr_same s nb ht, ts, us ++ [t], ks, ms ++ [(hi - 1, v)], ?_, ?_, ?_, ?_, ?_⟩
  · rw [List.length_map, tb.len, ← e, List.length_append, List.length_append, List.length_reverse]
    omega
  · rw [upd_ne nfb, upd_ne ntf]
    exact hf
  · rw [upd_same, List.map_append]
    rfl
  · exact tf.mono (tup_stay ht hb)
  · refine Tups.app (show Tups _ [t] [(hi - 1, v)] from ⟨?_, trivial⟩) (tb.mono (tup_stay ht hb))
    rw [upd_ne ntb.symm, upd_same]
  · rw [← e, B_high c m m2, List.reverse_append]
    simp only [List.append_assoc]
    rfl
theorem Inn.up {H H' : Hp} {fr bk : Addr} {p : Nat} {R : List (Nat × Nat)} {d v lo hi : Nat} (hp : 2 ≤ p) (I : Inn H fr bk p R d v lo hi H') (m : lo = hi ∨ (lo % p = 0 ∧ hi % p = 0)) (hd : 0 < d) : ∃ d', d' < d ∧ Inn H fr bk p R d' (v + 1) (lo / p) (hi / p) H' ∧ hi / p - lo / p = d' := by
  obtain ⟨i1, i2, s, ts, us, ks, ms, hf, hb, tf, tb, e⟩ := I
  have key : hi / p - lo / p < d ∧ B p (v + 1) (lo / p) (hi / p) = B p v lo hi := by
    by_cases c : lo = hi
    · subst c
      rw [B_end (by omega), B_end (by omega)]
      exact ⟨by omega, rfl⟩
    · rcases m with m | ⟨m, m2⟩
      · exact absurd m c
      · have h1 := half hp (show lo < hi by omega) m m2
        exact ⟨by omega, (B_up hp (by omega) m m2).symm⟩
  refine ⟨_, key.1, ⟨Nat.div_le_div_right i1, Nat.le_refl _, s, ts, us, ks, ms, hf, hb, tf, tb, ?_⟩, rfl⟩
  rw [key.2]
  exact e
def spBlocks : Sp := fun vs H Q _ => ∃ (f l p : Nat), vs = [.int (f : Int), .int (l : Int), .int (p : Int)] ∧ f ≤ l ∧ 2 ≤ p ∧ p ≤ 4 ∧ (B p 0 f (l + 1)).length ≤ 1000 ∧
  ∀ (q : Addr) (ts : List Addr) (H' : Hp), Same H H' → H q = none → H' q = some (.lst (ts.map V.ref)) → Tups H' ts (B p 0 f (l + 1)) → Q (.ref q) H'
def spSize : Sp := fun vs H Q _ => ∃ (p m : Nat), vs = [.int (p : Int), .int (m : Int)] ∧ p < 1000 ∧ m < 1000 ∧ Q (.int ((p ^ m : Nat) : Int)) H
end HG

/-! data of any depth: it stays, it can be compared -/
namespace HG
open PySem PySem.Spec PyProof.Rows L2
theorem sqT_same {K : PySem.W.Frag} {H H' : Hp} {a : Addr} {xs : List V} (e : Same H H') (h : SqT K H a xs) : SqT K H' a xs := by
  rcases h with (h | ⟨o, h⟩) | h
  · exact .inl (.inl (e _ _ h))
  · exact .inl (.inr ⟨o, e _ _ h⟩)
  · exact .inr h
mutual
theorem dp_same {K : PySem.W.Frag} {H H' : Hp} (s : Same H H') : ∀ (d : PyData) (v : V), Dp K H v d → Dp K H' v d
  | .none, _, h => by cases h; exact .non
  | .bool b, _, h => by cases h; exact .bl b
  | .int i, _, h => by cases h; exact .int i
  | .str x, _, h => by cases h; exact .str x
  | .list ds, _, h => by
    cases h with
    | lst h1 h2 => exact .lst (s.seq h1) (dpAll_same s ds _ h2)
  | .tuple ds, _, h => by
    cases h with
    | tup h1 h2 => exact .tup (sqT_same s h1) (dpAll_same s ds _ h2)
  | .dict _, _, h => by cases h
theorem dpAll_same {K : PySem.W.Frag} {H H' : Hp} (s : Same H H') : ∀ (ds : List PyData) (vs : List V), DpAll K H vs ds → DpAll K H' vs ds
  | [], _, h => by cases h; exact .nil
  | d :: ds, _, h => by
    cases h with
    | cons h1 h2 => exact .cons (dp_same s d _ h1) (dpAll_same s ds _ h2)
end
theorem dp_lst {K : PySem.W.Frag} {H : Hp} {p : Addr} {xs : List V} {ds : List PyData} (h : DpAll K H xs ds) (np : H p = none) : Dp K (upd H p (.lst xs)) (.ref p) (.list ds) :=
  .lst (.of upd_same) (dpAll_same (same_upd np) _ _ h)
theorem dp_tup {K : PySem.W.Frag} {H : Hp} {p : Addr} {xs : List V} {ds : List PyData} (h : DpAll K H xs ds) (np : H p = none) : Dp K (upd H p (.tup xs)) (.ref p) (.tuple ds) :=
  .tup (.of upd_same) (dpAll_same (same_upd np) _ _ h)
theorem dpAll_ints {K : PySem.W.Frag} {H : Hp} : ∀ ns : List Int, DpAll K H (ns.map V.int) (ns.map PyData.int)
  | [] => .nil
  | n :: ns => .cons (.int n) (dpAll_ints ns)
theorem shaped_list {ds : List PyData} (h : ∀ d ∈ ds, PyData.canLay0 d = true ∧ PyData.depth d ≤ 40) : PyData.canLay0 (.list ds) = true ∧ SeqAt.shaped (.list ds) = true := by
  have key : PyData.canLayAll0 ds = true ∧ PyData.depthAll ds ≤ 40 := by
    induction ds with
    | nil => exact ⟨rfl, by show 0 ≤ 40; decide⟩
    | cons d ds ih =>
      obtain ⟨i1, i2⟩ := ih fun d' hd => h d' (List.mem_cons_of_mem _ hd)
      obtain ⟨j1, j2⟩ := h d List.mem_cons_self
      refine ⟨?_, ?_⟩
      · show (PyData.canLay0 d && PyData.canLayAll0 ds) = true
        rw [j1, i1]
        rfl
      · show max (PyData.depth d) (PyData.depthAll ds) ≤ 40
        omega
  refine ⟨key.1, ?_⟩
  show (PyData.canLayAll0 ds && decide (PyData.depthAll ds + 1 ≤ 64)) = true
  rw [key.1, decide_eq_true (by omega)]
  rfl
theorem shaped_ints (ns : List Int) : PyData.canLay0 (.list (ns.map PyData.int)) = true ∧ SeqAt.shaped (.list (ns.map PyData.int)) = true := shaped_list fun d hd => by
  obtain ⟨n, _, rfl⟩ := List.mem_map.mp hd
  exact ⟨rfl, by show 0 ≤ 40; decide⟩
theorem shaped_kD (ks : List (Nat × Nat)) : PyData.canLay0 (.list (ks.map kD)) = true ∧ SeqAt.shaped (.list (ks.map kD)) = true := shaped_list fun d hd => by
  obtain ⟨n, _, rfl⟩ := List.mem_map.mp hd
  exact ⟨rfl, by show 1 ≤ 40; decide⟩
end HG

/-! promises of defs that are called where no repr is under way; repr of data -/
namespace HG
open PySem PySem.Spec PyProof.Rows L2
section
variable {P : Program} {w : World} {K : PySem.W.Frag} {mg : Str → Option Value} {base : Heap} {CX : CXT} {k : Nat} {f : Addr} {fd : FuncData} {ps : List Str} {sp : Sp}
/-- as FnOk, but only for calls outside of every repr -/
structure FnG (P : Program) (w : World) (K : PySem.W.Frag) (mg : Str → Option Value) (base : Heap) (CX : CXT) (k : Nat) (f : Addr) (fd : FuncData) (ps : List Str) (sp : Sp) : Prop where
  many : ∀ vs H Q E, sp vs H Q E → vs.length = ps.length
  goes : ∀ (A : Around) (outer : List Env) (s : Shared) (H : Hp) (args : Args) (us : List Value) (vs : List V) (Q : VK) (E : XK), A.guards = some [] → Room k A → Env0 P w K mg base A outer s H →
    BindsTo s fd args (ps.zip us) → Vals vs us → sp vs H Q E → codeAny (model P w) A (.call (.ref f) args) (CR CX outer P w H s Q E) s
theorem FnG.of (F : FnOk P w K mg base CX k f fd ps sp) : FnG P w K mg base CX k f fd ps sp :=
  ⟨F.len, fun A outer s H args us vs Q E _ => F.run A outer s H args us vs Q E⟩
theorem FnG.up {j : Nat} (F : FnG P w K mg base CX j f fd ps sp) (h : j ≤ k) : FnG P w K mg base CX k f fd ps sp :=
  ⟨F.many, fun A outer s H args us vs Q E g r => F.goes A outer s H args us vs Q E g (r.mono h)⟩
/-- the end of a frame, as its caller sees it -/
theorem cr_of {A : Around} {outer : List Env} {s s' : Shared} {H : Hp} {Q : VK} {E : XK} {N : List Str} {qual : Str} {sc : Scope} {cdv : Value} {fl : Flow}
    (h : SP (cxOf CX P w K mg base N qual sc f cdv A outer s H E) [] { nx := fun _ H' => Q .non H', rt := Q } fl s') : ∀ r : Result, (r = match fl with | .ret u => (.ok (.ret u) : Result) | _ => (.ok (.ret .none) : Result)) → CR CX outer P w H s Q E r s' := by
  rintro _ rfl
  cases fl with
  | ret u => obtain ⟨v, _, H', J, rv, q⟩ := h; exact ⟨v, H', J.os, J.bare, J.base, J.hok, rv, q⟩
  | next => obtain ⟨_, H', J, q⟩ := h; exact ⟨.non, H', J.os, J.bare, J.base, J.hok, rfl, q⟩
  | brk => obtain ⟨_, _, _, q⟩ := h; exact q.elim
  | cont => obtain ⟨_, _, _, q⟩ := h; exact q.elim
/-- a def of the text keeps its promise, by its body, wherever no repr is under way -/
theorem okG {x qual : Str} {st : Stmt} {N : List Str} (F : Fun K x qual st f fd) (S : FnScope N ps (defScope st)) (len : ∀ vs H Q E, sp vs H Q E → vs.length = ps.length)
    (hb : ∀ (cdv : Value) (A : Around) (outer : List Env) (s : Shared) (H : Hp) (vs : List V) (Q : VK) (E : XK), A.guards = some [] → Room k (A.deeper (envOfC qual (defScope st) s.heap.objs.size f cdv)) → sp vs H Q E →
      ∃ t, PSs (cxOf CX P w K mg base N qual (defScope st) f cdv A outer s H E) (defBody st) t ∧ t { nx := fun _ H' => Q .non H', rt := Q } (start N vs) H) : FnG P w K mg base CX (k + 1) f fd ps sp := by
  obtain ⟨oc, od, kV, doc, pm, an, cdv, ct, osl, rfl, lk, hcd⟩ := F.ex
  refine ⟨len, fun A outer s H args us vs Q E hg hr e0 bt rv hs => ?_⟩
  have old : ∀ b o, base.get? b = some o → s.heap.get? b = some o := fun b o e => (e0.bs b o e).1
  have KX := e0.mod.kin.keeps old
  have kinds : ∀ y ∈ ps.zip us, (defScope st).names.lookup y.1 = some .local ∨ ((defScope st).names.lookup y.1 = some .cell ∧ ((cellsFrom (s.heap.objs.size + 1) (defScope st).names []).lookup y.1).isSome = true) := by
    rintro ⟨n, v⟩ hy
    exact (S.par n (List.of_mem_zip hy).1).imp id fun q => ⟨q, PySem.W.cellsFrom_some _ _ _ (.inl q)⟩
  apply codeAny_call_function hr.depth (KX _ _ lk) rfl S.co S.gen rfl (PySem.W.codeRec_of KX hcd)
  refine bt _ _ _ _ (wpAny_newFunctionEnv_cells S.kind kinds ?_)
  rintro _ rfl s1 x
  refine ⟨(e0.mod.nolimit.keeps old).keeps x.toInCall.keep, codeAny_func ?_⟩
  obtain ⟨t, ht, hq⟩ := hb cdv A outer s H vs Q E hg (hr.deeper _) hs
  refine wpAny_mono (ht.run [] s1 (start N vs) H _ (inv_start S hr.hd e0 (len _ _ _ _ hs) rv x) hq) ?_ ?_
  · intro fl s' h
    have z := cr_of h
    cases fl with
    | ret u => exact z _ rfl
    | next => exact z _ rfl
    | brk => obtain ⟨_, _, _, q⟩ := h; exact q.elim
    | cont => obtain ⟨_, _, _, q⟩ := h; exact q.elim
  · intro e s' h
    exact h
end
/-- the same of a def that nothing raised leaves -/
theorem okG0 {P : Program} {w : World} {K : PySem.W.Frag} {mg : Str → Option Value} {base : Heap} {k : Nat} {f : Addr} {fd : FuncData} {ps : List Str} {sp : Sp} {x qual : Str} {st : Stmt} {N : List Str} (F : Fun K x qual st f fd) (S : FnScope N ps (defScope st)) (len : ∀ vs H Q E, sp vs H Q E → vs.length = ps.length)
    (hb : ∀ (cdv : Value) (A : Around) (outer : List Env) (s : Shared) (H : Hp) (vs : List V) (Q : VK) (E : XK), A.guards = some [] → Room k (A.deeper (envOfC qual (defScope st) s.heap.objs.size f cdv)) → sp vs H Q E →
      ∃ t, PSs (cxOf CX0 P w K mg base N qual (defScope st) f cdv A outer s H E).nox (defBody st) t ∧ t { nx := fun _ H' => Q .non H', rt := Q } (start N vs) H) : FnG P w K mg base CX0 (k + 1) f fd ps sp := by
  refine okG F S len fun cdv A outer s H vs Q E g r h => ?_
  obtain ⟨t, ht, q⟩ := hb cdv A outer s H vs Q E g r h
  exact ⟨t, ht.nox, q⟩
section
variable {X : Cx} {CX : CXT} {k : Nat} {f : Addr} {fd : FuncData} {ps : List Str} {sp : Sp} {dvs : List V} {ds : List Value} {E : XK} {x : Str} {p pos : Pos} {e : Expr} {es : List Expr} {t : TA}
theorem runG {pins : List (Addr × Obj)} {σ : L2.St} {H : Hp} {s : Shared} {Q : VK} {us : List Value} {vs : List V} (F : FnG X.prog X.w X.K X.mg X.base CX k f fd ps sp) (hg : X.A.guards = some []) (hr : Room k X.A) (hb : Binds X.K fd ps ds) (hd : Vals dvs ds)
    (hx : Passes CX X E) (I : Inv X pins σ H s) (r : Vals vs us) (h : sp (vs ++ dvs) H Q E) : wpAny (model X.prog X.w) X.A (call (.ref f) us) (EP X pins σ Q) X.xe s := by
  have rr := r.append hd
  have bt := hb s us I.kIn (by rw [← rr.length]; exact F.many _ _ _ _ h)
  refine wpAny_call (codeAny_mono (F.goes X.A X.stack s H ⟨us, []⟩ _ _ Q E hg hr I.env0 bt rr h) ?_)
  rintro (e | fl) s' hq
  · exact hx pins σ H s e s' I hq
  · cases fl with
    | ret u => exact I.after hq
    | next => exact hq.elim
    | brk => exact hq.elim
    | cont => exact hq.elim
/-- f(e, ..) of such a def -/
theorem pe_callG (F : FnG X.prog X.w X.K X.mg X.base CX k f fd ps sp) (hg : X.A.guards = some []) (hr : Room k X.A) (gl : Gl X x) (hm : X.mg x = some (.ref f)) (hk : PySem.W.keepIn X.K (.ref f) = true) (hb : Binds X.K fd ps ds) (hd : Vals dvs ds)
    (hx : Passes CX X E) (ha : PA X (e :: es) t) (hdb : (x == ("__debug__" : Str)) = false := by decide) (he : starEach (e :: es) X.env = (false, eval e X.env) :: starEach es X.env := by rfl)
    (hpl : (backTo pos (starEach es X.env)).any (·.1) = false := by rfl) : PE X (.Call (.Name x p) (e :: es) [] pos) (tCall sp dvs E t) := by
  refine ⟨fun pins s σ H Q I h => wpAny_Call_Name_kw (ld_glob I gl hm ?_ hdb)⟩
  refine PySem.W.callWith_K (h₀ := X.base) I.ok.mod.kin hk (thn (ha.run pos pins s σ H _ I h) ?_) he hpl
  rintro us s1 ⟨vs, H1, I1, r, q⟩
  exact ⟨I1.kIn, runG F hg hr hb hd hx I1 r q⟩
end

/-! ### repr -/
def rRepr (K : PySem.W.Frag) : List V → Hp → VK → Prop := fun xs H Q => ∃ (x : V) (d : PyData), xs = [x] ∧ Dp K H x d ∧ d.canLay0 = true ∧ d.showable = true ∧ d.depth ≤ 40 ∧ d.shown.length ≤ sizeLine ∧ Q (.str d.shown) H
theorem call_reprG {X : Cx} {k : Nat} (hg : X.A.guards = some []) (hr : Room k X.A) : CallR X (.builtin "repr") (rRepr X.K) := by
  intro pins s σ H xs us Q I r h
  obtain ⟨x, d, rfl, hd, hc, hs, h40, hz, q⟩ := h
  obtain ⟨u, rfl, rx⟩ := vals1 r
  have un : X.A.units + 100 < cLine := by have := hr.un; omega
  obtain ⟨as, rd⟩ := Dp.reads I d x u hd rx
  have str : ∀ (y : Str) (h' : Heap) (tk tk' : Tok) (n : Nat), d.shown = y → (∀ b o, s.heap.get? b = some o → h'.get? b = some o) → EP X pins σ Q (.str y tk) { s with heap := h', toks := n } := by
    rintro _ h' tk tk' n rfl kk
    exact ⟨.str d.shown, H, I.kept kk, ⟨_, rfl⟩, q⟩
  cases rd with
  | none => exact PySem.P.repr_of_none (str _ _ _ 0 _ rfl fun _ _ z => z)
  | bool b => exact PySem.P.repr_of_bool (str _ _ _ 0 _ (by simp only [PyData.shown]) fun _ _ z => z)
  | int i t =>
    have hs2 : i.natAbs.log2 < 1920 := by simpa [PyData.showable] using hs
    exact PySem.P.repr_of_int hs2 (str _ _ _ 0 _ (by simp only [PyData.shown]) fun _ _ z => z)
  | str y t =>
    have hz2 : (reprText y).length ≤ sizeLine := by simpa only [PyData.shown] using hz
    exact PySem.P.repr_of_str (str _ _ _ 0 _ (by simp only [PyData.shown]) fun _ _ z => z) hz2
  | list h1 h2 h3 h4 => exact repr_of_reads' (.list h1 h2 h3 h4) hs (PyData.noDict_hsm (PyData.hasDict_of_canLay _ hc)) hg (by omega) (fun _ _ z => z) (fun h' u tk kk => str _ _ _ 0 _ rfl kk) hz
  | tuple h1 h2 h3 h4 => exact repr_of_reads' (.tuple h1 h2 h3 h4) hs (PyData.noDict_hsm (PyData.hasDict_of_canLay _ hc)) hg (by omega) (fun _ _ z => z) (fun h' u tk kk => str _ _ _ 0 _ rfl kk) hz
  | dict h1 h2 h3 h4 h5 => simp [PyData.canLay0] at hc
/-! ### the law's call -/
theorem lawG {P : Program} {w : World} {K : PySem.W.Frag} {mg mb : Str → Option Value} {CX : CXT} {k : Nat} {fa a : Addr} {fd : FuncData} {x : Str} {sp : Sp} {s₁ : Shared} {vs : List Value} {ns : List Int}
    (KX : K.In s₁.heap) (hM : s₁.heap.Ns mainGlobals mg) (hB : s₁.heap.Ns builtinsNs mb) (hbb : ∀ x : Str, x ≠ "__name__" → mb x = bootBuiltins x) (hlim : s₁.heap.NoLimit) (hg : s₁.gens = #[])
    (ha : s₁.heap.get? a = some { cls := .type "list", data := .seq vs.toArray }) (hi : IntsAre vs ns) (hl : ns.length ≤ sizeLine) (hr : Room k callerA)
    (F : ∀ base : Heap, K.In base → base.Ns mainGlobals mg → FnG P w K mg base CX k fa fd [x] sp) (hbind : ∀ (s : Shared) (u : Value), BindsTo s fd ⟨[u], []⟩ [(x, u)])
    (hsp : ∀ H : Hp, Only H → SqL K H a (ns.map V.int) → sp [.ref a] H (fun v _ => v = .bl true) fun _ _ _ => False)
    (hCX : ∀ H e s', CX [] H s₁ (fun _ _ _ => False) e s' → False) :
    codeAny (model P w) callerA (.call (.ref fa) ⟨[.ref a], []⟩) (fun r s' => r = .ok (.ret (.bool true)) ∧ OldK s₁.heap s'.heap ∧ s'.os = s₁.os ∧ AllBare s'.gens) s₁ := by
  -- the script's object, and what is tracked of it
  let sob : Obj := { cls := .type "list", data := .seq vs.toArray }
  have zs : (ns.map V.int).length ≤ sizeLine := by
    rw [List.length_map]
    exact hl
  have run : ∀ H : Hp, (∀ b u, H b = some u → b = a ∧ K.lookup a = none ∧ u = .frz sob (.lst (ns.map V.int))) → SqL K H a (ns.map V.int) →
      codeAny (model P w) callerA (.call (.ref fa) ⟨[.ref a], []⟩) (fun r s' => r = .ok (.ret (.bool true)) ∧ OldK s₁.heap s'.heap ∧ s'.os = s₁.os ∧ AllBare s'.gens) s₁ := by
    intro H hH hS
    have only : Only H := fun b => by
      cases q : H b with
      | none => exact .inl rfl
      | some u => exact .inr ⟨_, _, congrArg some (hH b u q).2.2⟩
    have ok : HOk P w H s₁.heap := fun b u q => by
      obtain ⟨rfl, _, rfl⟩ := hH b u q
      exact ⟨ha, zs, vs, _, vals_ints hi, ha⟩
    have dict : ∀ {b : Addr} {o : Obj} {es : Array DictEntry} {ep : Nat}, s₁.heap.get? b = some o → o.data = .dict es ep → H b = none := fun {b o es ep} e d => by
      cases q : H b with
      | none => rfl
      | some u =>
        obtain ⟨rfl, _⟩ := hH b u q
        rw [ha] at e
        cases e
        cases d
    have ns2 : ∀ {b : Addr} {m : Str → Option Value}, s₁.heap.Ns b m → (hidT s₁.heap H).Ns b m := by
      rintro b m ⟨o, es, ep, e, d, r⟩
      exact ⟨o, es, ep, hidT_get e (dict e d), d, r⟩
    have KB : K.In (hidT s₁.heap H) := fun b o e => by
      refine hidT_get (KX b o e) ?_
      cases q : H b with
      | none => rfl
      | some u =>
        obtain ⟨rfl, z, _⟩ := hH b u q
        rw [z] at e
        cases e
    obtain ⟨mc, l1, l2⟩ := hlim
    have M : Mod K mg (hidT s₁.heap H) := ⟨KB, ns2 hM, ⟨mb, ns2 hB, hbb⟩, mc, ns2 l1, l2⟩
    have G := F _ KB (ns2 hM)
    have e0 : Env0 P w K mg (hidT s₁.heap H) callerA [] s₁ H := ⟨rfl, M, fun _ _ e => of_hidT e, Nat.le_of_eq (hidT_size _ _), trivial, (fun b hb => nomatch hb), ok, .of_eq hg⟩
    refine codeAny_mono (G.goes callerA [] s₁ H _ [.ref a] [.ref a] _ _ rfl hr e0 (hbind s₁ _) (.cons rfl .nil) (hsp H only hS)) ?_
    rintro (e | fl) s' q
    · exact (hCX H e s' q).elim
    · cases fl with
      | next => exact q.elim
      | brk => exact q.elim
      | cont => exact q.elim
      | ret u =>
        obtain ⟨v, H', os, bare, un, ok', rv, rfl⟩ := q
        cases rv
        refine ⟨rfl, .of_keep fun b o e => ?_, os, bare⟩
        cases q : H b with
        | none => exact un.keep b o e q (fun z => nomatch z) (fun z => nomatch z)
        | some u =>
          obtain ⟨rfl, _, rfl⟩ := hH b u q
          rw [ha] at e
          cases e
          exact (ok' _ _ (un.frzs _ _ _ q)).1
  by_cases hk : K.lookup a = none
  · refine run (fun b => if b = a then some (.frz sob (.lst (ns.map V.int))) else none) (fun b u q => ?_) (.inl (.inr ⟨sob, if_pos rfl⟩))
    by_cases z : b = a
    · refine ⟨z, hk, ?_⟩
      rw [if_pos z] at q
      exact (Option.some.inj q).symm
    · rw [if_neg z] at q
      cases q
  · obtain ⟨o, ho⟩ := Option.ne_none_iff_exists'.mp hk
    have e := KX a o ho
    rw [ha] at e
    cases e
    refine run (fun _ => none) (fun b u q => nomatch q) (.inr ⟨_, vs.toArray, _, ho, rfl, rfl, rfl, ?_, vals_ints hi⟩)
    rw [List.size_toArray, hi.length]
    exact hl
/-- a law's goal, by such a promise -/
theorem walkG {l : PySem.W.OpenLaw} {k : Nat} {q : Program} {loose : List Str} {XP : (Str → Option Value) → Heap → Prop} {YP : World → Heap → Prop} {d : DefRec} {K : Params → PySem.W.Frag} {CX : CXT} {sp : PySem.W.Frag → Sp} {x : Str}
    (hn : l.most = some 63) (hdf : d.params.defaults = []) (hr : Room k callerA) (hY : ∀ (w : World) (h : Heap), YP w h → (K w.params).In h)
    (F : ∀ (w : World) (mg : Str → Option Value) (fa : Addr) (h : Heap), (K w.params).In h → h.Ns mainGlobals mg → mg d.name = some (.ref fa) →
      ∃ fd : FuncData, (∀ (s : Shared) (u : Value), BindsTo s fd ⟨[u], []⟩ [(x, u)]) ∧ ∀ base : Heap, (K w.params).In base → base.Ns mainGlobals mg → FnG l.prog w (K w.params) mg base CX k fa fd [x] (sp (K w.params)))
    (hsp : ∀ (K : PySem.W.Frag) (H : Hp) (a : Addr) (ns : List Int), ns.length ≤ 63 → SqL K H a (ns.map V.int) → sp K [.ref a] H (fun v _ => v = .bl true) fun _ _ _ => False)
    (hCX : ∀ (H : Hp) (s : Shared) (e : Value) (s' : Shared), CX [] H s (fun _ _ _ => False) e s' → False) : PySem.W.WalkO q loose XP YP l.row.toRowW d [] (fun f vs => PySem.call f vs) := by
  refine Att.attach_call hn hdf fun w s₀ s₁ mg mb fa o pm cd doc a vs ns G Y ho hd hcd hmg hobj hints hlen hg => ?_
  obtain ⟨fd, hb, hF⟩ := F w mg fa _ (hY w _ Y) G.T.g hmg
  have h24 : ns.length ≤ sizeLine := Nat.le_trans hlen (by decide)
  exact lawG (hY w _ Y) G.T.g G.T.b G.T.builtins G.T.nolimit hg hobj hints h24 hr hF hb (fun H _ hS => hsp _ H a ns hlen hS) fun H e s' => hCX H s₁ e s'
end HG

namespace HF
/-! figures of a number, the lowest first; the number of a list of rests, the foremost first -/
def low (p : Nat) : Nat → Nat → List Nat
  | 0, _ => []
  | f + 1, n => if n = 0 then [] else n % p :: low p f (n / p)
def L (p n : Nat) : List Nat := low p n n
/-- the figures of n, the foremost first -/
def figs (p n : Nat) : List Nat := (L p n).reverse
def num (p : Nat) (ds : List Nat) : Nat := ds.foldl (fun a d => a * p + d) 0
/-- of a list, the lowest first -/
def val (p : Nat) : List Nat → Nat
  | [] => 0
  | d :: r => d + p * val p r
theorem low_fuel {p : Nat} (hp : 2 ≤ p) : ∀ (f g n : Nat), n ≤ f → n ≤ g → low p f n = low p g n := by
  intro f
  induction f with
  | zero =>
    intro g n hf hg
    obtain rfl : n = 0 := by omega
    cases g <;> rfl
  | succ f ih =>
    intro g n hf hg
    cases g with
    | zero =>
      obtain rfl : n = 0 := by omega
      rfl
    | succ g =>
      unfold low
      by_cases h : n = 0
      · rw [if_pos h, if_pos h]
      · rw [if_neg h, if_neg h]
        have : n / p < n := Nat.div_lt_self (by omega) (by omega)
        rw [ih g (n / p) (by omega) (by omega)]
theorem L_zero (p : Nat) : L p 0 = [] := rfl
theorem L_pos {p n : Nat} (hp : 2 ≤ p) (hn : n ≠ 0) : L p n = n % p :: L p (n / p) := by
  obtain ⟨m, rfl⟩ : ∃ m, n = m + 1 := ⟨n - 1, by omega⟩
  unfold L
  show (if m + 1 = 0 then _ else _) = _
  rw [if_neg (by omega)]
  have : (m + 1) / p < m + 1 := Nat.div_lt_self (by omega) (by omega)
  rw [low_fuel hp m ((m + 1) / p) _ (by omega) (Nat.le_refl _)]
theorem L_ind {p : Nat} (hp : 2 ≤ p) {C : Nat → Prop} (h0 : C 0) (h1 : ∀ n, n ≠ 0 → C (n / p) → C n) (n : Nat) : C n := by
  induction n using Nat.strongRecOn with
  | _ n ih =>
    by_cases h : n = 0
    · subst h; exact h0
    · exact h1 n h (ih _ (Nat.div_lt_self (by omega) (by omega)))
theorem val_L {p : Nat} (hp : 2 ≤ p) (n : Nat) : val p (L p n) = n := by
  refine L_ind hp (C := fun n => val p (L p n) = n) rfl (fun n hn ih => ?_) n
  rw [L_pos hp hn]
  show n % p + p * val p (L p (n / p)) = n
  rw [ih]
  exact Nat.mod_add_div n p
theorem L_lt {p : Nat} (hp : 2 ≤ p) (n : Nat) : ∀ d ∈ L p n, d < p := by
  refine L_ind hp (C := fun n => ∀ d ∈ L p n, d < p) (by simp [L_zero]) (fun n hn ih d hd => ?_) n
  rw [L_pos hp hn] at hd
  rcases List.mem_cons.mp hd with rfl | hd
  · exact Nat.mod_lt _ (by omega)
  · exact ih d hd
/-- the last of L isn't 0 -/
theorem L_last {p : Nat} (hp : 2 ≤ p) (n : Nat) : ∀ d, (L p n).getLast? = some d → d ≠ 0 := by
  refine L_ind hp (C := fun n => ∀ d, (L p n).getLast? = some d → d ≠ 0) (by simp [L_zero]) (fun n hn ih d hd => ?_) n
  rw [L_pos hp hn] at hd
  by_cases z : n / p = 0
  · rw [z, L_zero] at hd
    simp at hd
    have : n % p = n := Nat.mod_eq_of_lt (by
      have := Nat.div_add_mod n p
      rw [z] at this
      have := Nat.mod_lt n (show 0 < p by omega)
      omega)
    omega
  · have e := L_pos hp z
    rw [e, List.getLast?_cons_cons] at hd
    rw [← e] at hd
    exact ih d hd
theorem L_len {p : Nat} (hp : 2 ≤ p) : ∀ (k n : Nat), n < p ^ k → (L p n).length ≤ k
  | 0, n, h => by
    obtain rfl : n = 0 := by simpa using h
    exact Nat.le_refl _
  | k + 1, n, h => by
    by_cases z : n = 0
    · subst z; exact Nat.zero_le _
    · rw [L_pos hp z, List.length_cons]
      have : n / p < p ^ k := by
        rw [Nat.div_lt_iff_lt_mul (by omega), ← Nat.pow_succ]
        exact h
      have := L_len hp k _ this
      omega
/-- a list of rests whose last isn't 0 is that of its number -/
theorem L_val {p : Nat} (hp : 2 ≤ p) : ∀ ds : List Nat, (∀ d ∈ ds, d < p) → (∀ d, ds.getLast? = some d → d ≠ 0) → L p (val p ds) = ds
  | [], _, _ => rfl
  | d :: r, h1, h2 => by
    have hd : d < p := h1 d List.mem_cons_self
    have ih := L_val hp r (fun x hx => h1 x (List.mem_cons_of_mem _ hx)) (fun x hx => by
      cases r with
      | nil => cases hx
      | cons y r => exact h2 x (by rw [List.getLast?_cons_cons]; exact hx))
    have em : (d + p * val p r) % p = d := by rw [Nat.add_mul_mod_self_left, Nat.mod_eq_of_lt hd]
    have ed : (d + p * val p r) / p = val p r := by rw [Nat.add_mul_div_left _ _ (by omega), Nat.div_eq_of_lt hd, Nat.zero_add]
    have nz : d + p * val p r ≠ 0 := by
      intro z
      have d0 : d = 0 := by omega
      have v0 : p * val p r = 0 := by omega
      have v1 : val p r = 0 := by
        rcases Nat.mul_eq_zero.mp v0 with q | q
        · omega
        · exact q
      rw [v1, L_zero] at ih
      subst ih
      exact h2 d rfl d0
    show L p (d + p * val p r) = d :: r
    rw [L_pos hp nz, em, ed, ih]
theorem num_app (p : Nat) (a b : List Nat) : num p (a ++ b) = b.foldl (fun x d => x * p + d) (num p a) := by
  unfold num
  rw [List.foldl_append]
theorem num_snoc (p : Nat) (a : List Nat) (d : Nat) : num p (a ++ [d]) = num p a * p + d := num_app p a [d]
theorem num_rev (p : Nat) : ∀ ds : List Nat, num p ds.reverse = val p ds
  | [] => rfl
  | d :: r => by
    rw [List.reverse_cons, num_snoc, num_rev p r, Nat.mul_comm, Nat.add_comm]
    rfl
theorem num_val (p : Nat) (ds : List Nat) : num p ds = val p ds.reverse := by
  rw [← num_rev, List.reverse_reverse]
theorem figs_zero (p : Nat) : figs p 0 = [] := rfl
theorem num_figs {p : Nat} (hp : 2 ≤ p) (n : Nat) : num p (figs p n) = n := by
  unfold figs
  rw [num_rev, val_L hp]
theorem figs_lt {p : Nat} (hp : 2 ≤ p) (n : Nat) : ∀ d ∈ figs p n, d < p := fun d hd => L_lt hp n d (List.mem_reverse.mp hd)
theorem figs_head {p : Nat} (hp : 2 ≤ p) (n : Nat) : ∀ d, (figs p n).head? = some d → d ≠ 0 := fun d hd => by
  unfold figs at hd
  rw [List.head?_reverse] at hd
  exact L_last hp n d hd
theorem figs_len {p : Nat} (hp : 2 ≤ p) {k n : Nat} (h : n < p ^ k) : (figs p n).length ≤ k := by
  unfold figs
  rw [List.length_reverse]
  exact L_len hp k n h
theorem figs_num {p : Nat} (hp : 2 ≤ p) {ds : List Nat} (h1 : ∀ d ∈ ds, d < p) (h2 : ∀ d, ds.head? = some d → d ≠ 0) : figs p (num p ds) = ds := by
  unfold figs
  rw [num_val, L_val hp _ (fun d hd => h1 d (List.mem_reverse.mp hd)) (fun d hd => h2 d (by rw [← List.getLast?_reverse]; exact hd)), List.reverse_reverse]
theorem num_zeros (p : Nat) : ∀ (k : Nat) (ds : List Nat), num p (List.replicate k 0 ++ ds) = num p ds
  | 0, _ => rfl
  | k + 1, ds => by
    rw [List.replicate_succ, List.cons_append]
    have e : num p (0 :: (List.replicate k 0 ++ ds)) = num p (List.replicate k 0 ++ ds) := by
      unfold num
      rw [List.foldl_cons]
      congr 1
      simp
    rw [e, num_zeros p k ds]
/-- the noughts ahead -/
def lead : List Nat → Nat
  | 0 :: r => lead r + 1
  | _ => 0
theorem lead_le : ∀ ds : List Nat, lead ds ≤ ds.length
  | [] => Nat.le_refl _
  | 0 :: r => by
    have := lead_le r
    show lead r + 1 ≤ r.length + 1
    omega
  | (_ + 1) :: _ => Nat.zero_le _
theorem lead_zero : ∀ (ds : List Nat) (i : Nat), i < lead ds → ds[i]? = some 0
  | [], _, h => absurd h (Nat.not_lt_zero _)
  | 0 :: r, 0, _ => rfl
  | 0 :: r, i + 1, h => by
    have h : i + 1 < lead r + 1 := h
    exact lead_zero r i (by omega)
  | (_ + 1) :: _, _, h => absurd h (Nat.not_lt_zero _)
theorem lead_stop : ∀ (ds : List Nat) (d : Nat), ds[lead ds]? = some d → d ≠ 0
  | [], _, h => by cases h
  | 0 :: r, d, h => lead_stop r d (by simpa [lead] using h)
  | (x + 1) :: r, d, h => by
    have h : some (x + 1) = some d := h
    have := Option.some.inj h
    omega
theorem lead_split : ∀ ds : List Nat, ds = List.replicate (lead ds) 0 ++ ds.drop (lead ds)
  | [] => rfl
  | 0 :: r => by
    show 0 :: r = List.replicate (lead r + 1) 0 ++ r.drop (lead r)
    rw [List.replicate_succ, List.cons_append]
    exact congrArg (0 :: ·) (lead_split r)
  | (_ + 1) :: _ => rfl
theorem figs_lead {p : Nat} (hp : 2 ≤ p) {ds : List Nat} (h1 : ∀ d ∈ ds, d < p) : figs p (num p ds) = ds.drop (lead ds) := by
  have e : num p ds = num p (ds.drop (lead ds)) := by
    have := congrArg (num p) (lead_split ds)
    rw [num_zeros] at this
    exact this
  rw [e]
  refine figs_num hp (fun d hd => h1 d (List.mem_of_mem_drop hd)) (fun d hd => lead_stop ds d ?_)
  rw [List.head?_drop] at hd
  exact hd
/-- the law's own sum -/
theorem val_app (p : Nat) : ∀ (a b : List Nat), val p (a ++ b) = val p a + p ^ a.length * val p b
  | [], b => by simp [val]
  | d :: r, b => by
    show d + p * val p (r ++ b) = d + p * val p r + p ^ (r.length + 1) * val p b
    rw [val_app p r b, Nat.mul_add, Nat.pow_succ, Nat.mul_comm (p ^ r.length) p, Nat.mul_assoc, Nat.add_assoc]
theorem val_lt {p : Nat} : ∀ ds : List Nat, (∀ d ∈ ds, d < p) → val p ds < p ^ ds.length
  | [], _ => by simp [val]
  | d :: r, h => by
    have hd : d < p := h d List.mem_cons_self
    have ih := val_lt r (fun x hx => h x (List.mem_cons_of_mem _ hx))
    show d + p * val p r < p ^ (r.length + 1)
    rw [Nat.pow_succ, Nat.mul_comm (p ^ r.length) p]
    have : p * (val p r + 1) ≤ p * p ^ r.length := Nat.mul_le_mul_left p ih
    rw [Nat.mul_add] at this
    omega
theorem num_lt {p : Nat} {ds : List Nat} (h : ∀ d ∈ ds, d < p) : num p ds < p ^ ds.length := by
  rw [num_val]
  have := val_lt ds.reverse (fun d hd => h d (List.mem_reverse.mp hd))
  rwa [List.length_reverse] at this
end HF

namespace HG
open PySem PySem.Spec PyProof.Rows L2 HF
def nV (d : Nat) : V := V.int (d : Int)
def nD (d : Nat) : PyData := .int (d : Int)
/-- data that can be compared and shown -/
structure Fine (d : PyData) : Prop where
  lay : d.canLay0 = true
  show_ : d.showable = true
  deep : d.depth ≤ 40
  size : d.shown.length ≤ sizeLine
theorem Fine.shaped {d : PyData} (f : Fine d) : SeqAt.shaped d = true := by
  show (d.canLay0 && decide (d.depth ≤ 64)) = true
  rw [f.lay, decide_eq_true (by have := f.deep; omega)]
  rfl
theorem fine_int {i : Int} (h : i.natAbs < 2 ^ 1000) : Fine (.int i) := by
  have hz : i.natAbs.log2 < 1920 := by
    have := PySem.Flt.log2_lt_of (by decide : 0 < 1000) h
    omega
  refine ⟨rfl, ?_, by show 0 ≤ 40; decide, ?_⟩
  · simpa [PyData.showable] using hz
  · simp only [PyData.shown]
    exact int_text_fits hz
theorem fine_list {ds : List PyData} (h : ∀ d ∈ ds, d.canLay0 = true ∧ d.showable = true ∧ d.depth ≤ 10 ∧ d.shown.length ≤ 1000) (hl : ds.length ≤ 1000) : Fine (.list ds) := by
  have key : PyData.canLayAll0 ds = true ∧ PyData.showableAll ds = true ∧ PyData.depthAll ds ≤ 10 ∧ ((PyData.shownAll ds).map (·.length)).sum ≤ 1000 * ds.length ∧ (PyData.shownAll ds).length = ds.length := by
    clear hl
    induction ds with
    | nil => exact ⟨rfl, rfl, by show 0 ≤ 10; decide, Nat.le_refl _, rfl⟩
    | cons d ds ih =>
      obtain ⟨i1, i2, i3, i4, i5⟩ := ih fun d' hd => h d' (List.mem_cons_of_mem _ hd)
      obtain ⟨j1, j2, j3, j4⟩ := h d List.mem_cons_self
      refine ⟨?_, ?_, ?_, ?_, ?_⟩
      · show (PyData.canLay0 d && PyData.canLayAll0 ds) = true
        rw [j1, i1]; rfl
      · show (PyData.showable d && PyData.showableAll ds) = true
        rw [j2, i2]; rfl
      · show max (PyData.depth d) (PyData.depthAll ds) ≤ 10
        omega
      · show ((PyData.shown d :: PyData.shownAll ds).map (·.length)).sum ≤ 1000 * (ds.length + 1)
        rw [List.map_cons, List.sum_cons]
        omega
      · show (PyData.shownAll ds).length + 1 = ds.length + 1
        rw [i5]
  obtain ⟨k1, k2, k3, k4, k5⟩ := key
  refine ⟨k1, k2, by show PyData.depthAll ds + 1 ≤ 40; omega, ?_⟩
  simp only [PyData.shown]
  have := listText_len_le (PyData.shownAll ds)
  rw [k5] at this
  have hm : 1000 * ds.length ≤ 1000 * 1000 := Nat.mul_le_mul_left _ hl
  have hz : 1000 * 1000 + 2 * 1000 + 3 ≤ sizeLine := by decide
  omega
theorem fine_nats {ds : List Nat} (h : ∀ d ∈ ds, d < 10 ^ 12) (hl : ds.length ≤ 1000) : Fine (.list (ds.map nD)) := by
  refine fine_list (fun d hd => ?_) (by rw [List.length_map]; exact hl)
  obtain ⟨n, hn, rfl⟩ := List.mem_map.mp hd
  have hn := h n hn
  have f : Fine (nD n) := fine_int (by
    have : (10 : Nat) ^ 12 < 2 ^ 1000 := by decide +kernel
    show ((n : Int)).natAbs < 2 ^ 1000
    omega)
  refine ⟨f.lay, f.show_, by show 0 ≤ 10; decide, ?_⟩
  have := PyData.shown_int_le (i := (n : Int)) (by omega)
  show (PyData.shown (.int (n : Int))).length ≤ 1000
  omega
theorem dpAll_nats {K : PySem.W.Frag} {H : Hp} : ∀ ns : List Nat, DpAll K H (ns.map nV) (ns.map nD)
  | [] => .nil
  | n :: ns => .cons (.int (n : Int)) (dpAll_nats ns)
def spFigs : Sp := fun vs H Q _ => ∃ (n p : Nat), vs = [.int (n : Int), .int (p : Int)] ∧ n < 2 ^ 1000 ∧ 2 ≤ p ∧ p ≤ 4 ∧ ∀ (q : Addr) (H' : Hp), Same H H' → H q = none → H' q = some (.lst ((figs p n).map nV)) → Q (.ref q) H'
def spNum (K : PySem.W.Frag) : Sp := fun vs H Q _ => ∃ (a : Addr) (p : Nat) (ds : List Nat), vs = [.ref a, .int (p : Int)] ∧ SqL K H a (ds.map nV) ∧ p ≤ 4 ∧ Q (.int ((num p ds : Nat) : Int)) H
def spSummed (K : PySem.W.Frag) : Sp := fun vs H Q _ => ∃ (a : Addr) (p : Nat) (ds : List Nat), vs = [.ref a, .int (p : Int)] ∧ SqL K H a (ds.map nV) ∧ p ≤ 4 ∧ (∀ d ∈ ds, d < 1000) ∧ ∀ H', Same H H' → Q (.int ((num p ds : Nat) : Int)) H'
def spRight (K : PySem.W.Frag) : Sp := fun vs H Q _ => ∃ (a : Addr) (n p : Nat), vs = [.ref a, .int (n : Int), .int (p : Int)] ∧ H a = some (.lst ((figs p n).map nV)) ∧ 2 ≤ p ∧ p ≤ 4 ∧ (figs p n).length ≤ 1000 ∧ ∀ H', Same H H' → Q (.bl true) H'
def spAlike (K : PySem.W.Frag) : Sp := fun vs H Q _ => ∃ (x y : V) (d : PyData), vs = [x, y] ∧ Dp K H x d ∧ Dp K H y d ∧ Fine d ∧ Q (.bl true) H
end HG

namespace P12
open PySem PySem.Spec PyProof.Rows L2 HG
def topS (i : Nat) : Stmt := PySem.Challenge.pw_halfpace_k12_figures_and_numbers.main.body.getD i (.Pass ⟨0, 0, 0, 0⟩)
abbrev sFigs : Stmt := topS 1
abbrev sNum : Stmt := topS 2
abbrev sBag : Stmt := topS 4
abbrev sTake : Stmt := topS 5
abbrev sAlike : Stmt := topS 6
abbrev sNumber : Stmt := topS 7
abbrev sSummed : Stmt := topS 8
abbrev sRight : Stmt := topS 9
abbrev sLaw : Stmt := topS 10
section
variable {P : Program} {w : World} {K : PySem.W.Frag} {mg : Str → Option Value} {base : Heap}
theorem scBag : FnScope ["script", "cell"] ["script"] (defScope sBag) := ⟨rfl, rfl, rfl, by decide +kernel, rfl, by decide +kernel, by decide +kernel⟩
theorem ok_bag {f : Addr} {fd : FuncData} {k : Nat} (F : Fun K "_law_bag" "_law_bag" sBag f fd) (ma : mg "abs" = none) : FnOk P w K mg base CX0 (k + 1) f fd ["script"] (spBag K) := by
  refine F.ok scBag (fun vs H Q E h => ?_) (fun cdv A outer s H vs Q E hr h => ?_)
  · obtain ⟨a, ns, rfl, _⟩ := h
    rfl
  · obtain ⟨a, ns, rfl, hS, hl, k⟩ := h
    refine ⟨_, pss_one (ps_ret (pe_lst (pa_cons pe_int (pa_cons pe_int (pa_cons pe_int (pa_cons
      (pe_lc (own := [("cell", 1)]) (g := gName 1) (tt := tYes) rfl scBag.nd (pi_list (pe_slice sl_list (pv 0) po_none (po_some pe_int))) (blkOk_by (N := ["script", "cell"]) (sc := defScope sBag) (by decide +kernel))
        (fun _ _ _ _ _ => pg_name (i := 1) scBag.nd rfl (Or.inl rfl)) (fun _ _ _ _ _ => pts_nil)
        (fun _ _ _ _ _ => pe_callB call_abs (by rfl) ma (by decide +kernel) (pa_cons (pv 1) pa_nil))) pa_nil)))))), ?_⟩
    refine ⟨.ref a, rfl, 63, rfl, a, ns.map V.int, rfl, hS, fun c nc => ?_⟩
    have hcut : cutV (ns.map V.int) none (some 63) = ns.map V.int := by
      unfold cutV
      rw [HT.sIx_none, List.drop_zero, show HT.sIx (ns.map V.int).length (ns.map V.int).length (some 63) = min 63 (ns.map V.int).length from HT.sIx_nat _ _ 63, List.length_map]
      apply List.take_of_length_le
      rw [List.length_map]
      omega
    rw [hcut]
    have s1 : Same H (upd H c (.lst (ns.map V.int))) := same_upd nc
    refine ⟨c, rfl, ⟨_, .of upd_same⟩, fun D hD => ?_⟩
    have ncD : c ≠ D := fun e => by rw [← e, upd_same] at hD; cases hD
    refine lc_list (K := K) (a := c) (xs := ns.map V.int) (fun i H' => ∃ ms : List Int, Same H H' ∧ H' c = some (.lst (ns.map V.int)) ∧ H' D = some (.lst (ms.map V.int)) ∧ ms.length = i ∧ D ≠ c) ?_ ?_ ?_ ?_
    · refine ⟨[], ?_, ?_, upd_same, rfl, ncD.symm⟩
      · exact s1.trans (same_upd hD)
      · rw [upd_ne ncD, upd_same]
    · rintro i H' hi ⟨ms, q1, q2, q3, q4, q5⟩
      exact .of q2
    · rintro i x H' hi ⟨ms, q1, q2, q3, q4, q5⟩
      obtain ⟨z, rfl⟩ : ∃ z, x = V.int z := by
        rw [List.getElem?_map] at hi
        cases e : ns[i]? with
        | none => rw [e] at hi; cases hi
        | some z => rw [e] at hi; exact ⟨z, (Option.some.inj hi).symm⟩
      have hil : i < (ns.map V.int).length := (List.getElem?_eq_some_iff.mp hi).1
      rw [List.length_map] at hil
      have hD' : H D = none := by
        have : (upd H c (.lst (ns.map V.int))) D = H D := upd_ne ncD.symm
        rw [← this]; exact hD
      refine ⟨rfl, .int z, rfl, _, rfl, ms.map V.int, q3, ?_, ms ++ [if z < 0 then -z else z], fun b o e => ?_, ?_, ?_, ?_, q5⟩
      · rw [List.length_map]; exact small1000 (by omega)
      · rw [upd_ne (ne_of_none e hD')]
        exact q1 b o e
      · rw [upd_ne ncD]; exact q2
      · rw [upd_same, List.map_append]; rfl
      · rw [List.length_append]; simp [q4]
    · rintro H' ⟨ms, q1, q2, q3, q4, q5⟩
      refine ⟨by show 4 ≤ sizeLine; decide, fun p hp => ?_⟩
      have hpn : H p = none := q1.free hp
      have nDp : D ≠ p := ne_of_none q3 hp
      exact k p _ (q1.trans (same_upd hp)) hpn ⟨D, 0, 1234567891, 0, ms, upd_same, by rw [upd_ne nDp]; exact q3, by decide⟩
theorem scTake : FnScope ["bag", "many", "cell", "value", "first", "second"] ["bag", "many"] (defScope sTake) := ⟨rfl, rfl, rfl, by decide +kernel, rfl, by decide +kernel, by decide +kernel⟩
theorem ok_take2 {f : Addr} {fd : FuncData} {k : Nat} (F : Fun K "_law_take" "_law_take" sTake f fd) (ml : mg "len" = none) : FnOk P w K mg base CX0 (k + 1) f fd ["bag", "many"] spTake2 := by
  refine F.ok scTake (fun vs H Q E h => ?_) (fun cdv A outer s H vs Q E hr h => ?_)
  · obtain ⟨p, m, rfl, _⟩ := h
    rfl
  · obtain ⟨p, m, rfl, ⟨c, b0, b1, b2, cs, hb, hc, h2⟩, hm, hm2, k⟩ := h
    have ncp : c ≠ p := bag_ne hb hc
    refine ⟨_, Evl.pss_cut (ps_if (pt_cmpR op_eq (pe_ix ix_list (pv 0) pe_int (fun _ _ => rfl)) pe_int (nomark _))
        (pss_cons (ps_set (i := 2) scTake.nd rfl (.inl rfl) pe_int)
        (Evl.pss_cut (ps_if (pt_cmpR op_lt (pe_ix ix_list (pv 0) pe_int (fun _ _ => rfl)) (pe_callB call_len_seq (by rfl) ml PySem.boot_len (pa_cons (pe_ix ix_list (pv 0) pe_int (fun _ _ => rfl)) pa_nil)) (nomark _))
            (pss_one (ps_set (i := 2) scTake.nd rfl (.inl rfl) (pe_ix ix_list (pe_ix ix_list (pv 0) pe_int (fun _ _ => rfl)) (pe_ix ix_list (pv 0) pe_int (fun _ _ => rfl)) (fun _ _ => rfl)))) pss_nil)
        (pss_cons (ps_augS (pv 0) pe_int get_list pe_int ip_add set_list)
        (Evl.pss_cut (ps_if (pt_cmpR op_ge (pv 2) pe_int (nomark _)) (pss_one (ps_asg (pv 2) (pg_sub (pv 0) pe_int set_list))) pss_nil)
        (pss_one (ps_asg (pe_op op_mod (pe_op op_add (pe_op op_add (pe_op op_mul (pe_ix ix_list (pv 0) pe_int (fun _ _ => rfl)) pe_int) (pe_op op_mod (pv 2) pe_int)) (pe_op op_mul pe_int (pe_ix ix_list (pv 0) pe_int (fun _ _ => rfl)))) pe_int) (pg_sub (pv 0) pe_int set_list))))))) pss_nil)
      (pss_cons (ps_if (pt_cmpR op_gt (pe_ix ix_list (pv 0) pe_int (fun _ _ => rfl)) pe_int (nomark _))
        (pss_cons (ps_set (i := 3) scTake.nd rfl (.inl rfl) (pe_op op_mod (pe_ix ix_list (pv 0) pe_int (fun _ _ => rfl)) (pv 1)))
        (pss_cons (ps_asg (pe_op op_fdivW (pe_ix ix_list (pv 0) pe_int (fun _ _ => rfl)) (pv 1)) (pg_sub (pv 0) pe_int set_list))
        (pss_one (ps_ret (pv 3))))) pss_nil)
      (pss_cons (ps_set (i := 4) scTake.nd rfl (.inl rfl) (pe_op op_mod (pe_op op_mul (pe_op op_add (pe_ix ix_list (pv 0) pe_int (fun _ _ => rfl)) pe_int) pe_int) pe_int))
      (pss_cons (ps_set (i := 5) scTake.nd rfl (.inl rfl) (pe_op op_mod (pe_op op_mul (pe_op op_mod (pe_op op_mul (pv 4) (pv 4)) pe_int) pe_int) pe_int))
      (pss_cons (ps_if (pt_cmpR op_gt (pv 1) pe_int (nomark _)) (pss_one (ps_ret (pe_op op_mod (pe_op op_add (pe_op op_mul (pv 5) pe_int) (pv 4)) (pv 1)))) pss_nil)
      (pss_one (ps_ret (pe_op op_mod (pe_op op_fdiv (pv 5) pe_int) (pv 1)))))))), ?_⟩
    refine ⟨fun σ H' => ∃ (o2 : Option V) (b0 b1 b2 : Int), σ = [some (.ref p), some (.int m), o2, none, none, none] ∧ H' = upd H p (bagL b0 b1 b2 c) ∧ 0 ≤ b2, ?_, ?_⟩
    · refine ⟨_, rfl, p, _, 0, .int b0, rfl, rfl, .of hb, rfl, rfl, _, rfl, ite2 (fun _ => ?_) (fun _ => ?_)⟩
      · -- cell = 0
        refine ⟨fun σ H' => H' = H ∧ ∃ z, σ = [some (.ref p), some (.int m), some (.int z), none, none, none], ?_, ?_⟩
        · refine ⟨_, rfl, p, _, 2, .int b2, rfl, rfl, .of hb, rfl, _, rfl, p, _, 3, .ref c, rfl, rfl, .of hb, rfl, c, cs.map V.int, rfl, .inl (.of hc), _, _, rfl, rfl, _, rfl, ite2 (fun hlt => ?_) (fun _ => ?_)⟩
          · have hlt := of_decide_eq_true hlt
            have hj : b2.toNat < cs.length := by rw [List.length_map] at hlt; omega
            refine ⟨_, rfl, p, _, 3, .ref c, rfl, rfl, .of hb, rfl, _, rfl, p, _, 2, .int b2, rfl, rfl, .of hb, rfl, c, cs.map V.int, b2, .int cs[b2.toNat], rfl, rfl, .of hc, ?_, rfl, _, rfl⟩
            apply atI_int h2
            rw [List.getElem?_map, List.getElem?_eq_getElem (by simpa using hj)]
            rfl
          · exact ⟨rfl, 0, rfl⟩
        · rintro σ H1 ⟨rfl, z, rfl⟩
          refine ⟨_, rfl, p, _, 2, .int b2, rfl, rfl, .of hb, by decide, rfl, _, _, rfl, rfl, p, _, 2, 2, rfl, rfl, hb, rfl, ?_⟩
          have e1 : upd H1 p (HO.lst ([V.int b0, V.int b1, V.int b2, V.ref c].set 2 (V.int (b2 + 1)))) = upd H1 p (bagL b0 b1 (b2 + 1) c) := rfl
          refine ⟨fun σ H2 => ∃ b0, H2 = upd H1 p (bagL b0 b1 (b2 + 1) c) ∧ σ = [some (.ref p), some (.int m), some (.int z), none, none, none], ?_, ?_⟩
          · refine ⟨_, rfl, _, _, rfl, rfl, _, rfl, ite2 (fun _ => ?_) (fun _ => ?_)⟩
            · refine ⟨_, rfl, _, rfl, p, _, 0, 0, rfl, rfl, upd_same, rfl, z, ?_, rfl⟩
              rw [upd_upd]
              rfl
            · exact ⟨b0, rfl, rfl⟩
          · rintro σ _ ⟨b0', rfl, rfl⟩
            refine ⟨_, rfl, p, _, 1, .int b1, rfl, rfl, .of upd_same, rfl, _, _, rfl, rfl, .inr ⟨by decide, by decide⟩, _, rfl, _, _, rfl, rfl, (by show (0 : Int) < 2147483647; decide), _, _, rfl, rfl, _, rfl, p, _, 2, .int (b2 + 1), rfl, rfl, .of upd_same, rfl, _, _, rfl, rfl, .inl ⟨by decide, by decide⟩, _, _, rfl, rfl, _, _, rfl, rfl, (by show (0 : Int) < 2147483647; decide), _, rfl, p, _, 1, 1, rfl, rfl, upd_same, rfl, _, b0', _, b2 + 1, rfl, upd_upd, by omega⟩
      · exact ⟨none, b0, b1, b2, rfl, (upd_self hb).symm, h2⟩
    · rintro σ _ ⟨o2, d0, d1, d2, rfl, rfl, hd⟩
      have hB : ∀ x y z : Int, 0 ≤ z → Bag (upd H p (bagL x y z c)) p := fun x y z hz => ⟨c, x, y, z, cs, upd_same, by rw [upd_ne ncp]; exact hc, hz⟩
      refine ⟨_, rfl, p, _, 0, .int d0, rfl, rfl, .of upd_same, rfl, _, _, rfl, rfl, _, rfl, ite2 (fun hpos => ?_) (fun _ => ?_)⟩
      · refine ⟨_, rfl, p, _, 0, .int d0, rfl, rfl, .of upd_same, rfl, _, rfl, _, _, rfl, rfl, hm, ?_⟩
        refine ⟨_, rfl, p, _, 0, .int d0, rfl, rfl, .of upd_same, rfl, _, rfl, _, _, rfl, rfl, wide_div hm hm2 (by decide) (by decide), _, rfl, p, _, 0, 0, rfl, rfl, upd_same, rfl, _, rfl, ?_⟩
        rw [upd_upd]
        exact k _ _ (Int.emod_nonneg _ (by omega)) (Int.emod_lt_of_pos _ hm) (hB _ _ _ hd) (fun q B => B.put hb hd)
      · refine ⟨_, rfl, p, _, 1, .int d1, rfl, rfl, .of upd_same, rfl, _, _, rfl, rfl, _, _, rfl, rfl, .inr ⟨by decide, by decide⟩, _, _, rfl, rfl, (by show (0 : Int) < 1000000007; decide), ?_⟩
        have hf0 : 0 ≤ (d1 + 1) * 39373 % 1000000007 := Int.emod_nonneg _ (by decide)
        have hf1 : (d1 + 1) * 39373 % 1000000007 < 1000000007 := Int.emod_lt_of_pos _ (by decide)
        generalize (d1 + 1) * 39373 % 1000000007 = fst at *
        refine ⟨_, rfl, _, rfl, _, _, rfl, rfl, .inl ⟨by omega, by omega⟩, _, _, rfl, rfl, (by show (0 : Int) < 998244353; decide), _, _, rfl, rfl, .inr ⟨by decide, by decide⟩, _, _, rfl, rfl, (by show (0 : Int) < 998244353; decide), ?_⟩
        generalize fst * fst % 998244353 * 30011 % 998244353 = snd
        refine ⟨_, rfl, _, _, rfl, rfl, _, rfl, ite2 (fun _ => ?_) (fun _ => ?_)⟩
        · refine ⟨_, rfl, _, _, rfl, rfl, .inr ⟨by decide, by decide⟩, _, rfl, _, _, rfl, rfl, _, rfl, _, _, rfl, rfl, hm, ?_⟩
          exact k _ _ (Int.emod_nonneg _ (by omega)) (Int.emod_lt_of_pos _ hm) (hB _ _ _ hd) (fun q B => B.put hb hd)
        · refine ⟨_, rfl, _, _, rfl, rfl, ⟨by decide, by decide⟩, _, rfl, _, _, rfl, rfl, hm, ?_⟩
          exact k _ _ (Int.emod_nonneg _ (by omega)) (Int.emod_lt_of_pos _ hm) (hB _ _ _ hd) (fun q B => B.put hb hd)
theorem ok_take {f : Addr} {fd : FuncData} {k : Nat} (F : Fun K "_law_take" "_law_take" sTake f fd) (ml : mg "len" = none) : FnOk P w K mg base CX0 (k + 1) f fd ["bag", "many"] spTake := (ok_take2 F ml).imp take_imp
end
end P12

namespace P12
open PySem PySem.Spec PyProof.Rows L2 HG HF
theorem at2 {xs : List V} {a b : V} {r : Int} (h0 : 0 ≤ r) (h1 : r < 2) (e : xs = [a, b]) : ∃ v, atI xs r = some v ∧ (v = a ∨ v = b) := by
  subst e
  have : r = 0 ∨ r = 1 := by omega
  rcases this with rfl | rfl
  · exact ⟨a, rfl, .inl rfl⟩
  · exact ⟨b, rfl, .inr rfl⟩
theorem at3 {xs : List V} {a b c : V} {r : Int} (h0 : 0 ≤ r) (h1 : r < 3) (e : xs = [a, b, c]) : ∃ v, atI xs r = some v ∧ (v = a ∨ v = b ∨ v = c) := by
  subst e
  have : r = 0 ∨ r = 1 ∨ r = 2 := by omega
  rcases this with rfl | rfl | rfl
  · exact ⟨a, rfl, .inl rfl⟩
  · exact ⟨b, rfl, .inr (.inl rfl)⟩
  · exact ⟨c, rfl, .inr (.inr rfl)⟩
section
variable {P : Program} {w : World} {K : PySem.W.Frag} {mg : Str → Option Value} {base : Heap}
theorem scF : FnScope ["number", "pace", "figures", "rest"] ["number", "pace"] (defScope sFigs) := ⟨rfl, rfl, rfl, by decide +kernel, rfl, by decide +kernel, by decide +kernel⟩
theorem ok_figs {f : Addr} {fd : FuncData} {k : Nat} (F : Fun K "figures_of" "figures_of" sFigs f fd) (md : mg "divmod" = none) : FnOk P w K mg base CX0 (k + 1) f fd ["number", "pace"] spFigs := by
  refine F.ok scF (fun vs H Q E h => ?_) (fun cdv A outer s H vs Q E hr h => ?_)
  · obtain ⟨n, p, rfl, _⟩ := h
    rfl
  · obtain ⟨n, p, rfl, hn, hp, hp4, k⟩ := h
    refine ⟨_, (pss_cons (ps_set (i := 2) scF.nd rfl (.inl rfl) (pe_lst pa_nil))
      (pss_cons (ps_while PassesOwn.never (pt_cmpR op_gt (pv 0) pe_int (nomark _))
         (pss_cons (ps_asg (pe_callB call_divmodW (by rfl) md (by decide +kernel) (pa_cons (pv 0) (pa_cons (pv 1) pa_nil))) (pg_tup rfl (pgs_cons (pg_name (i := 0) scF.nd rfl (.inl rfl)) (pgs_cons (pg_name (i := 3) scF.nd rfl (.inl rfl)) pgs_nil))))
         (pss_one (ps_expr (pe_bm PySem.F.plainAttrs_list PySem.F.slot_list_append PySem.F.type_list_append mt_append (pv 2) (pa_cons (pv 3) pa_nil))))))
      (pss_one (ps_ret (pe_revL (pv 2)))))), ?_⟩
    refine ⟨Nat.zero_le _, fun fr nfr => ?_⟩
    refine while_by (fun σ H' => ∃ (m : Nat) (ds : List Nat) (o : Option V), σ = [some (.int (m : Int)), some (.int (p : Int)), some (.ref fr), o] ∧ m < 2 ^ 1000 ∧ Same H H' ∧ H' fr = some (.lst (ds.map nV)) ∧ ds ++ L p m = L p n) (fun σ _ => match σ with | some (.int m) :: _ => m.toNat | _ => 0) ?_ ?_ (mo_test (mo_op mo_rI0 mo_var mo_c))
    · exact ⟨n, [], none, rfl, hn, same_upd nfr, upd_same, rfl⟩
    · rintro σ H1 ⟨m, ds, o, rfl, hm, s1, hf, e⟩
      have hpow : (2 : Nat) ^ 1000 ≤ p ^ 1000 := Nat.pow_le_pow_left hp 1000
      have hlen : (L p n).length ≤ 1000 := L_len hp 1000 n (by omega)
      refine ⟨_, rfl, _, _, rfl, rfl, _, rfl, ite2 (fun c => ?_) (fun c => ?_)⟩
      · have c : (0 : Int) < (m : Int) := of_decide_eq_true c
        have hdv : CDivP (m : Int) (p : Int) := divp_ok (by omega) (by
          have := PyProof.Rows.intBits_le (a := (m : Int)) (k := 1000) (by omega)
          omega)
        refine ⟨_, rfl, _, rfl, _, _, rfl, hdv, fun t nt => ?_⟩
        have nft : fr ≠ t := ne_of_none hf nt
        refine ⟨t, _, rfl, .of upd_same, rfl, _, _, rfl, _, _, rfl, rfl, ?_⟩
        have e2 := L_pos hp (show m ≠ 0 by omega)
        rw [e2] at e
        have hl2 : ds.length + 1 ≤ 1000 := by
          have := congrArg List.length e
          rw [List.length_append, List.length_cons] at this
          omega
        refine ⟨_, rfl, .inl ⟨rfl, _, .of (by rw [upd_ne nft]; exact hf)⟩, _, rfl, fr, _, _, rfl, rfl, by rw [upd_ne nft]; exact hf, ?_, ?_⟩
        · rw [List.length_map]
          exact small1000 (by omega)
        · refine ⟨⟨m / p, ds ++ [m % p], some (.int ((m : Int) % (p : Int))), ?_, ?_, ?_, ?_, ?_⟩, ?_⟩
          · show _ = [some (V.int ((m / p : Nat) : Int)), some (V.int (p : Int)), some (V.ref fr), some (V.int ((m : Int) % (p : Int)))]
            rw [Int.natCast_ediv] <;> rfl
          · have := Nat.div_le_self m p
            omega
          · intro b x hb
            have n1 : b ≠ fr := ne_of_none hb nfr
            rw [upd_ne n1]
            exact same_upd nt _ _ (s1 _ _ hb)
          · rw [upd_same, List.map_append]
            show some (HO.lst (_ ++ [V.int ((m : Int) % (p : Int))])) = some (HO.lst (_ ++ [V.int ((m % p : Nat) : Int)]))
            rw [Int.natCast_emod]
          · rw [List.append_assoc]
            exact e
          · show ((m : Int) / (p : Int)).toNat < (m : Int).toNat
            have := Nat.div_lt_self (show 0 < m by omega) (show 1 < p by omega)
            rw [← Int.natCast_ediv]
            omega
      · have c : ¬ (0 : Int) < (m : Int) := fun z => c (decide_eq_true z)
        obtain rfl : m = 0 := by omega
        rw [L_zero, List.append_nil] at e
        refine ⟨_, rfl, fr, _, rfl, .of hf, fun q nq => ?_⟩
        refine k q _ (s1.trans (same_upd nq)) (s1.free nq) ?_
        rw [upd_same, e]
        unfold figs
        rw [List.map_reverse]
theorem scNu : FnScope ["figures", "pace", "number", "rest"] ["figures", "pace"] (defScope sNum) := ⟨rfl, rfl, rfl, by decide +kernel, rfl, by decide +kernel, by decide +kernel⟩
theorem ok_num {f : Addr} {fd : FuncData} {k : Nat} (F : Fun K "number_of" "number_of" sNum f fd) : FnOk P w K mg base CX0 (k + 1) f fd ["figures", "pace"] (spNum K) := by
  refine F.ok scNu (fun vs H Q E h => ?_) (fun cdv A outer s H vs Q E hr h => ?_)
  · obtain ⟨a, p, ds, rfl, _⟩ := h
    rfl
  · obtain ⟨a, p, ds, rfl, hS, hp, k⟩ := h
    refine ⟨_, (pss_cons (ps_set (i := 2) scNu.nd rfl (.inl rfl) pe_int)
      (pss_cons (ps_for PassesOwn.never rfl (pi_list (pv 0)) (pg_name (i := 3) scNu.nd rfl (.inl rfl))
         (pss_one (ps_set (i := 2) scNu.nd rfl (.inl rfl) (pe_op op_add (pe_op op_mul (pv 2) (pv 1)) (pv 3)))))
      (pss_one (ps_ret (pv 2))))), ?_⟩
    refine ⟨_, rfl, a, rfl, ⟨_, hS⟩, for_list (K := K) (a := a) (xs := ds.map nV) (fun i σ H' => H' = H ∧ ∃ o, σ = [some (.ref a), some (.int (p : Int)), some (.int ((num p (ds.take i) : Nat) : Int)), o]) ⟨rfl, none, rfl⟩ (fun i σ H' _ z => z.1 ▸ hS) ?_ ?_⟩
    · rintro i x σ H1 hx ⟨rfl, o, rfl⟩
      obtain ⟨d, hd, rfl⟩ : ∃ d, ds[i]? = some d ∧ x = nV d := by
        rw [List.getElem?_map] at hx
        cases e : ds[i]? with
        | none => rw [e] at hx; cases hx
        | some d => rw [e] at hx; exact ⟨d, rfl, (Option.some.inj hx).symm⟩
      refine ⟨_, rfl, _, rfl, _, _, rfl, rfl, .inr ⟨by omega, by omega⟩, _, rfl, _, _, rfl, rfl, rfl, some (nV d), ?_⟩
      rw [List.take_add_one, hd]
      show _ = [some (V.ref a), some (V.int (p : Int)), some (V.int ((num p (ds.take i ++ [d]) : Nat) : Int)), _]
      rw [num_snoc, Int.natCast_add, Int.natCast_mul] <;> rfl
    · rintro σ H1 ⟨rfl, o, rfl⟩
      refine ⟨_, rfl, ?_⟩
      rw [List.take_of_length_le (by rw [List.length_map]; exact Nat.le_refl _)]
      exact k
theorem scA : FnScope ["found", "due"] ["found", "due"] (defScope sAlike) := ⟨rfl, rfl, rfl, by decide +kernel, rfl, by decide +kernel, by decide +kernel⟩
theorem ok_alike {f : Addr} {fd : FuncData} {k : Nat} (F : Fun K "_law_alike" "_law_alike" sAlike f fd) (mR : mg "repr" = none) : FnG P w K mg base CX0 (k + 1) f fd ["found", "due"] (spAlike K) := by
  refine okG0 F scA (fun vs H Q E h => ?_) (fun cdv A outer s H vs Q E hg hr h => ?_)
  · obtain ⟨x, y, d, rfl, _⟩ := h
    rfl
  · obtain ⟨x, y, d, rfl, hx, hy, fd, k⟩ := h
    refine ⟨_, (pss_one (ps_ret (pe_and (pe_cmpR (op_eqD hr.units) (pv 0) (pv 1) (nomark _)) (pe_one (pe_cmpR op_eq (pe_callB (call_reprG hg hr) (by rfl) mR (by decide +kernel) (pa_cons (pv 0) pa_nil)) (pe_callB (call_reprG hg hr) (by rfl) mR (by decide +kernel) (pa_cons (pv 1) pa_nil)) (nomark _)))))), ?_⟩
    refine ⟨_, rfl, _, rfl, d, d, hx, hy, fd.shaped, fd.shaped, _, rfl, ?_⟩
    rw [SeqAt.eqv_refl _ fd.lay]
    refine iteT ⟨_, rfl, x, d, rfl, hx, fd.lay, fd.show_, fd.deep, fd.size, _, rfl, y, d, rfl, hy, fd.lay, fd.show_, fd.deep, fd.size, rfl, ?_⟩
    rw [decide_eq_true rfl]
    exact k
theorem scS : FnScope ["figures", "pace", "total", "size", "figure"] ["figures", "pace"] (defScope sSummed) := ⟨rfl, rfl, rfl, by decide +kernel, rfl, by decide +kernel, by decide +kernel⟩
theorem val_take {p : Nat} {ds : List Nat} {i d : Nat} (h : ds[i]? = some d) : val p (ds.take (i + 1)) = val p (ds.take i) + d * p ^ i := by
  have hi := (List.getElem?_eq_some_iff.mp h).1
  rw [List.take_add_one, h]
  show val p (ds.take i ++ [d]) = _
  rw [val_app, List.length_take, Nat.min_eq_left (Nat.le_of_lt hi)]
  show val p (ds.take i) + p ^ i * (d + p * 0) = _
  rw [Nat.mul_zero, Nat.add_zero, Nat.mul_comm]
theorem ok_summed {f : Addr} {fd : FuncData} {k : Nat} (F : Fun K "_law_summed" "_law_summed" sSummed f fd) : FnOk P w K mg base CX0 (k + 1) f fd ["figures", "pace"] (spSummed K) := by
  refine F.ok scS (fun vs H Q E h => ?_) (fun cdv A outer s H vs Q E hr h => ?_)
  · obtain ⟨a, p, ds, rfl, _⟩ := h
    rfl
  · obtain ⟨a, p, ds, rfl, hS, hp, hd, k⟩ := h
    refine ⟨_, (pss_cons (ps_asg (pe_tup (pa_cons pe_int (pa_cons pe_int pa_nil))) (pg_tup rfl (pgs_cons (pg_name (i := 2) scS.nd rfl (.inl rfl)) (pgs_cons (pg_name (i := 3) scS.nd rfl (.inl rfl)) pgs_nil))))
      (pss_cons (ps_for PassesOwn.never rfl (pi_list (pe_revL (pv 0))) (pg_name (i := 4) scS.nd rfl (.inl rfl))
         (pss_cons (ps_set (i := 2) scS.nd rfl (.inl rfl) (pe_op op_add (pv 2) (pe_op op_mul (pv 4) (pv 3))))
         (pss_one (ps_set (i := 3) scS.nd rfl (.inl rfl) (pe_op op_mul (pv 3) (pv 1))))))
      (pss_one (ps_ret (pv 2))))), ?_⟩
    refine ⟨by show 2 ≤ sizeLine; decide, fun t nt => ⟨t, _, rfl, .of upd_same, rfl, _, _, rfl, _, _, rfl, rfl, ?_⟩⟩
    have st := same_upd (o := .tup [.int 0, .int 1]) nt
    generalize upd H t (.tup [.int 0, .int 1]) = H0 at *
    refine ⟨_, rfl, a, _, rfl, st.seq hS, fun r nr => ?_⟩
    have hr' : (upd H0 r (.lst (ds.map nV).reverse)) r = some (.lst (ds.reverse.map nV)) := by rw [upd_same, List.map_reverse]
    refine ⟨r, rfl, ⟨_, .of upd_same⟩, for_list (K := K) (a := r) (xs := ds.reverse.map nV) (fun i σ H' => H' = upd H0 r (.lst (ds.map nV).reverse) ∧ ∃ o, σ = [some (.ref a), some (.int (p : Int)), some (.int ((val p (ds.reverse.take i) : Nat) : Int)), some (.int ((p ^ i : Nat) : Int)), o]) ⟨rfl, none, rfl⟩ (fun i σ H' _ z => by rw [z.1]; exact .of hr') ?_ ?_⟩
    · rintro i x σ H1 hx ⟨rfl, o, rfl⟩
      obtain ⟨d, hd1, rfl⟩ : ∃ d, ds.reverse[i]? = some d ∧ x = nV d := by
        rw [List.getElem?_map] at hx
        cases e : ds.reverse[i]? with
        | none => rw [e] at hx; cases hx
        | some d => rw [e] at hx; exact ⟨d, rfl, (Option.some.inj hx).symm⟩
      have hd2 := hd d (List.mem_reverse.mp (List.mem_of_getElem? hd1))
      refine ⟨_, rfl, _, rfl, _, rfl, _, _, rfl, rfl, .inl ⟨by omega, by omega⟩, _, _, rfl, rfl, _, rfl, _, rfl, _, _, rfl, rfl, .inr ⟨by omega, by omega⟩, rfl, some (nV d), ?_⟩
      rw [val_take hd1]
      show _ = [some (V.ref a), some (V.int (p : Int)), some (V.int ((val p (ds.reverse.take i) + d * p ^ i : Nat) : Int)), some (V.int ((p ^ (i + 1) : Nat) : Int)), _]
      rw [Int.natCast_add, Int.natCast_mul, Nat.pow_succ, Int.natCast_mul] <;> rfl
    · rintro σ H1 ⟨rfl, o, rfl⟩
      refine ⟨_, rfl, ?_⟩
      rw [List.take_of_length_le (by rw [List.length_map]; exact Nat.le_refl _), ← num_val]
      exact k _ (st.trans (same_upd nr))
end
end P12

namespace P12
open PySem PySem.Spec PyProof.Rows L2 HG HF
def Keep (p : Addr) (H H' : Hp) : Prop := ∀ b o, H b = some o → b ≠ p → H' b = some o
theorem Keep.trans {p : Addr} {H H1 H2 : Hp} (a : Keep p H H1) (b : Keep p H1 H2) : Keep p H H2 := fun c o e n => b c o (a c o e n) n
theorem Keep.upd {p : Addr} {H : Hp} {o : HO} : Keep p H (upd H p o) := fun b u e n => by rw [upd_ne n]; exact e
theorem Keep.same {p : Addr} {H H' : Hp} (s : Same H H') : Keep p H H' := fun b u e _ => s b u e
def spNumber : Sp := fun vs H Q _ => ∃ (p : Addr) (c : Nat), vs = [.ref p, .int (c : Int)] ∧ Bag H p ∧ 2 ≤ c ∧ c ≤ 4 ∧ ∀ (n : Nat) (H' : Hp), n < 2 ^ 300 → Bag H' p → Q (.int (n : Int)) H'
theorem pow4 {c m : Nat} (hc : c ≤ 4) (hm : m ≤ 100) : c ^ m ≤ 2 ^ 200 := by
  have h1 : c ^ m ≤ 4 ^ m := Nat.pow_le_pow_left hc m
  have h2 : 4 ^ m ≤ 4 ^ 100 := Nat.pow_le_pow_right (by decide) hm
  have h3 : 4 ^ 100 = 2 ^ 200 := by decide +kernel
  omega
theorem kit_t {K : PySem.W.Frag} : PySem.W.kitOne K (.type "list") (.type "list") = some true ∧ PySem.W.kitOne K (.type "int") (.type "int") = some true ∧ PySem.W.kitOne K (.type "int") (.type "bool") = some false := ⟨kit_ty (by decide +kernel), kit_ty (by decide +kernel), kit_ty (by decide +kernel)⟩
section
variable {P : Program} {w : World} {K : PySem.W.Frag} {mg : Str → Option Value} {base : Heap}
theorem scN : FnScope ["bag", "pace", "way", "size", "k"] ["bag", "pace"] (defScope sNumber) := ⟨rfl, rfl, rfl, by decide +kernel, rfl, by decide +kernel, by decide +kernel⟩
theorem ok_number {f fT : Addr} {fd fdT : FuncData} (F : Fun K "_law_number" "_law_number" sNumber f fd) (FT : Fun K "_law_take" "_law_take" sTake fT fdT) (bT : Binds K fdT ["bag", "many"] []) (gT : mg "_law_take" = some (.ref fT))
    (ml : mg "len" = none) (mr : mg "range" = none) (mm : mg "max" = none) : FnOk P w K mg base CX0 2 f fd ["bag", "pace"] spNumber := by
  have GT : FnOk P w K mg base CX0 1 fT fdT ["bag", "many"] spTake := ok_take FT ml
  refine F.ok scN (fun vs H Q E h => ?_) (fun cdv A outer s H vs Q E hr h => ?_)
  · obtain ⟨p, m, rfl, _⟩ := h
    rfl
  · obtain ⟨p, c, rfl, hB, hc2, hc4, k⟩ := h
    refine ⟨_, (pss_cons (ps_set (i := 2) scN.nd rfl (.inl rfl) (pe_call GT hr (by rfl) gT FT.kp bT .nil pass0 (pa_cons (pv 0) (pa_cons pe_int pa_nil))))
      (pss_cons (ps_if (pt_cmpR op_eq (pv 2) pe_int (nomark _))
         (pss_one (ps_ret (pe_call GT hr (by rfl) gT FT.kp bT .nil pass0 (pa_cons (pv 0) (pa_cons pe_int pa_nil)))))
         pss_nil)
      (pss_cons (ps_if (pt_cmpR op_eq (pv 2) pe_int (nomark _))
         (pss_one (ps_ret (pe_call GT hr (by rfl) gT FT.kp bT .nil pass0 (pa_cons (pv 0) (pa_cons (pe_op op_add (pe_ix ix_list (pe_lst (pa_cons (pe_op op_pow pe_int pe_int) (pa_cons (pe_op op_mulW (pe_op op_pow pe_int pe_int) (pe_op op_pow pe_int pe_int)) pa_nil))) (pe_call GT hr (by rfl) gT FT.kp bT .nil pass0 (pa_cons (pv 0) (pa_cons pe_int pa_nil))) (fun _ _ => rfl)) pe_int) pa_nil)))))
         pss_nil)
      (pss_cons (ps_set (i := 3) scN.nd rfl (.inl rfl) pe_int)
      (pss_cons (ps_for PassesOwn.never rfl (pi_range1 rfl mr (pa_cons (pe_call GT hr (by rfl) gT FT.kp bT .nil pass0 (pa_cons (pv 0) (pa_cons pe_int pa_nil))) pa_nil)) (pg_name (i := 4) scN.nd rfl (.inl rfl))
         (pss_one (ps_set (i := 3) scN.nd rfl (.inl rfl) (pe_op op_mul (pv 3) (pv 1)))))
      (pss_one (ps_ret (pe_callB (call_max2 rfl) (by rfl) mm (by decide +kernel) (pa_cons pe_int (pa_cons (pe_op op_sub (pe_op op_add (pe_op op_mulW (pv 3) (pe_op op_add pe_int (pe_call GT hr (by rfl) gT FT.kp bT .nil pass0 (pa_cons (pv 0) (pa_cons pe_int pa_nil))))) (pe_call GT hr (by rfl) gT FT.kp bT .nil pass0 (pa_cons (pv 0) (pa_cons pe_int pa_nil)))) pe_int) pa_nil)))))))))), ?_⟩
    have b300 : (2 : Nat) ^ 300 ≤ 2 ^ 1000 := Nat.pow_le_pow_right (by decide) (by decide)
    have b70 : (70 : Nat) < 2 ^ 300 := by decide +kernel
    refine ⟨_, rfl, p, 4, rfl, hB, by decide, by decide, fun r xs r0 r1 hB1 => ?_⟩
    generalize upd H p (.lst xs) = H1 at *
    refine ⟨_, rfl, rfl, _, rfl, ite2 (fun _ => ?_) (fun _ => ?_)⟩
    · refine ⟨_, rfl, p, 70, rfl, hB1, by decide, by decide, fun r2 xs2 r20 r21 hB2 => ?_⟩
      obtain ⟨n, rfl⟩ := Int.eq_ofNat_of_zero_le r20
      exact k n _ (by omega) hB2
    refine ⟨_, rfl, rfl, _, rfl, ite2 (fun _ => ?_) (fun _ => ?_)⟩
    · refine ⟨_, rfl, _, _, rfl, rfl, ⟨by decide, by decide, by decide⟩, _, _, rfl, rfl, ⟨by decide, by decide, by decide⟩, _, _, rfl, rfl, ⟨by decide, by decide, by decide⟩, _, _, rfl, rfl, wide_mul (a := 200) (b := 200) (by decide +kernel) (by decide +kernel) (by decide) (by decide) (by decide), by show 2 ≤ sizeLine; decide, fun M nM => ?_⟩
      have hB2 : Bag (upd H1 M (.lst [.int (10 ^ (40 : Int).toNat), .int (10 ^ (40 : Int).toNat * 10 ^ (40 : Int).toNat)])) p := hB1.same (same_upd nM)
      have nMp : M ≠ p := by
        obtain ⟨ys, hy⟩ := hB1.lst
        exact fun z => by rw [z, hy] at nM; cases nM
      refine ⟨_, rfl, p, 2, rfl, hB2, by decide, by decide, fun r' xs' r0' r1' hB3 => ?_⟩
      obtain ⟨v, hv, hv2⟩ := at2 r0' r1' rfl
      refine ⟨M, _, r', v, rfl, rfl, .of (by rw [upd_ne nMp, upd_same]), hv, ?_⟩
      obtain ⟨x, rfl, x0, x1⟩ : ∃ x : Int, v = .int x ∧ 0 ≤ x ∧ x < 2 ^ 290 := by
        rcases hv2 with e | e
        · exact ⟨_, e, by decide +kernel, by decide +kernel⟩
        · exact ⟨_, e, by decide +kernel, by decide +kernel⟩
      have hb2 : (2 : Int) ^ 290 = ((2 ^ 290 : Nat) : Int) := by rw [Int.natCast_pow]; rfl
      have hb3 : (2 : Nat) ^ 290 < 2 ^ 300 := by decide +kernel
      refine ⟨x, 1, rfl, rfl, p, x + 1, rfl, hB3, by omega, by omega, fun r'' xs'' s0 s1 hB4 => ?_⟩
      obtain ⟨n, rfl⟩ := Int.eq_ofNat_of_zero_le s0
      exact k n _ (by omega) hB4
    -- size
    refine ⟨_, rfl, p, 64, rfl, hB1, by decide, by decide, fun r2 xs2 r20 r21 hB2 => ?_⟩
    obtain ⟨m, rfl⟩ := Int.eq_ofNat_of_zero_le r20
    generalize upd H1 p (.lst xs2) = H2 at *
    refine ⟨(m : Int), rfl, by omega, by omega, ?_⟩
    rw [Int.toNat_natCast]
    refine for_range (fun i σ H' => ∃ o, σ = [some (.ref p), some (.int (c : Int)), some (.int r), some (.int ((c ^ i : Nat) : Int)), o] ∧ H' = H2) ⟨none, rfl, rfl⟩ ?_ ?_
    · rintro i σ _ hi ⟨o, rfl, rfl⟩
      refine ⟨_, rfl, _, rfl, _, _, rfl, rfl, .inr ⟨by omega, by omega⟩, some (.int (0 + (i : Int))), ?_, rfl⟩
      show ([_, _, _, some (V.int (((c ^ i : Nat) : Int) * (c : Int))), _] : L2.St) = _
      rw [← Int.natCast_mul, ← Nat.pow_succ]
    rintro σ H3 ⟨o, rfl, rfl⟩
    have hs : c ^ m ≤ 2 ^ 200 := pow4 hc4 (by omega)
    generalize c ^ m = sz at *
    refine ⟨_, rfl, _, rfl, p, 3, rfl, hB2, by decide, by decide, fun r3 xs3 r30 r31 hB3 => ?_⟩
    have hb1 : (2 : Nat) ^ 200 < 2 ^ 201 := by decide +kernel
    have hb4 : (2 : Nat) ^ 200 * 6 + 6 < 2 ^ 300 := by decide +kernel
    refine ⟨_, _, rfl, rfl, _, _, rfl, rfl, wide_mul (a := 201) (b := 3) (by omega) (by omega) (by decide) (by decide) (by decide), ?_⟩
    refine ⟨_, rfl, p, 3, rfl, hB3, by decide, by decide, fun r4 xs4 r40 r41 hB4 => ?_⟩
    have hmul : (1 + r3) * (sz : Int) ≤ 3 * sz := Int.mul_le_mul_of_nonneg_right (by omega) (by omega)
    have hmul0 : 0 ≤ (sz : Int) * (1 + r3) := Int.mul_nonneg (by omega) (by omega)
    rw [Int.mul_comm] at hmul
    refine ⟨_, _, rfl, rfl, _, _, rfl, rfl, _, _, rfl, ?_⟩
    have fin : ∀ x : Int, x = (sz : Int) * (1 + r3) → Q (.int (if x + r4 - 1 > 0 then x + r4 - 1 else 0)) (upd (upd H3 p (.lst xs3)) p (.lst xs4)) := by
      intro x hx
      rw [← hx] at hmul hmul0
      have e : (if x + r4 - 1 > 0 then x + r4 - 1 else 0) = (((x + r4 - 1).toNat : Nat) : Int) := by split <;> omega
      rw [e]
      exact k _ _ (by omega) hB4
    exact fin _ rfl
theorem scR : FnScope ["figures", "number", "pace", "figure"] ["figures", "number", "pace"] (defScope sRight) := ⟨rfl, rfl, rfl, by decide +kernel, rfl, by decide +kernel, by decide +kernel⟩
theorem ok_right {f fS : Addr} {fd fdS : FuncData} (F : Fun K "_law_right" "_law_right" sRight f fd) (FS : Fun K "_law_summed" "_law_summed" sSummed fS fdS) (bS : Binds K fdS ["figures", "pace"] []) (gS : mg "_law_summed" = some (.ref fS))
    (mI : mg "isinstance" = none) (mL : mg "list" = none) (mi : mg "int" = none) (mb : mg "bool" = none) : FnOk P w K mg base CX0 2 f fd ["figures", "number", "pace"] (spRight K) := by
  have GS : FnOk P w K mg base CX0 1 fS fdS ["figures", "pace"] (spSummed K) := ok_summed FS
  refine F.ok scR (fun vs H Q E h => ?_) (fun cdv A outer s H vs Q E hr h => ?_)
  · obtain ⟨a, n, p, rfl, _⟩ := h
    rfl
  · obtain ⟨a, n, p, rfl, ha, hp, hp4, hl, k⟩ := h
    refine ⟨_, (pss_cons (ps_if (PW.pt (pw_or (pt_not (pt_val (pe_callB (id := "isinstance") (r := rIsi K) call_isi (by rfl) mI (by decide +kernel) (pa_cons (pv 0) (pa_cons (pe_bltn (v := .ty "list") (by rfl) mL (by decide +kernel) rfl) pa_nil))))) (pw_or1 (pt_cmpR op_ne (pe_call GS hr (by rfl) gS FS.kp bS .nil pass0 (pa_cons (pv 0) (pa_cons (pv 2) pa_nil))) (pv 1) (nomark _)))))
         (pss_one (ps_ret pe_bl))
         pss_nil)
      (pss_cons (ps_for PassesOwn.never rfl (pi_list (pv 0)) (pg_name (i := 3) scR.nd rfl (.inl rfl))
         (pss_one (ps_if (PW.pt (pw_or (pt_not (pt_val (pe_callB (id := "isinstance") (r := rIsi K) call_isi (by rfl) mI (by decide +kernel) (pa_cons (pv 3) (pa_cons (pe_bltn (v := .ty "int") (by rfl) mi (by decide +kernel) rfl) pa_nil))))) (pw_or (pt_val (pe_callB (id := "isinstance") (r := rIsi K) call_isi (by rfl) mI (by decide +kernel) (pa_cons (pv 3) (pa_cons (pe_bltn (v := .ty "bool") (by rfl) mb (by decide +kernel) rfl) pa_nil)))) (pw_or1 (pt_not (pt_chain op_le op_lt pe_int (pv 3) (pv 2)))))))
            (pss_one (ps_ret pe_bl))
            pss_nil)))
      (pss_one (ps_ret (pe_or (pe_cmpR (op_eqD hr.units) (pv 0) (pe_lst pa_nil) (nomark _)) (pe_one (pe_cmpR op_gt (pe_ix ix_list (pv 0) pe_int (fun _ _ => rfl)) pe_int (nomark _)))))))), ?_⟩
    refine ⟨_, rfl, _, _, _, _, _, rfl, .ty _, .base (.lst ha), kit_t.1, true, rfl, iteF ?_⟩
    refine ⟨_, rfl, _, rfl, a, p, figs p n, rfl, .of ha, hp4, fun d hd => by have := figs_lt hp n d hd; omega, fun H1 s1 => ?_⟩
    rw [num_figs hp]
    refine ⟨_, rfl, rfl, _, rfl, iteNS rfl ?_⟩
    have ha1 := s1 _ _ ha
    refine ⟨_, rfl, a, rfl, ⟨_, .of ha1⟩, for_list (K := K) (a := a) (xs := (figs p n).map nV) (fun i σ H' => H' = H1 ∧ ∃ o, σ = [some (.ref a), some (.int (n : Int)), some (.int (p : Int)), o]) ⟨rfl, none, rfl⟩ (fun i σ H' _ z => by rw [z.1]; exact .of ha1) ?_ ?_⟩
    · rintro i x σ H2 hx ⟨rfl, o, rfl⟩
      obtain ⟨d, hd, rfl⟩ : ∃ d, (figs p n)[i]? = some d ∧ x = nV d := by
        rw [List.getElem?_map] at hx
        cases e : (figs p n)[i]? with
        | none => rw [e] at hx; cases hx
        | some d => rw [e] at hx; exact ⟨d, rfl, (Option.some.inj hx).symm⟩
      have hdp := figs_lt hp n d (List.mem_of_getElem? hd)
      refine ⟨_, rfl, _, _, _, _, _, rfl, .ty _, .base (.int _), kit_t.2.1, true, rfl, iteF ?_⟩
      refine ⟨_, rfl, _, _, _, _, _, rfl, .ty _, .base (.int _), kit_t.2.2, false, rfl, iteF ?_⟩
      refine ⟨_, rfl, _, _, rfl, rfl, decide ((0 : Int) ≤ (d : Int)), rfl, ?_⟩
      rw [decide_eq_true (show (0 : Int) ≤ (d : Int) by omega)]
      refine iteT ⟨_, rfl, _, _, rfl, rfl, decide ((d : Int) < (p : Int)), rfl, ?_⟩
      rw [decide_eq_true (show (d : Int) < (p : Int) by omega)]
      refine iteF ?_
      exact ⟨rfl, some (nV d), rfl⟩
    · rintro σ H2 ⟨rfl, o, rfl⟩
      refine ⟨_, rfl, Nat.zero_le _, fun em nem => ?_⟩
      have s2 : Same H2 (upd H2 em (.lst [])) := same_upd nem
      have fd : Fine (.list ((figs p n).map nD)) := fine_nats (fun d hd => by have := figs_lt hp n d hd; omega) hl
      refine ⟨.list ((figs p n).map nD), .list [], .lst (.of (s2 _ _ ha1)) (dpAll_nats _), .lst (.of upd_same) .nil, fd.shaped, rfl, ?_⟩
      by_cases e : figs p n = []
      · rw [e]
        exact ⟨true, rfl, iteT (k _ (s1.trans s2))⟩
      · obtain ⟨d, r, e⟩ : ∃ d r, figs p n = d :: r := by
          cases q : figs p n with
          | nil => exact absurd q e
          | cons d r => exact ⟨d, r, rfl⟩
        have hd0 := figs_head hp n d (by rw [e]; rfl)
        rw [e] at ha1 ⊢
        refine ⟨false, rfl, iteF ?_⟩
        refine ⟨_, rfl, a, _, 0, nV d, rfl, rfl, .of (s2 _ _ ha1), atI_nat (j := 0) rfl, _, _, rfl, rfl, ?_⟩
        show Q (.bl (decide ((0 : Int) < (d : Int)))) _
        rw [decide_eq_true (show (0 : Int) < (d : Int) by omega)]
        exact k _ (s1.trans s2)
end
end P12

namespace P12
open PySem PySem.Spec PyProof.Rows L2 HG HF
theorem cut_drop (xs : List V) (j : Nat) (h : j ≤ xs.length) : cutV xs (some (j : Int)) none = xs.drop j := by
  unfold cutV
  rw [HT.sIx_none, HT.sIx_nat, Nat.min_eq_left h]
  apply List.take_of_length_le
  rw [List.length_drop]
  exact Nat.le_refl _
theorem flat0 (k : Nat) : (List.replicate k [V.int 0]).flatten = (List.replicate k 0).map nV := by
  induction k with
  | zero => rfl
  | succ k ih =>
    rw [List.replicate_succ, List.flatten_cons, ih, List.replicate_succ]
    rfl
def spLaw (K : PySem.W.Frag) : Sp := fun vs H Q _ => ∃ (a : Addr) (ns : List Int), vs = [.ref a] ∧ SqL K H a (ns.map V.int) ∧ ns.length ≤ 63 ∧ ∀ H', Q (.bl true) H'
section
variable {P : Program} {w : World} {K : PySem.W.Frag} {mg : Str → Option Value} {base : Heap}
theorem scL : FnScope ["script", "bag", "turn", "pace", "number", "told", "kept", "rests", "handed", "due", "at", "k"] ["script"] (defScope sLaw) := ⟨rfl, rfl, rfl, by decide +kernel, rfl, by decide +kernel, by decide +kernel⟩
theorem ok_law {f fG fT fA fN fS fR fF fM : Addr} {fd fdG fdT fdA fdN fdS fdR fdF fdM : FuncData} (F : Fun K "law" "law" sLaw f fd)
    (FG : Fun K "_law_bag" "_law_bag" sBag fG fdG) (bG : Binds K fdG ["script"] []) (gG : mg "_law_bag" = some (.ref fG))
    (FT : Fun K "_law_take" "_law_take" sTake fT fdT) (bT : Binds K fdT ["bag", "many"] []) (gT : mg "_law_take" = some (.ref fT))
    (FA : Fun K "_law_alike" "_law_alike" sAlike fA fdA) (bA : Binds K fdA ["found", "due"] []) (gA : mg "_law_alike" = some (.ref fA))
    (FN : Fun K "_law_number" "_law_number" sNumber fN fdN) (bN : Binds K fdN ["bag", "pace"] []) (gN : mg "_law_number" = some (.ref fN))
    (FS : Fun K "_law_summed" "_law_summed" sSummed fS fdS) (bS : Binds K fdS ["figures", "pace"] []) (gS : mg "_law_summed" = some (.ref fS))
    (FR : Fun K "_law_right" "_law_right" sRight fR fdR) (bR : Binds K fdR ["figures", "number", "pace"] []) (gR : mg "_law_right" = some (.ref fR))
    (FF : Fun K "figures_of" "figures_of" sFigs fF fdF) (bF : Binds K fdF ["number", "pace"] []) (gF : mg "figures_of" = some (.ref fF))
    (FM : Fun K "number_of" "number_of" sNum fM fdM) (bM : Binds K fdM ["figures", "pace"] []) (gM : mg "number_of" = some (.ref fM))
    (ma : mg "abs" = none) (ml : mg "len" = none) (mr : mg "range" = none) (mL : mg "list" = none) (mI : mg "isinstance" = none) (mi : mg "int" = none) (mb : mg "bool" = none) (mx : mg "max" = none) (md : mg "divmod" = none) (mR : mg "repr" = none) : FnG P w K mg base CX0 3 f fd ["script"] (spLaw K) := by
  have GG : FnOk P w K mg base CX0 1 fG fdG ["script"] (spBag K) := ok_bag FG ma
  have GT : FnOk P w K mg base CX0 1 fT fdT ["bag", "many"] spTake := ok_take FT ml
  have GT2 : FnOk P w K mg base CX0 1 fT fdT ["bag", "many"] spTake2 := ok_take2 FT ml
  have GA : FnG P w K mg base CX0 1 fA fdA ["found", "due"] (spAlike K) := ok_alike FA mR
  have GN : FnOk P w K mg base CX0 2 fN fdN ["bag", "pace"] spNumber := ok_number FN FT bT gT ml mr mx
  have GS : FnOk P w K mg base CX0 1 fS fdS ["figures", "pace"] (spSummed K) := ok_summed FS
  have GR : FnOk P w K mg base CX0 2 fR fdR ["figures", "number", "pace"] (spRight K) := ok_right FR FS bS gS mI mL mi mb
  have GF : FnOk P w K mg base CX0 1 fF fdF ["number", "pace"] spFigs := ok_figs FF md
  have GM : FnOk P w K mg base CX0 1 fM fdM ["figures", "pace"] (spNum K) := ok_num FM
  refine okG0 F scL (fun vs H Q E h => ?_) (fun cdv A outer s H vs Q E hg hr h => ?_)
  · obtain ⟨a, ns, rfl, _⟩ := h
    rfl
  · obtain ⟨a, ns, rfl, hS, hl, k⟩ := h
    have hr1 : Room 1 _ := hr.mono (by decide)
    refine ⟨_, (pss_cons (ps_set (i := 1) scL.nd rfl (.inr rfl) (pe_call GG hr1 (by rfl) gG FG.kp bG .nil pass0 (pa_cons (pv 0) pa_nil)))
      (pss_cons (ps_for PassesOwn.never rfl (pi_range1 rfl mr (pa_cons pe_int pa_nil)) (pg_name (i := 2) scL.nd rfl (.inl rfl))
         (pss_cons (ps_set (i := 3) scL.nd rfl (.inr rfl) (pe_op op_add pe_int (pe_call GT hr1 (by rfl) gT FT.kp bT .nil pass0 (pa_cons (pv 1) (pa_cons pe_int pa_nil)))))
         (Evl.pss_cut (ps_set (i := 4) scL.nd rfl (.inl rfl) (pe_call GN hr (by rfl) gN FN.kp bN .nil pass0 (pa_cons (pv 1) (pa_cons (pv 3) pa_nil))))
         (Evl.pss_cut (ps_set (i := 5) scL.nd rfl (.inl rfl) (pe_call GF hr1 (by rfl) gF FF.kp bF .nil pass0 (pa_cons (pv 4) (pa_cons (pv 3) pa_nil))))
         (Evl.pss_cut (ps_if (PW.pt (pw_or (pt_not (pt_val (pe_call GR hr (by rfl) gR FR.kp bR .nil pass0 (pa_cons (pv 5) (pa_cons (pv 4) (pa_cons (pv 3) pa_nil)))))) (pw_or1 (pt_not (pt_val (pe_callG GA hg hr1 (by rfl) gA FA.kp bA .nil pass0 (pa_cons (pe_call GM hr1 (by rfl) gM FM.kp bM .nil pass0 (pa_cons (pv 5) (pa_cons (pv 3) pa_nil))) (pa_cons (pv 4) pa_nil))))))))
            (pss_one (ps_ret pe_bl))
            pss_nil)
         (pss_cons (ps_set (i := 6) scL.nd rfl (.inl rfl) (pe_callTy call_list_of (by rfl) mL (by decide +kernel) (pa_cons (pv 5) pa_nil)))
         (pss_cons (ps_expr (pe_bm PySem.F.plainAttrs_list PySem.F.slot_list_append PySem.F.type_list_append mt_append (pv 5) (pa_cons pe_int pa_nil)))
         (Evl.pss_cut (ps_if (pt_cmpR (op_neD hr.units) (pe_call GF hr1 (by rfl) gF FF.kp bF .nil pass0 (pa_cons (pv 4) (pa_cons (pv 3) pa_nil))) (pv 6) (nomark _))
            (pss_one (ps_ret pe_bl))
            pss_nil)
         (Evl.pss_cut (ps_setLc (i := 7) (own := [("k", 11)]) (g := gName 11) (tt := tYes) rfl scL.nd rfl rfl (sw_true rfl rfl rfl (by decide +kernel)) (pi_range1 rfl mr (pa_cons (pe_call GT hr1 (by rfl) gT FT.kp bT .nil pass0 (pa_cons (pv 1) (pa_cons (pe_ix ix_list (pe_lst (pa_cons pe_int (pa_cons pe_int (pa_cons pe_int pa_nil)))) (pe_call GT hr1 (by rfl) gT FT.kp bT .nil pass0 (pa_cons (pv 1) (pa_cons pe_int pa_nil))) (fun _ _ => rfl)) pa_nil))) pa_nil)) (blkOk_by (N := ["script", "bag", "turn", "pace", "number", "told", "kept", "rests", "handed", "due", "at", "k"]) (sc := defScope sLaw) (by decide +kernel)) (fun _ _ _ _ _ => pg_name (i := 11) scL.nd rfl (Or.inl rfl)) (fun _ _ _ _ _ => pts_nil) (fun _ _ _ _ _ => (pe_call (sp := spTake2) (k := 1) (CX := CX0) (E := E0) (dvs := []) (ds := []) GT2 hr1 (by rfl) gT FT.kp bT .nil pass0 (pa_cons (pv 1) (pa_cons (pv 3) pa_nil)))))
         (Evl.pss_cut (ps_set (i := 7) scL.nd rfl (.inl rfl) (pe_op op_cat (pe_op op_rep (pe_lst (pa_cons pe_int pa_nil)) (pe_call GT hr1 (by rfl) gT FT.kp bT .nil pass0 (pa_cons (pv 1) (pa_cons pe_int pa_nil)))) (pv 7)))
         (pss_cons (ps_set (i := 8) scL.nd rfl (.inl rfl) (pe_callTy call_list_of (by rfl) mL (by decide +kernel) (pa_cons (pv 7) pa_nil)))
         (Evl.pss_cut (ps_set (i := 9) scL.nd rfl (.inl rfl) (pe_call GS hr1 (by rfl) gS FS.kp bS .nil pass0 (pa_cons (pv 7) (pa_cons (pv 3) pa_nil))))
         (Evl.pss_cut (ps_if (PW.pt (pw_or (pt_not (pt_val (pe_callG GA hg hr1 (by rfl) gA FA.kp bA .nil pass0 (pa_cons (pe_call GM hr1 (by rfl) gM FM.kp bM .nil pass0 (pa_cons (pv 8) (pa_cons (pv 3) pa_nil))) (pa_cons (pv 9) pa_nil))))) (pw_or1 (pt_cmpR (op_neD hr.units) (pv 8) (pv 7) (nomark _)))))
            (pss_one (ps_ret pe_bl))
            pss_nil)
         (pss_cons (ps_set (i := 10) scL.nd rfl (.inl rfl) pe_int)
         (Evl.pss_cut (ps_while PassesOwn.never (PW.pt (pw_and (pt_cmpR op_lt (pv 10) (pe_callB call_len_seq (by rfl) ml PySem.boot_len (pa_cons (pv 7) pa_nil)) (nomark _)) (pw_and1 (pt_cmpR op_eq (pe_ix ix_list (pv 7) (pv 10) (fun _ _ => rfl)) pe_int (nomark _)))))
            (pss_one (ps_set (i := 10) scL.nd rfl (.inl rfl) (pe_op op_add (pv 10) pe_int))))
         (pss_one (ps_if (PW.pt (pw_and (pt_cmpR op_le (pv 9) (pe_op op_mulW (pe_op op_pow pe_int pe_int) (pe_op op_pow pe_int pe_int)) (nomark _)) (pw_and1 (pt_not (pt_val (pe_callG GA hg hr1 (by rfl) gA FA.kp bA .nil pass0 (pa_cons (pe_call GF hr1 (by rfl) gF FF.kp bF .nil pass0 (pa_cons (pv 9) (pa_cons (pv 3) pa_nil))) (pa_cons (pe_slice sl_list (pv 7) (po_some (pv 10)) po_none) pa_nil))))))))
            (pss_one (ps_ret pe_bl))
            pss_nil)))))))))))))))))
      (pss_one (ps_ret (pe_and (pe_cmpR (op_eqD hr.units) (pe_call GF hr1 (by rfl) gF FF.kp bF .nil pass0 (pa_cons pe_int (pa_cons pe_int pa_nil))) (pe_lst pa_nil) (nomark _)) (pe_and (pe_cmpR op_eq (pe_call GM hr1 (by rfl) gM FM.kp bM .nil pass0 (pa_cons (pe_lst pa_nil) (pa_cons pe_int pa_nil))) pe_int (nomark _)) (pe_one (pe_cmpR (op_eqD hr.units) (pe_call GF hr1 (by rfl) gF FF.kp bF .nil pass0 (pa_cons pe_int (pa_cons pe_int pa_nil))) (pe_lst (pa_cons pe_int (pa_cons pe_int (pa_cons pe_int pa_nil)))) (nomark _))))))))), ?_⟩
    refine ⟨_, rfl, a, ns, rfl, hS, hl, fun p H1 s1 np hB => ?_⟩
    refine ⟨6, rfl, by decide, by decide, ?_⟩
    refine for_range (n := 6) (fun i σ H' => ∃ o2 o3 o4 o5 o6 o7 o8 o9 o10 o11 : Option V, σ = [some (.ref a), some (.ref p), o2, o3, o4, o5, o6, o7, o8, o9, o10, o11] ∧ Bag H' p) ⟨_, _, _, _, _, _, _, _, _, _, rfl, hB⟩ ?_ ?_
    · rintro i σ H2 hi ⟨o2, o3, o4, o5, o6, o7, o8, o9, o10, o11, rfl, hB⟩
      -- pace
      refine ⟨_, rfl, p, 3, rfl, hB, by decide, by decide, fun r xs r0 r1 hB => ?_⟩
      refine ⟨_, _, rfl, rfl, ?_⟩
      obtain ⟨c, hc⟩ : ∃ c : Nat, (2 : Int) + r = (c : Int) := ⟨(2 + r).toNat, by omega⟩
      have hc2 : 2 ≤ c := by omega
      have hc4 : c ≤ 4 := by omega
      -- number
      refine ⟨fun σ H3 => Bag H3 p ∧ ∃ n : Nat, n < 2 ^ 300 ∧ σ = [some (.ref a), some (.ref p), some (.int (0 + (i : Int))), some (.int (c : Int)), some (.int (n : Int)), o5, o6, o7, o8, o9, o10, o11], ?_, ?_⟩
      · refine ⟨_, rfl, _, rfl, p, c, congrArg (fun z => [V.ref p, V.int z]) hc, hB, hc2, hc4, fun n H3 hn hB3 => ⟨hB3, n, hn, ?_⟩⟩
        show _ = [some (V.ref a), some (V.ref p), some (V.int (0 + (i : Int))), some (V.int (c : Int)), some (V.int (n : Int)), o5, o6, o7, o8, o9, o10, o11]
        rw [← hc]
        rfl
      rintro σ H3 ⟨hB3, n, hn, rfl⟩
      have b300 : (2 : Nat) ^ 300 ≤ 2 ^ 1000 := Nat.pow_le_pow_right (by decide) (by decide)
      have hpow : (2 : Nat) ^ 1000 ≤ c ^ 1000 := Nat.pow_le_pow_left hc2 1000
      have hfl : (figs c n).length ≤ 1000 := figs_len hc2 (by omega)
      let fm : Option V → Option V → Option V → Option V → Option V → Option V → L2.St := fun o5 o6 o7 o8 o9 o10 => [some (.ref a), some (.ref p), some (.int (0 + (i : Int))), some (.int (c : Int)), some (.int (n : Int)), o5, o6, o7, o8, o9, o10, o11]
      -- told
      refine ⟨fun σ H' => ∃ q : Addr, BagOff H' p q ∧ H' q = some (.lst ((figs c n).map nV)) ∧ σ = fm (some (.ref q)) o6 o7 o8 o9 o10, ?_, ?_⟩
      · refine ⟨_, rfl, _, rfl, n, c, rfl, by omega, hc2, hc4, fun q H' s' nq hq => ⟨q, (BagOff.of hB3 nq).same s', hq, rfl⟩⟩
      rintro σ H4 ⟨q, hB4, hq, rfl⟩
      -- if not _law_right(..) or not _law_alike(..)
      refine ⟨fun σ H' => Same H4 H' ∧ σ = fm (some (.ref q)) o6 o7 o8 o9 o10, ?_, ?_⟩
      · refine ⟨_, rfl, _, rfl, _, rfl, q, n, c, rfl, hq, hc2, hc4, hfl, fun H5 s5 => ⟨true, rfl, iteF ?_⟩⟩
        refine ⟨_, rfl, _, rfl, q, c, figs c n, rfl, .of (s5 _ _ hq), hc4, ?_⟩
        rw [num_figs hc2]
        refine ⟨_, rfl, _, _, .int (n : Int), rfl, .int _, .int _, fine_int (by omega), true, rfl, iteF ?_⟩
        exact ⟨s5, rfl⟩
      rintro σ H5 ⟨s5, rfl⟩
      have hB5 := hB4.same s5
      have hq5 := s5 _ _ hq
      -- kept; told.append(9)
      refine ⟨_, rfl, q, _, rfl, .inl (.of hq5), fun kp nkp => ?_⟩
      have nqk : q ≠ kp := ne_of_none hq5 nkp
      have hq6 : (upd H5 kp (.lst ((figs c n).map nV))) q = some (.lst ((figs c n).map nV)) := same_upd nkp _ _ hq5
      refine ⟨_, rfl, .inl ⟨rfl, _, .of hq6⟩, q, _, _, rfl, rfl, hq6, by rw [List.length_map]; exact small1000 hfl, ?_⟩
      have hB6 : Bag (upd (upd H5 kp (.lst ((figs c n).map nV))) q (.lst ((figs c n).map nV ++ [.int 9]))) p := (hB5.same (same_upd nkp)).upd
      have hk6 : (upd (upd H5 kp (.lst ((figs c n).map nV))) q (.lst ((figs c n).map nV ++ [.int 9]))) kp = some (.lst ((figs c n).map nV)) := by
        rw [upd_ne nqk.symm, upd_same]
      -- if figures_of(number, pace) != kept
      have fdig : ∀ es : List Nat, (∀ d ∈ es, d < c) → es.length ≤ 1000 → Fine (.list (es.map nD)) := fun es h1 h2 => fine_nats (fun d hd => by have := h1 d hd; omega) h2
      refine ⟨fun σ H' => Bag H' p ∧ σ = fm (some (.ref q)) (some (.ref kp)) o7 o8 o9 o10, ?_, ?_⟩
      · refine ⟨_, rfl, _, rfl, n, c, rfl, by omega, hc2, hc4, fun q2 H7 s7 nq2 hq2 => ?_⟩
        have ff := fdig (figs c n) (figs_lt hc2 n) hfl
        refine ⟨_, rfl, .list ((figs c n).map nD), .list ((figs c n).map nD), .lst (.of hq2) (dpAll_nats _), .lst (.of (s7 _ _ hk6)) (dpAll_nats _), ff.shaped, ff.shaped, _, rfl, ?_⟩
        rw [SeqAt.eqv_refl _ ff.lay]
        exact iteF ⟨hB6.same s7, rfl⟩
      rintro σ H7 ⟨hB7, rfl⟩
      -- rests = [..]
      refine ⟨fun σ H' => Bag H' p ∧ ∃ (R : Addr) (ds : List Nat), H' R = some (.lst (ds.map nV)) ∧ (∀ d ∈ ds, d < c) ∧ ds.length ≤ 300 ∧ σ = fm (some (.ref q)) (some (.ref kp)) (some (.ref R)) o8 o9 o10, ?_, ?_⟩
      · refine ⟨_, rfl, by show 3 ≤ sizeLine; decide, fun M nM => ?_⟩
        have hB8 : Bag (upd H7 M (.lst [.int 6, .int 121, .int 299])) p := hB7.same (same_upd nM)
        have nMp : M ≠ p := by
          obtain ⟨ys, hy⟩ := hB7.lst
          exact fun z => by rw [z, hy] at nM; cases nM
        refine ⟨_, rfl, p, 3, rfl, hB8, by decide, by decide, fun r2 xs2 r20 r21 hB9 => ?_⟩
        obtain ⟨v, hv, hv2⟩ := at3 r20 r21 rfl
        refine ⟨M, _, r2, v, rfl, rfl, .of (by rw [upd_ne nMp, upd_same]), hv, ?_⟩
        obtain ⟨m1, rfl, hm0, hm1⟩ : ∃ m : Int, v = V.int m ∧ 0 < m ∧ m ≤ 299 := by
          rcases hv2 with rfl | rfl | rfl
          · exact ⟨6, rfl, by decide, by decide⟩
          · exact ⟨121, rfl, by decide, by decide⟩
          · exact ⟨299, rfl, by decide, by decide⟩
        refine ⟨p, m1, rfl, hB9, hm0, Nat.lt_of_le_of_lt (show m1.natAbs ≤ 400 by omega) (by decide +kernel), fun r3 xs3 r30 r31 hB10 => ?_⟩
        obtain ⟨m, rfl⟩ := Int.eq_ofNat_of_zero_le r30
        generalize upd (upd (upd H7 M (.lst [.int 6, .int 121, .int 299])) p (.lst xs2)) p (.lst xs3) = H8 at *
        refine ⟨(m : Int), rfl, by omega, by omega, fun D hD => ?_⟩
        rw [Int.toNat_natCast]
        have npD : D ≠ p := by
          obtain ⟨ys, hy⟩ := hB10.lst
          exact fun z => by rw [z, hy] at hD; cases hD
        refine lc_range (lo := 0) (n := m) (fun j H' => BagOff H' p D ∧ ∃ ds : List Nat, H' D = some (.lst (ds.map nV)) ∧ (∀ d ∈ ds, d < c) ∧ ds.length = j) ?_ ?_ ?_
        · exact ⟨(BagOff.of hB10 hD).same (same_upd hD), [], upd_same, (fun d hd => nomatch hd), rfl⟩
        · rintro j H' hj ⟨hB', ds, hds, hlt, hlen⟩
          have hcI : (0 : Int) < (c : Int) := by omega
          refine ⟨rfl, _, rfl, _, rfl, p, (c : Int), rfl, hB'.bag, hcI, Nat.lt_of_le_of_lt (show ((c : Int)).natAbs ≤ 400 by omega) (by decide +kernel), fun r4 xs4 r40 r41 hB'' hkeep => ?_⟩
          obtain ⟨d, rfl⟩ := Int.eq_ofNat_of_zero_le r40
          have hD' : (upd H' p (.lst xs4)) D = some (.lst (ds.map nV)) := by rw [upd_ne npD]; exact hds
          have hoff := hkeep D hB'
          refine ⟨_, hD', ?_, hoff.off, ds ++ [d], ?_, ?_, ?_⟩
          · rw [List.length_map]
            exact small1000 (by omega)
          · rw [upd_same, List.map_append]
            rfl
          · intro e he
            rcases List.mem_append.mp he with he | he
            · exact hlt e he
            · rw [List.mem_singleton] at he
              omega
          · rw [List.length_append, hlen]
            rfl
        · rintro H' ⟨hB', ds, hds, hlt, hlen⟩
          exact ⟨hB'.bag, D, ds, hds, hlt, by omega, rfl⟩
      rintro σ H8 ⟨hB8, R0, ds, hR0, hds, hdl, rfl⟩
      -- rests = [0] * .. + rests
      refine ⟨fun σ H' => Bag H' p ∧ ∃ (R : Addr) (es : List Nat), H' R = some (.lst (es.map nV)) ∧ (∀ d ∈ es, d < c) ∧ es.length ≤ 310 ∧ σ = fm (some (.ref q)) (some (.ref kp)) (some (.ref R)) o8 o9 o10, ?_, ?_⟩
      · refine ⟨by show 1 ≤ sizeLine; decide, fun Z nZ => ?_⟩
        have s9 : Same H8 (upd H8 Z (.lst [.int 0])) := same_upd nZ
        have hB9 : Bag (upd H8 Z (.lst [.int 0])) p := hB8.same s9
        have nZp : Z ≠ p := by
          obtain ⟨ys, hy⟩ := hB8.lst
          exact fun z => by rw [z, hy] at nZ; cases nZ
        refine ⟨_, rfl, p, 3, rfl, hB9, by decide, by decide, fun r5 xs5 r50 r51 hB10 => ?_⟩
        obtain ⟨m, rfl⟩ := Int.eq_ofNat_of_zero_le r50
        have nRp : R0 ≠ p := by
          obtain ⟨c0, b0, b1, b2, cs, hp, _⟩ := hB8
          refine fun z => ?_
          rw [z, hp] at hR0
          have := HO.lst.inj (Option.some.inj hR0)
          rcases ds with _ | ⟨d1, _ | ⟨d2, _ | ⟨d3, _ | ⟨d4, r⟩⟩⟩⟩ <;> simp [nV] at this
        have hR1 : (upd (upd H8 Z (.lst [.int 0])) p (.lst xs5)) R0 = some (.lst (ds.map nV)) := by rw [upd_ne nRp]; exact s9 _ _ hR0
        have hZ1 : (upd (upd H8 Z (.lst [.int 0])) p (.lst xs5)) Z = some (.lst [.int 0]) := by rw [upd_ne nZp, upd_same]
        generalize upd (upd H8 Z (.lst [.int 0])) p (.lst xs5) = H9 at *
        refine ⟨Z, (m : Int), [.int 0], rfl, rfl, hZ1, by omega, by omega, ?_, fun Y nY => ?_⟩
        · rw [Int.toNat_natCast]
          exact Nat.le_of_lt (small1000 (show 1 * m ≤ 1000 by omega))
        rw [Int.toNat_natCast, flat0]
        have s10 : Same H9 (upd H9 Y (.lst ((List.replicate m 0).map nV))) := same_upd nY
        refine ⟨_, rfl, Y, R0, _, _, rfl, rfl, upd_same, s10 _ _ hR1, ?_, fun R nR => ?_⟩
        · rw [List.length_map, List.length_map, List.length_replicate]
          exact Nat.le_of_lt (small1000 (by omega))
        · refine ⟨(hB10.same s10).same (same_upd nR), R, List.replicate m 0 ++ ds, ?_, ?_, ?_, rfl⟩
          · rw [upd_same, List.map_append]
          · intro d hd
            rcases List.mem_append.mp hd with hd | hd
            · have := List.eq_of_mem_replicate hd
              omega
            · exact hds d hd
          · rw [List.length_append, List.length_replicate]
            omega
      rintro σ H9 ⟨hB9, R, es, hR, hes, hel, rfl⟩
      -- handed, due
      refine ⟨_, rfl, R, _, rfl, .inl (.of hR), fun hn0 nhn => ?_⟩
      have s10 : Same H9 (upd H9 hn0 (.lst (es.map nV))) := same_upd nhn
      have hh : (upd H9 hn0 (.lst (es.map nV))) hn0 = some (.lst (es.map nV)) := upd_same
      generalize upd H9 hn0 (.lst (es.map nV)) = H10 at *
      have hB10 := hB9.same s10
      have hR10 := s10 _ _ hR
      have hnum : num c es < c ^ 310 := Nat.lt_of_lt_of_le (num_lt hes) (Nat.pow_le_pow_right (by omega) hel)
      have hnum2 : num c es < 2 ^ 1000 := by
        have h1 : c ^ 310 ≤ 4 ^ 310 := Nat.pow_le_pow_left hc4 310
        have h2 : (4 : Nat) ^ 310 < 2 ^ 1000 := by decide +kernel
        omega
      refine ⟨fun σ H' => Same H10 H' ∧ σ = fm (some (.ref q)) (some (.ref kp)) (some (.ref R)) (some (.ref hn0)) (some (.int ((num c es : Nat) : Int))) o10, ?_, ?_⟩
      · refine ⟨_, rfl, _, rfl, R, c, es, rfl, .of hR10, hc4, fun d hd => by have := hes d hd; omega, fun H' s' => ⟨s', rfl⟩⟩
      rintro σ H11 ⟨s11, rfl⟩
      have hR11 := s11 _ _ hR10
      have hh11 := s11 _ _ hh
      have hB11 := hB10.same s11
      -- if not _law_alike(..) or handed != rests
      refine ⟨fun σ H' => H' = H11 ∧ σ = fm (some (.ref q)) (some (.ref kp)) (some (.ref R)) (some (.ref hn0)) (some (.int ((num c es : Nat) : Int))) o10, ?_, ?_⟩
      · refine ⟨_, rfl, _, rfl, hn0, c, es, rfl, .of hh11, hc4, ?_⟩
        refine ⟨_, rfl, _, _, .int ((num c es : Nat) : Int), rfl, .int _, .int _, fine_int (by omega), true, rfl, iteF ?_⟩
        have ff := fdig es hes (by omega)
        refine ⟨_, rfl, _, rfl, .list (es.map nD), .list (es.map nD), .lst (.of hh11) (dpAll_nats _), .lst (.of hR11) (dpAll_nats _), ff.shaped, ff.shaped, _, rfl, ?_⟩
        rw [SeqAt.eqv_refl _ ff.lay]
        exact iteF ⟨rfl, rfl⟩
      rintro σ H12 ⟨rfl, rfl⟩
      -- at
      let fl : Nat → L2.St := fun j => fm (some (.ref q)) (some (.ref kp)) (some (.ref R)) (some (.ref hn0)) (some (.int ((num c es : Nat) : Int))) (some (.int (j : Int)))
      refine ⟨fun σ H' => H' = H12 ∧ σ = fl (lead es), ?_, ?_⟩
      · refine while_by (fun σ H' => H' = H12 ∧ ∃ j : Nat, j ≤ lead es ∧ σ = fl j) (fun (σ : L2.St) _ => match σ[10]? with | some (some (V.int z)) => es.length - z.toNat | _ => 0) ⟨rfl, 0, Nat.zero_le _, rfl⟩ ?_ ?_
        · rintro σ H13 ⟨rfl, j, hj, rfl⟩
          have hle := lead_le es
          refine ⟨_, rfl, _, rfl, R, _, rfl, .inl (.of hR11), _, _, rfl, rfl, _, rfl, ite2 (fun h1 => ?_) (fun h1 => ?_)⟩
          · have h1 : (j : Int) < ((es.map nV).length : Int) := of_decide_eq_true h1
            rw [List.length_map] at h1
            have hjl : j < es.length := by omega
            refine ⟨_, rfl, _, rfl, R, _, (j : Int), nV es[j], rfl, rfl, .of hR11, atI_nat (by rw [List.getElem?_map, List.getElem?_eq_getElem hjl]; rfl), rfl, _, rfl, ite2 (fun h2 => ?_) (fun h2 => ?_)⟩
            · have h2 : nV es[j] = V.int 0 := of_decide_eq_true h2
              have h3 : es[j] = 0 := by
                have := V.int.inj h2
                omega
              have hlt : j < lead es := by
                apply Nat.lt_of_le_of_ne hj
                intro z
                exact lead_stop es es[j] (by rw [← z, List.getElem?_eq_getElem hjl]) h3
              refine ⟨_, rfl, _, _, rfl, rfl, ⟨rfl, j + 1, by omega, ?_⟩, ?_⟩
              · show _ = fm (some (.ref q)) (some (.ref kp)) (some (.ref R)) (some (.ref hn0)) (some (.int ((num c es : Nat) : Int))) (some (.int ((j + 1 : Nat) : Int)))
                rw [Int.natCast_add] <;> rfl
              · show es.length - ((j : Int) + 1).toNat < es.length - ((j : Int)).toNat
                omega
            · refine ⟨rfl, ?_⟩
              have e : j = lead es := by
                apply Nat.le_antisymm hj
                apply Nat.le_of_not_lt
                intro z
                have h3 := lead_zero es j z
                rw [List.getElem?_eq_getElem hjl] at h3
                exact h2 (decide_eq_true (congrArg nV (Option.some.inj h3)))
              rw [e]
          · have h1 : ¬ (j : Int) < ((es.map nV).length : Int) := fun z => h1 (decide_eq_true z)
            rw [List.length_map] at h1
            refine iteF ⟨rfl, ?_⟩
            have e : j = lead es := by omega
            rw [e]
        · exact mo_and (mo_test (mo_op mo_rI0 mo_var (mo_cb (fun xs H Q Q' hq ⟨p, ys, e, s, q⟩ => ⟨p, ys, e, s, hq _ _ q⟩) (mo_cons mo_var mo_nil)))) (mo_test (mo_op mo_rEq (mo_op mo_rIxL mo_var mo_var) mo_c))
      rintro σ H13 ⟨rfl, rfl⟩
      -- the last test
      have fin : ∀ H' : Hp, Bag H' p → ∃ o2 o3 o4 o5 o6 o7 o8 o9 o10 o11, fl (lead es) = [some (.ref a), some (.ref p), o2, o3, o4, o5, o6, o7, o8, o9, o10, o11] ∧ Bag H' p := fun H' h => ⟨_, _, _, _, _, _, _, _, _, _, rfl, h⟩
      refine ⟨_, rfl, _, _, rfl, rfl, ⟨by decide, by decide, by decide⟩, _, _, rfl, rfl, ⟨by decide, by decide, by decide⟩, _, _, rfl, rfl, wide_mul (a := 200) (b := 200) (by decide +kernel) (by decide +kernel) (by decide) (by decide) (by decide), _, _, rfl, rfl, _, rfl, ite2 (fun _ => ?_) (fun _ => iteF (fin _ hB11))⟩
      refine ⟨_, rfl, _, rfl, num c es, c, rfl, hnum2, hc2, hc4, fun q3 H14 s14 nq3 hq3 => ?_⟩
      have hR14 := s14 _ _ hR11
      refine ⟨_, rfl, _, rfl, _, rfl, R, _, rfl, .of hR14, fun s nse => ?_⟩
      rw [cut_drop _ _ (by rw [List.length_map]; exact lead_le es), ← List.map_drop, ← figs_lead hc2 hes]
      have ff := fdig (figs c (num c es)) (figs_lt hc2 _) (figs_len hc2 (by omega))
      refine ⟨_, _, .list ((figs c (num c es)).map nD), rfl, .lst (.of (same_upd nse _ _ hq3)) (dpAll_nats _), .lst (.of upd_same) (dpAll_nats _), ff, true, rfl, iteF (fin _ ((hB11.same s14).same (same_upd nse)))⟩
    · rintro σ H2 ⟨o2, o3, o4, o5, o6, o7, o8, o9, o10, o11, rfl, hB⟩
      have big1 : (0 : Nat) < 2 ^ 1000 := by decide +kernel
      have big2 : (6 : Nat) < 2 ^ 1000 := by decide +kernel
      have f6 : figs 2 6 = [1, 1, 0] := by decide
      refine ⟨0, 2, rfl, big1, by decide, by decide, fun q1 H3 s3 n1 h1 => ?_⟩
      refine ⟨Nat.zero_le _, fun e1 ne1 => ?_⟩
      refine ⟨.list [], .list [], .lst (.of (same_upd ne1 _ _ h1)) .nil, .lst (.of upd_same) .nil, rfl, rfl, true, rfl, iteT ?_⟩
      refine ⟨Nat.zero_le _, fun e2 ne2 => ?_⟩
      refine ⟨e2, 3, [], rfl, .of upd_same, by decide, rfl, true, rfl, iteT ?_⟩
      refine ⟨6, 2, rfl, big2, by decide, by decide, fun q3 H5 s5 n3 h3 => ?_⟩
      rw [f6] at h3
      refine ⟨by show 3 ≤ sizeLine; decide, fun e3 ne3 => ?_⟩
      refine ⟨.list ([1, 1, 0].map nD), .list ([1, 1, 0].map nD), .lst (.of (same_upd ne3 _ _ h3)) (dpAll_nats [1, 1, 0]), .lst (.of upd_same) (dpAll_nats [1, 1, 0]), rfl, rfl, ?_⟩
      exact k _
end
end P12

namespace P12
open PySem PySem.Spec PyProof.Rows L2 HG
theorem all_mk {l : PySem.W.OpenLaw} {w : World} {K : PySem.W.Frag} {h : Heap} {mg : Str → Option Value} {fa f1 f2 f3 f4 f5 f6 f7 f8 f9 : Addr} (X : K.In h) (G : h.Ns mainGlobals mg) (hfa : mg "law" = some (.ref fa))
    {od1 an1 : Option Addr} {sl1 : Array (Option Value)} {oc1 kV1 dc1 pm1 cd1 ct1 : Value}
    {od2 an2 : Option Addr} {sl2 : Array (Option Value)} {oc2 kV2 dc2 pm2 cd2 ct2 : Value}
    {od3 an3 : Option Addr} {sl3 : Array (Option Value)} {oc3 kV3 dc3 pm3 cd3 ct3 : Value}
    {od4 an4 : Option Addr} {sl4 : Array (Option Value)} {oc4 kV4 dc4 pm4 cd4 ct4 : Value}
    {od5 an5 : Option Addr} {sl5 : Array (Option Value)} {oc5 kV5 dc5 pm5 cd5 ct5 : Value}
    {od6 an6 : Option Addr} {sl6 : Array (Option Value)} {oc6 kV6 dc6 pm6 cd6 ct6 : Value}
    {od7 an7 : Option Addr} {sl7 : Array (Option Value)} {oc7 kV7 dc7 pm7 cd7 ct7 : Value}
    {od8 an8 : Option Addr} {sl8 : Array (Option Value)} {oc8 kV8 dc8 pm8 cd8 ct8 : Value}
    {od9 an9 : Option Addr} {sl9 : Array (Option Value)} {oc9 kV9 dc9 pm9 cd9 ct9 : Value}
    (a1 : PySem.W.nsIn K mainGlobals "figures_of" = some (some (.ref f1))) (l1 : K.lookup f1 = some ⟨oc1, od1, .func (PySem.W.fnOf "figures_of" "figures_of" (defArgs sFigs) (defBody sFigs) (defScope sFigs) .none kV1 dc1 pm1 an1 cd1 ct1), sl1⟩) (c1 : PySem.W.codeIn K cd1 "figures_of" = true) (k1 : PySem.W.keepIn K (.ref f1) = true)
    (a2 : PySem.W.nsIn K mainGlobals "number_of" = some (some (.ref f2))) (l2 : K.lookup f2 = some ⟨oc2, od2, .func (PySem.W.fnOf "number_of" "number_of" (defArgs sNum) (defBody sNum) (defScope sNum) .none kV2 dc2 pm2 an2 cd2 ct2), sl2⟩) (c2 : PySem.W.codeIn K cd2 "number_of" = true) (k2 : PySem.W.keepIn K (.ref f2) = true)
    (a3 : PySem.W.nsIn K mainGlobals "_law_bag" = some (some (.ref f3))) (l3 : K.lookup f3 = some ⟨oc3, od3, .func (PySem.W.fnOf "_law_bag" "_law_bag" (defArgs sBag) (defBody sBag) (defScope sBag) .none kV3 dc3 pm3 an3 cd3 ct3), sl3⟩) (c3 : PySem.W.codeIn K cd3 "_law_bag" = true) (k3 : PySem.W.keepIn K (.ref f3) = true)
    (a4 : PySem.W.nsIn K mainGlobals "_law_take" = some (some (.ref f4))) (l4 : K.lookup f4 = some ⟨oc4, od4, .func (PySem.W.fnOf "_law_take" "_law_take" (defArgs sTake) (defBody sTake) (defScope sTake) .none kV4 dc4 pm4 an4 cd4 ct4), sl4⟩) (c4 : PySem.W.codeIn K cd4 "_law_take" = true) (k4 : PySem.W.keepIn K (.ref f4) = true)
    (a5 : PySem.W.nsIn K mainGlobals "_law_alike" = some (some (.ref f5))) (l5 : K.lookup f5 = some ⟨oc5, od5, .func (PySem.W.fnOf "_law_alike" "_law_alike" (defArgs sAlike) (defBody sAlike) (defScope sAlike) .none kV5 dc5 pm5 an5 cd5 ct5), sl5⟩) (c5 : PySem.W.codeIn K cd5 "_law_alike" = true) (k5 : PySem.W.keepIn K (.ref f5) = true)
    (a6 : PySem.W.nsIn K mainGlobals "_law_number" = some (some (.ref f6))) (l6 : K.lookup f6 = some ⟨oc6, od6, .func (PySem.W.fnOf "_law_number" "_law_number" (defArgs sNumber) (defBody sNumber) (defScope sNumber) .none kV6 dc6 pm6 an6 cd6 ct6), sl6⟩) (c6 : PySem.W.codeIn K cd6 "_law_number" = true) (k6 : PySem.W.keepIn K (.ref f6) = true)
    (a7 : PySem.W.nsIn K mainGlobals "_law_summed" = some (some (.ref f7))) (l7 : K.lookup f7 = some ⟨oc7, od7, .func (PySem.W.fnOf "_law_summed" "_law_summed" (defArgs sSummed) (defBody sSummed) (defScope sSummed) .none kV7 dc7 pm7 an7 cd7 ct7), sl7⟩) (c7 : PySem.W.codeIn K cd7 "_law_summed" = true) (k7 : PySem.W.keepIn K (.ref f7) = true)
    (a8 : PySem.W.nsIn K mainGlobals "_law_right" = some (some (.ref f8))) (l8 : K.lookup f8 = some ⟨oc8, od8, .func (PySem.W.fnOf "_law_right" "_law_right" (defArgs sRight) (defBody sRight) (defScope sRight) .none kV8 dc8 pm8 an8 cd8 ct8), sl8⟩) (c8 : PySem.W.codeIn K cd8 "_law_right" = true) (k8 : PySem.W.keepIn K (.ref f8) = true)
    (a9 : PySem.W.nsIn K mainGlobals "law" = some (some (.ref f9))) (l9 : K.lookup f9 = some ⟨oc9, od9, .func (PySem.W.fnOf "law" "law" (defArgs sLaw) (defBody sLaw) (defScope sLaw) .none kV9 dc9 pm9 an9 cd9 ct9), sl9⟩) (c9 : PySem.W.codeIn K cd9 "law" = true) (k9 : PySem.W.keepIn K (.ref f9) = true)
    (z1 : PySem.W.nsIn K mainGlobals "abs" = some none) (z2 : PySem.W.nsIn K mainGlobals "len" = some none) (z3 : PySem.W.nsIn K mainGlobals "range" = some none) (z4 : PySem.W.nsIn K mainGlobals "list" = some none) (z5 : PySem.W.nsIn K mainGlobals "isinstance" = some none) (z6 : PySem.W.nsIn K mainGlobals "int" = some none) (z7 : PySem.W.nsIn K mainGlobals "bool" = some none) (z8 : PySem.W.nsIn K mainGlobals "max" = some none) (z9 : PySem.W.nsIn K mainGlobals "divmod" = some none) (z10 : PySem.W.nsIn K mainGlobals "repr" = some none) :
    ∃ fd : FuncData, (∀ (s : Shared) (v : Value), BindsTo s fd ⟨[v], []⟩ [("script", v)]) ∧ ∀ base : Heap, K.In base → base.Ns mainGlobals mg → FnG l.prog w K mg base CX0 3 fa fd ["script"] (spLaw K) := by
  have e := hfa.symm.trans (PySem.W.mg_of X G a9)
  cases e
  have F1 := fun_mk (st := sFigs) l1 c1 k1
  have b1 := F1.binds (ps := ["number", "pace"]) fun _ _ _ _ _ _ us hl => match us, hl with | [_, _], _ => rfl
  have F2 := fun_mk (st := sNum) l2 c2 k2
  have b2 := F2.binds (ps := ["figures", "pace"]) fun _ _ _ _ _ _ us hl => match us, hl with | [_, _], _ => rfl
  have F3 := fun_mk (st := sBag) l3 c3 k3
  have b3 := F3.binds (ps := ["script"]) fun _ _ _ _ _ _ us hl => match us, hl with | [_], _ => rfl
  have F4 := fun_mk (st := sTake) l4 c4 k4
  have b4 := F4.binds (ps := ["bag", "many"]) fun _ _ _ _ _ _ us hl => match us, hl with | [_, _], _ => rfl
  have F5 := fun_mk (st := sAlike) l5 c5 k5
  have b5 := F5.binds (ps := ["found", "due"]) fun _ _ _ _ _ _ us hl => match us, hl with | [_, _], _ => rfl
  have F6 := fun_mk (st := sNumber) l6 c6 k6
  have b6 := F6.binds (ps := ["bag", "pace"]) fun _ _ _ _ _ _ us hl => match us, hl with | [_, _], _ => rfl
  have F7 := fun_mk (st := sSummed) l7 c7 k7
  have b7 := F7.binds (ps := ["figures", "pace"]) fun _ _ _ _ _ _ us hl => match us, hl with | [_, _], _ => rfl
  have F8 := fun_mk (st := sRight) l8 c8 k8
  have b8 := F8.binds (ps := ["figures", "number", "pace"]) fun _ _ _ _ _ _ us hl => match us, hl with | [_, _, _], _ => rfl
  have F9 := fun_mk (st := sLaw) l9 c9 k9
  exact ⟨PySem.W.fnOf "law" "law" (defArgs sLaw) (defBody sLaw) (defScope sLaw) .none kV9 dc9 pm9 an9 cd9 ct9, fun s v => .of_eq rfl, fun base _ _ => ok_law F9 F3 b3 (PySem.W.mg_of X G a3) F4 b4 (PySem.W.mg_of X G a4) F5 b5 (PySem.W.mg_of X G a5) F6 b6 (PySem.W.mg_of X G a6) F7 b7 (PySem.W.mg_of X G a7) F8 b8 (PySem.W.mg_of X G a8) F1 b1 (PySem.W.mg_of X G a1) F2 b2 (PySem.W.mg_of X G a2) (PySem.W.mg_none_of X G z1) (PySem.W.mg_none_of X G z2) (PySem.W.mg_none_of X G z3) (PySem.W.mg_none_of X G z4) (PySem.W.mg_none_of X G z5) (PySem.W.mg_none_of X G z6) (PySem.W.mg_none_of X G z7) (PySem.W.mg_none_of X G z8) (PySem.W.mg_none_of X G z9) (PySem.W.mg_none_of X G z10)⟩
end P12
open PySem PySem.W PyProof.Rows
set_option maxHeartbeats 0 in
theorem PySem.Challenge.cw_halfpace_k12_figures_and_numbers_holds : PySem.Challenge.rw_halfpace_k12_figures_and_numbers.Holds := by
  w_on; o_law; k_head; (case hw => w_witness2)
  k_fill
  refine HG.walkG (l := PySem.Challenge.rw_halfpace_k12_figures_and_numbers) (k := 3) (x := "script") (CX := L2.CX0) (sp := fun K => P12.spLaw K) rfl rfl ⟨rfl, by decide, by decide⟩ (fun w h Y => PySem.W.kIn_of Y) ?F (fun _ _ a ns hl hS => ⟨a, ns, rfl, hS, hl, fun _ => rfl⟩) (fun _ _ _ _ h => h)
  case F =>
    intro w mg fa h KX G hmg
    refine' P12.all_mk KX G hmg ?a1 ?l1 ?c1 ?k1 ?a2 ?l2 ?c2 ?k2 ?a3 ?l3 ?c3 ?k3 ?a4 ?l4 ?c4 ?k4 ?a5 ?l5 ?c5 ?k5 ?a6 ?l6 ?c6 ?k6 ?a7 ?l7 ?c7 ?k7 ?a8 ?l8 ?c8 ?k8 ?a9 ?l9 ?c9 ?k9 ?z1 ?z2 ?z3 ?z4 ?z5 ?z6 ?z7 ?z8 ?z9 ?z10
    (case a1 => k_is)
    (case l1 => k_is)
    (case c1 => k_is)
    (case k1 => k_is)
    (case a2 => k_is)
    (case l2 => k_is)
    (case c2 => k_is)
    (case k2 => k_is)
    (case a3 => k_is)
    (case l3 => k_is)
    (case c3 => k_is)
    (case k3 => k_is)
    (case a4 => k_is)
    (case l4 => k_is)
    (case c4 => k_is)
    (case k4 => k_is)
    (case a5 => k_is)
    (case l5 => k_is)
    (case c5 => k_is)
    (case k5 => k_is)
    (case a6 => k_is)
    (case l6 => k_is)
    (case c6 => k_is)
    (case k6 => k_is)
    (case a7 => k_is)
    (case l7 => k_is)
    (case c7 => k_is)
    (case k7 => k_is)
    (case a8 => k_is)
    (case l8 => k_is)
    (case c8 => k_is)
    (case k8 => k_is)
    (case a9 => k_is)
    (case l9 => k_is)
    (case c9 => k_is)
    (case k9 => k_is)
    (case z1 => k_is)
    (case z2 => k_is)
    (case z3 => k_is)
    (case z4 => k_is)
    (case z5 => k_is)
    (case z6 => k_is)
    (case z7 => k_is)
    (case z8 => k_is)
    (case z9 => k_is)
    (case z10 => k_is)


