import PyProof.Rows.All
import Wide.All
import OpenK.AllK
import Wide.FinOn
import HandS.ForMost
import HandS.Wide
import HandS.Style
import HandS.Evl
import PySem.Challenge.RW_halfpace_k15_whole_fewest_blocks
set_option Elab.async false
set_option linter.all false
set_option maxRecDepth 100000
set_option maxHeartbeats 4000000
set_option autoImplicit false
namespace HB
/-! blocks: the mirror and its mathematics -/
def bl (p : Nat) : Nat → Nat → Nat → Nat → List (Nat × Nat)
  | 0, _, _, _ => []
  | f + 1, v, l, h =>
    if l < h then
      if l % p ≠ 0 then (l, v) :: bl p f v (l + 1) h
      else if h % p ≠ 0 then bl p f v l (h - 1) ++ [(h - 1, v)]
      else bl p f (v + 1) (l / p) (h / p)
    else []
/-- with fuel enough -/
def B (p v l h : Nat) : List (Nat × Nat) := bl p (h - l) v l h
theorem half {p l h : Nat} (hp : 2 ≤ p) (hl : l < h) (l0 : l % p = 0) (h0 : h % p = 0) : h / p - l / p < h - l ∧ l / p < h / p := by
  have e1 : p * (l / p) = l := by have := Nat.div_add_mod l p; omega
  have e2 : p * (h / p) = h := by have := Nat.div_add_mod h p; omega
  have lt : l / p < h / p := by
    apply Nat.lt_of_mul_lt_mul_left (a := p)
    omega
  refine ⟨?_, lt⟩
  obtain ⟨d, hd⟩ : ∃ d, h / p = l / p + d := ⟨h / p - l / p, by omega⟩
  have e3 : h = l + p * d := by
    rw [← e2, hd, Nat.mul_add, e1]
  have : 2 * d ≤ p * d := Nat.mul_le_mul_right d hp
  omega
theorem bl_fuel {p : Nat} (hp : 2 ≤ p) : ∀ (f g v l h : Nat), h - l ≤ f → h - l ≤ g → bl p f v l h = bl p g v l h := by
  intro f
  induction f with
  | zero =>
    intro g v l h hf hg
    cases g with
    | zero => rfl
    | succ g =>
      have : ¬ l < h := by omega
      simp [bl, this]
  | succ f ih =>
    intro g v l h hf hg
    cases g with
    | zero =>
      have : ¬ l < h := by omega
      simp [bl, this]
    | succ g =>
      unfold bl
      by_cases c : l < h
      · rw [if_pos c, if_pos c]
        by_cases c1 : l % p ≠ 0
        · rw [if_pos c1, if_pos c1, ih g v (l + 1) h (by omega) (by omega)]
        · rw [if_neg c1, if_neg c1]
          by_cases c2 : h % p ≠ 0
          · rw [if_pos c2, if_pos c2, ih g v l (h - 1) (by omega) (by omega)]
          · rw [if_neg c2, if_neg c2]
            have := half hp c (by omega) (by omega)
            exact ih g (v + 1) (l / p) (h / p) (by omega) (by omega)
      · rw [if_neg c, if_neg c]
theorem B_end {p v l h : Nat} (c : ¬ l < h) : B p v l h = [] := by
  unfold B
  rw [show h - l = 0 by omega]
  rfl
theorem B_low {p v l h : Nat} (c : l < h) (m : l % p ≠ 0) : B p v l h = (l, v) :: B p v (l + 1) h := by
  unfold B
  rw [show h - l = (h - (l + 1)) + 1 by omega]
  show (if l < h then _ else _) = _
  rw [if_pos c, if_pos m]
theorem B_high {p v l h : Nat} (c : l < h) (m : l % p = 0) (m2 : h % p ≠ 0) : B p v l h = B p v l (h - 1) ++ [(h - 1, v)] := by
  unfold B
  rw [show h - l = (h - 1 - l) + 1 by omega]
  show (if l < h then _ else _) = _
  rw [if_pos c, if_neg (by omega), if_pos m2]
theorem B_up {p v l h : Nat} (hp : 2 ≤ p) (c : l < h) (m : l % p = 0) (m2 : h % p = 0) : B p v l h = B p (v + 1) (l / p) (h / p) := by
  have hh := half hp c m m2
  unfold B
  rw [show h - l = (h - l - 1) + 1 by omega]
  show (if l < h then _ else _) = _
  rw [if_pos c, if_neg (by omega), if_neg (by omega)]
  exact bl_fuel hp _ _ _ _ _ (by omega) (by omega)
theorem div_eq {p l h : Nat} (c : ¬ l < h) (e : l ≤ h) : B p 0 (l / p) (h / p) = [] := by
  have : l = h := by omega
  subst this
  exact B_end (by omega)
/-- a rule of induction: one for all three ways -/
theorem B_ind {p : Nat} (hp : 2 ≤ p) {C : Nat → Nat → Nat → List (Nat × Nat) → Prop}
    (h0 : ∀ v l h, l = h → C v l h [])
    (h1 : ∀ v l h, l < h → l % p ≠ 0 → C v (l + 1) h (B p v (l + 1) h) → C v l h ((l, v) :: B p v (l + 1) h))
    (h2 : ∀ v l h, l < h → l % p = 0 → h % p ≠ 0 → C v l (h - 1) (B p v l (h - 1)) → C v l h (B p v l (h - 1) ++ [(h - 1, v)]))
    (h3 : ∀ v l h, l < h → l % p = 0 → h % p = 0 → l / p < h / p → C (v + 1) (l / p) (h / p) (B p (v + 1) (l / p) (h / p)) → C v l h (B p (v + 1) (l / p) (h / p))) :
    ∀ (n v l h : Nat), h - l ≤ n → l ≤ h → C v l h (B p v l h) := by
  intro n
  induction n with
  | zero =>
    intro v l h hn hle
    rw [B_end (by omega)]
    exact h0 v l h (by omega)
  | succ n ih =>
    intro v l h hn hle
    by_cases c : l < h
    · by_cases c1 : l % p = 0
      · by_cases c2 : h % p = 0
        · have hh := half hp c c1 c2
          rw [B_up hp c c1 c2]
          exact h3 v l h c c1 c2 hh.2 (ih _ _ _ (by omega) (by omega))
        · rw [B_high c c1 c2]
          exact h2 v l h c c1 c2 (ih _ _ _ (by omega) (by omega))
      · rw [B_low c c1]
        exact h1 v l h c c1 (ih _ _ _ (by omega) (by omega))
    · rw [B_end c]
      exact h0 v l h (by omega)
/-! side by side -/
inductive Chain (p : Nat) : List (Nat × Nat) → Nat → Nat → Prop
  | nil (x) : Chain p [] x x
  | cons {a k r y} : Chain p r (a * p ^ k + p ^ k) y → Chain p ((a, k) :: r) (a * p ^ k) y
theorem Chain.snoc {p : Nat} {ks : List (Nat × Nat)} {x a k : Nat} (h : Chain p ks x (a * p ^ k)) : Chain p (ks ++ [(a, k)]) x (a * p ^ k + p ^ k) := by
  generalize e : a * p ^ k = y at h
  induction h with
  | nil x => subst e; exact .cons (.nil _)
  | cons r ih => exact .cons (ih e)
theorem pw {p v l : Nat} (m : l % p = 0) : l / p * p ^ (v + 1) = l * p ^ v := by
  have e1 : l / p * p = l := by have := Nat.div_add_mod l p; rw [Nat.mul_comm]; omega
  rw [Nat.pow_succ, Nat.mul_comm (p ^ v) p, ← Nat.mul_assoc, e1]
theorem B_chain {p : Nat} (hp : 2 ≤ p) {v l h : Nat} (hle : l ≤ h) : Chain p (B p v l h) (l * p ^ v) (h * p ^ v) := by
  refine B_ind hp (C := fun v l h ks => Chain p ks (l * p ^ v) (h * p ^ v)) ?_ ?_ ?_ ?_ (h - l) v l h (Nat.le_refl _) hle
  · intro v l h e; subst e; exact .nil _
  · intro v l h c m ih
    rw [Nat.succ_mul] at ih
    exact .cons ih
  · intro v l h c m m2 ih
    have e : h * p ^ v = (h - 1) * p ^ v + p ^ v := by
      rw [← Nat.succ_mul]
      congr 1
      omega
    rw [e]
    exact ih.snoc
  · intro v l h c m m2 hh ih
    rw [pw m, pw m2] at ih
    exact ih
/-! at most so many -/
theorem B_len {p : Nat} (hp : 2 ≤ p) : ∀ {v l h : Nat} (n : Nat), l ≤ h → h ≤ p ^ (n + 1) → (B p v l h).length ≤ 2 * ((p - 1) * n) + 1 + (if l % p = 0 then 0 else p - l % p) + h % p := by
  intro v l h n hle hn
  refine B_ind hp (C := fun v l h ks => ∀ n, h ≤ p ^ (n + 1) → ks.length ≤ 2 * ((p - 1) * n) + 1 + (if l % p = 0 then 0 else p - l % p) + h % p) ?_ ?_ ?_ ?_ (h - l) v l h (Nat.le_refl _) hle n hn
  · intro v l h e n _
    exact Nat.zero_le _
  · intro v l h c m ih n hn
    have := ih n hn
    rw [List.length_cons, if_neg m]
    have lt := Nat.mod_lt l (show 0 < p by omega)
    have key : (if (l + 1) % p = 0 then 0 else p - (l + 1) % p) + 1 = p - l % p := by
      rw [Nat.add_mod, Nat.mod_eq_of_lt (show 1 < p by omega)]
      by_cases z : l % p + 1 = p
      · rw [z, Nat.mod_self, if_pos rfl]; omega
      · rw [Nat.mod_eq_of_lt (show l % p + 1 < p by omega), if_neg (by omega)]; omega
    omega
  · intro v l h c m m2 ih n hn
    have := ih n (by omega)
    rw [List.length_append, List.length_singleton]
    have key : (h - 1) % p + 1 = h % p := by
      have e : h % p = ((h - 1) + 1) % p := by congr 1; omega
      have lt := Nat.mod_lt (h - 1) (show 0 < p by omega)
      rw [Nat.add_mod, Nat.mod_eq_of_lt (show 1 < p by omega)] at e
      by_cases z : (h - 1) % p + 1 = p
      · rw [z, Nat.mod_self] at e; omega
      · rw [Nat.mod_eq_of_lt (show (h - 1) % p + 1 < p by omega)] at e; omega
    omega
  · intro v l h c m m2 hh ih n hn
    rw [if_pos m, m2]
    cases n with
    | zero =>
      have e2 : h / p * p = h := by have := Nat.div_add_mod h p; rw [Nat.mul_comm]; omega
      have hp1 : h ≤ p := by simpa using hn
      have q1 : h / p ≤ 1 := by
        have := Nat.div_le_div_right (c := p) hp1
        rwa [Nat.div_self (by omega)] at this
      have q2 : h / p = 1 := Nat.le_antisymm q1 (Nat.lt_of_le_of_lt (Nat.zero_le _) hh)
      have q3 : l / p = 0 := by rw [q2] at hh; exact Nat.lt_one_iff.mp hh
      rw [q2, q3]
      have z : B p (v + 1) 0 1 = [(0, v + 1)] := by
        rw [B_high (by omega) (Nat.zero_mod p) (by rw [Nat.mod_eq_of_lt (by omega)]; omega), B_end (by omega)]
        rfl
      rw [z]
      exact Nat.le_add_left _ _
    | succ n =>
      have hq : h / p ≤ p ^ (n + 1) := by
        rw [Nat.pow_succ] at hn
        exact Nat.div_le_of_le_mul (by rw [Nat.mul_comm]; exact hn)
      have := ih n hq
      have a1 : (if l / p % p = 0 then 0 else p - l / p % p) ≤ p - 1 := by split <;> omega
      have a2 : h / p % p ≤ p - 1 := by have := Nat.mod_lt (h / p) (show 0 < p by omega); omega
      rw [Nat.mul_succ]
      omega
theorem B_len' {p : Nat} (hp : 2 ≤ p) {v l h : Nat} (n : Nat) (hle : l ≤ h) (hn : h ≤ p ^ (n + 1)) : (B p v l h).length ≤ 2 * (p - 1) * (n + 1) + 1 := by
  have := B_len hp (v := v) n hle hn
  have a1 : (if l % p = 0 then 0 else p - l % p) ≤ p - 1 := by split <;> omega
  have a2 : h % p ≤ p - 1 := by have := Nat.mod_lt h (show 0 < p by omega); omega
  rw [Nat.mul_assoc, Nat.mul_succ]
  omega
/-! none can be wider -/
def LowI (p F v l : Nat) : Prop := (l % p = 0 → l * p ^ v < F + p ^ (v + 1)) ∧ (l % p ≠ 0 → l / p * p ^ (v + 1) < F)
def HighI (p L v h : Nat) : Prop := L < (h / p + 1) * p ^ (v + 1)
theorem succ_mod {p l : Nat} (hp : 2 ≤ p) (m : l % p ≠ 0) : ((l + 1) % p = 0 ∧ l + 1 = (l / p + 1) * p) ∨ ((l + 1) % p ≠ 0 ∧ (l + 1) / p = l / p) := by
  have lt := Nat.mod_lt l (show 0 < p by omega)
  have dm := Nat.div_add_mod l p
  generalize hr : l % p = r at *
  generalize hq : l / p = q at *
  have e : l + 1 = (r + 1) + q * p := by rw [Nat.mul_comm q p]; omega
  by_cases z : r + 1 = p
  · left
    rw [e, z, Nat.succ_mul, Nat.add_comm]
    refine ⟨?_, rfl⟩
    rw [Nat.add_mod, Nat.mul_mod_left, Nat.mod_self]
    simp
  · right
    rw [e, Nat.add_mul_mod_self_right, Nat.add_mul_div_right _ _ (by omega), Nat.mod_eq_of_lt (by omega), Nat.div_eq_of_lt (by omega)]
    omega
theorem pred_div {p h : Nat} (hp : 2 ≤ p) (m : h % p ≠ 0) : (h - 1) / p = h / p := by
  have lt := Nat.mod_lt h (show 0 < p by omega)
  have dm := Nat.div_add_mod h p
  generalize hr : h % p = r at *
  generalize hq : h / p = q at *
  have e : h - 1 = (r - 1) + q * p := by rw [Nat.mul_comm q p]; omega
  rw [e, Nat.add_mul_div_right _ _ (by omega), Nat.div_eq_of_lt (by omega)]
  omega
theorem LowI.step {p F v l : Nat} (hp : 2 ≤ p) (m : l % p ≠ 0) (I : LowI p F v l) : LowI p F v (l + 1) := by
  have i := I.2 m
  rcases succ_mod hp m with ⟨a, b⟩ | ⟨a, b⟩
  · refine ⟨fun _ => ?_, fun z => absurd a z⟩
    rw [b, Nat.mul_assoc, Nat.mul_comm p, ← Nat.pow_succ, Nat.succ_mul]
    show l / p * p ^ (v + 1) + p ^ (v + 1) < F + p ^ (v + 1)
    omega
  · refine ⟨fun z => absurd z a, fun _ => ?_⟩
    rw [b]
    exact i
theorem LowI.up {p F v l : Nat} (hp : 2 ≤ p) (m : l % p = 0) (I : LowI p F v l) : LowI p F (v + 1) (l / p) := by
  have i := I.1 m
  rw [← pw m] at i
  generalize l / p = u at *
  constructor
  · intro _
    have : p ^ (v + 1) ≤ p ^ (v + 1 + 1) := Nat.pow_le_pow_right (by omega) (by omega)
    omega
  · intro z
    have dm := Nat.div_add_mod u p
    have e : u / p * p ^ (v + 1 + 1) + p ^ (v + 1) ≤ u * p ^ (v + 1) := by
      rw [Nat.pow_succ p (v + 1), Nat.mul_comm (p ^ (v + 1)) p, ← Nat.mul_assoc, ← Nat.succ_mul]
      apply Nat.mul_le_mul_right
      rw [Nat.mul_comm]
      omega
    omega
theorem HighI.up {p L v h : Nat} (hp : 2 ≤ p) (I : HighI p L v h) : HighI p L (v + 1) (h / p) := by
  unfold HighI at *
  generalize h / p = u at *
  refine Nat.lt_of_lt_of_le I ?_
  rw [Nat.pow_succ p (v + 1), Nat.mul_comm (p ^ (v + 1)) p, ← Nat.mul_assoc]
  apply Nat.mul_le_mul_right
  have dm := Nat.div_add_mod u p
  have lt := Nat.mod_lt u (show 0 < p by omega)
  rw [Nat.succ_mul, Nat.mul_comm]
  omega
theorem B_wide {p : Nat} (hp : 2 ≤ p) {F L v l h : Nat} (hle : l ≤ h) (hl : LowI p F v l) (hh : HighI p L v h) : ∀ x ∈ B p v l h, x.1 / p * p ^ (x.2 + 1) < F ∨ L < (x.1 / p + 1) * p ^ (x.2 + 1) := by
  refine B_ind hp (C := fun v l h ks => LowI p F v l → HighI p L v h → ∀ x ∈ ks, x.1 / p * p ^ (x.2 + 1) < F ∨ L < (x.1 / p + 1) * p ^ (x.2 + 1)) ?_ ?_ ?_ ?_ (h - l) v l h (Nat.le_refl _) hle hl hh
  · intro v l h e _ _ x hx
    cases hx
  · intro v l h c m ih il ih2 x hx
    rcases List.mem_cons.mp hx with rfl | hx
    · exact .inl (il.2 m)
    · exact ih (il.step hp m) ih2 x hx
  · intro v l h c m m2 ih il ih2 x hx
    rcases List.mem_append.mp hx with hx | hx
    · refine ih il ?_ x hx
      unfold HighI at *
      rw [pred_div hp m2]
      exact ih2
    · rw [List.mem_singleton] at hx
      subst hx
      right
      show L < ((h - 1) / p + 1) * p ^ (v + 1)
      rw [pred_div hp m2]
      exact ih2
  · intro v l h c m m2 _ ih il ih2 x hx
    exact ih (il.up hp m) (ih2.up hp) x hx
theorem B_wide0 {p f e : Nat} (hp : 2 ≤ p) (hle : f ≤ e) : ∀ x ∈ B p 0 f e, x.1 / p * p ^ (x.2 + 1) < f ∨ e < (x.1 / p + 1) * p ^ (x.2 + 1) := by
  refine B_wide hp hle ⟨fun _ => ?_, fun m => ?_⟩ ?_
  · rw [Nat.pow_zero]
    have : 0 < p ^ (0 + 1) := Nat.pow_pos (by omega)
    omega
  · have dm := Nat.div_add_mod f p
    rw [Nat.zero_add, Nat.pow_one, Nat.mul_comm]
    omega
  · unfold HighI
    have dm := Nat.div_add_mod e p
    have lt := Nat.mod_lt e (show 0 < p by omega)
    rw [Nat.zero_add, Nat.pow_one, Nat.succ_mul, Nat.mul_comm]
    omega
/-! one block -/
theorem B_one {p : Nat} (hp : 2 ≤ p) : ∀ (n v : Nat), B p v 0 (p ^ n) = [(0, v + n)]
  | 0, v => by
    rw [B_high (by simp) (Nat.zero_mod p) (by rw [Nat.pow_zero, Nat.mod_eq_of_lt (by omega)]; omega), B_end (by simp)]
    rfl
  | n + 1, v => by
    have e : p ^ (n + 1) / p = p ^ n := by rw [Nat.pow_succ, Nat.mul_div_cancel _ (by omega)]
    rw [B_up hp (Nat.pow_pos (by omega)) (Nat.zero_mod p) (by rw [Nat.pow_succ, Nat.mul_mod_left]), e, Nat.zero_div, B_one hp n (v + 1)]
    congr 2
    omega
/-- levels are low -/
theorem Chain.le {p : Nat} {ks : List (Nat × Nat)} {x y : Nat} (h : Chain p ks x y) : x ≤ y ∧ ∀ b ∈ ks, x ≤ b.1 * p ^ b.2 ∧ b.1 * p ^ b.2 + p ^ b.2 ≤ y := by
  induction h with
  | nil x => exact ⟨Nat.le_refl _, fun b hb => nomatch hb⟩
  | cons r ih =>
    refine ⟨by omega, fun b hb => ?_⟩
    rcases List.mem_cons.mp hb with rfl | hb
    · exact ⟨Nat.le_refl _, ih.1⟩
    · have := ih.2 b hb
      omega
end HB

/-! what every law here draws on: the bag, taken from -/
namespace HG
open PySem PySem.Spec PyProof.Rows L2
/-- xs[k] read ahead of xs[k] op= e -/
def rGetL (K : PySem.W.Frag) : V → V → Hp → VK → Prop := fun o i H Q => ∃ p xs k v, o = .ref p ∧ i = .int k ∧ SqL K H p xs ∧ 0 ≤ k ∧ xs[k.toNat]? = some v ∧ Q v H
theorem get_list {X : Cx} : PGet X (rGetL X.K) := by
  intro pins s σ H o i ov iv Q I ro ri h
  obtain ⟨p, xs, k, v, rfl, rfl, hq, h0, hx, q⟩ := h
  cases ro
  obtain ⟨t, rfl⟩ := ri
  obtain ⟨its, r, pl, hz⟩ := I.list hq
  obtain ⟨w, ew, rw'⟩ := r.get hx
  have hn := line63
  have hl := r.length
  have hlt : k.toNat < xs.length := (List.getElem?_eq_some_iff.mp hx).1
  exact wpAny_getItem_list pl.isList h0 (by omega) (by simpa using ew) ⟨v, H, I, rw', q⟩
theorem atI_int {α : Type} {xs : List α} {i : Int} {v : α} (h0 : 0 ≤ i) (h : xs[i.toNat]? = some v) : atI xs i = some v := by
  obtain ⟨j, rfl⟩ := Int.eq_ofNat_of_zero_le h0
  exact atI_nat h
theorem upd_self {H : Hp} {p : Addr} {o : HO} (h : H p = some o) : upd H p o = H := by
  funext b
  unfold upd
  by_cases e : b = p
  · rw [if_pos e, e, h]
  · rw [if_neg e]
theorem same_upd {H : Hp} {p : Addr} {o : HO} (h : H p = none) : Same H (upd H p o) := fun b x e => by
  rw [upd_ne (ne_of_none e h)]
  exact e
/-- the bag: its place, what is drawn from, how far -/
def bagL (b0 b1 b2 : Int) (c : Addr) : HO := .lst [.int b0, .int b1, .int b2, .ref c]
def Bag (H : Hp) (p : Addr) : Prop := ∃ (c : Addr) (b0 b1 b2 : Int) (cs : List Int), H p = some (bagL b0 b1 b2 c) ∧ H c = some (.lst (cs.map V.int)) ∧ 0 ≤ b2
theorem Bag.lst {H : Hp} {p : Addr} (B : Bag H p) : ∃ xs, H p = some (.lst xs) := let ⟨_, _, _, _, _, h, _⟩ := B; ⟨_, h⟩
theorem bag_ne {H : Hp} {p c : Addr} {b0 b1 b2 : Int} {cs : List Int} (h : H p = some (bagL b0 b1 b2 c)) (g : H c = some (.lst (cs.map V.int))) : c ≠ p := fun e => by
  subst e
  rw [h] at g
  have g := HO.lst.inj (Option.some.inj g)
  rcases cs with _ | ⟨a, _ | ⟨b, _ | ⟨d, _ | ⟨f, r⟩⟩⟩⟩ <;> simp at g
theorem Bag.same {H H' : Hp} {p : Addr} (s : Same H H') (B : Bag H p) : Bag H' p := let ⟨c, b0, b1, b2, cs, h, g, z⟩ := B; ⟨c, b0, b1, b2, cs, s _ _ h, s _ _ g, z⟩
def spBag (K : PySem.W.Frag) : Sp := fun vs H Q _ => ∃ (a : Addr) (ns : List Int), vs = [.ref a] ∧ SqL K H a (ns.map V.int) ∧ ns.length ≤ 63 ∧ ∀ p H', Same H H' → H p = none → Bag H' p → Q (.ref p) H'
def spTake : Sp := fun vs H Q _ => ∃ (p : Addr) (m : Int), vs = [.ref p, .int m] ∧ Bag H p ∧ 0 < m ∧ m.natAbs < 2 ^ 1000 ∧ ∀ (r : Int) (xs : List V), 0 ≤ r → r < m → Bag (upd H p (.lst xs)) p → Q (.int r) (upd H p (.lst xs))
end HG

namespace HG
open PySem PySem.Spec PyProof.Rows L2 HB
def kV2 (k : Nat × Nat) : HO := .tup [.int (k.1 : Int), .int (k.2 : Int)]
/-- at these places stand these pairs -/
def Tups (H : Hp) : List Addr → List (Nat × Nat) → Prop
  | [], [] => True
  | t :: ts, k :: ks => H t = some (kV2 k) ∧ Tups H ts ks
  | _, _ => False
theorem Tups.len {H : Hp} : ∀ {ts : List Addr} {ks : List (Nat × Nat)}, Tups H ts ks → ts.length = ks.length
  | [], [], _ => rfl
  | _ :: _, _ :: _, h => congrArg (· + 1) (Tups.len h.2)
  | [], _ :: _, h => h.elim
  | _ :: _, [], h => h.elim
theorem Tups.mono {H H' : Hp} (s : ∀ t k, H t = some (kV2 k) → H' t = some (kV2 k)) : ∀ {ts : List Addr} {ks : List (Nat × Nat)}, Tups H ts ks → Tups H' ts ks
  | [], [], _ => trivial
  | _ :: _, _ :: _, h => ⟨s _ _ h.1, Tups.mono s h.2⟩
  | [], _ :: _, h => h.elim
  | _ :: _, [], h => h.elim
theorem Tups.app {H : Hp} {us : List Addr} {ms : List (Nat × Nat)} (g : Tups H us ms) : ∀ {ts : List Addr} {ks : List (Nat × Nat)}, Tups H ts ks → Tups H (ts ++ us) (ks ++ ms)
  | [], [], _ => g
  | _ :: _, _ :: _, h => ⟨h.1, Tups.app g h.2⟩
  | [], _ :: _, h => h.elim
  | _ :: _, [], h => h.elim
theorem Tups.rev {H : Hp} : ∀ {ts : List Addr} {ks : List (Nat × Nat)}, Tups H ts ks → Tups H ts.reverse ks.reverse
  | [], [], _ => trivial
  | t :: ts, k :: ks, h => by
    rw [List.reverse_cons, List.reverse_cons]
    exact Tups.app (show Tups H [t] [k] from ⟨h.1, trivial⟩) (Tups.rev h.2)
  | [], _ :: _, h => h.elim
  | _ :: _, [], h => h.elim
theorem Tups.get {H : Hp} : ∀ {ts : List Addr} {ks : List (Nat × Nat)} {i : Nat} {t : Addr}, Tups H ts ks → ts[i]? = some t → ∃ k, ks[i]? = some k ∧ H t = some (kV2 k)
  | [], [], _, _, _, h => by cases h
  | t :: ts, k :: ks, 0, _, h, e => by
    cases e
    exact ⟨k, rfl, h.1⟩
  | t :: ts, k :: ks, i + 1, _, h, e => Tups.get (i := i) h.2 e
  | [], _ :: _, _, _, h, _ => h.elim
  | _ :: _, [], _, _, h, _ => h.elim
def kD (k : Nat × Nat) : PyData := .tuple [.int (k.1 : Int), .int (k.2 : Int)]
theorem Tups.dp {K : PySem.W.Frag} {H : Hp} : ∀ {ts : List Addr} {ks : List (Nat × Nat)}, Tups H ts ks → DpAll K H (ts.map V.ref) (ks.map kD)
  | [], [], _ => .nil
  | _ :: _, _ :: _, h => .cons (.tup (.of h.1) (.cons (.int _) (.cons (.int _) .nil))) (Tups.dp h.2)
  | [], _ :: _, h => h.elim
  | _ :: _, [], h => h.elim
/-- the state of the walk of blocks -/
def Inn (H : Hp) (fr bk : Addr) (p : Nat) (R : List (Nat × Nat)) (d v lo hi : Nat) (H' : Hp) : Prop :=
  lo ≤ hi ∧ hi - lo ≤ d ∧ Same H H' ∧ ∃ (ts us : List Addr) (ks ms : List (Nat × Nat)), H' fr = some (.lst (ts.map V.ref)) ∧ H' bk = some (.lst (us.map V.ref)) ∧ Tups H' ts ks ∧ Tups H' us ms ∧ ks ++ B p v lo hi ++ ms.reverse = R
theorem tup_stay {H' : Hp} {t fr : Addr} {xs ys : List V} {o : HO} (ht : H' t = none) (hf : H' fr = some (.lst xs)) : ∀ a k, H' a = some (kV2 k) → (upd (upd H' t o) fr (.lst ys)) a = some (kV2 k) := fun a k e => by
  have n1 : a ≠ fr := ne_of e hf (by intro z; cases z)
  rw [upd_ne n1, upd_ne (ne_of_none e ht)]
  exact e
theorem fr_same {H H' : Hp} {t fr : Addr} {o u : HO} (s : Same H H') (nf : H fr = none) (ht : H' t = none) : Same H (upd (upd H' t o) fr u) := fun b x e => by
  rw [upd_ne (ne_of_none e nf), upd_ne (ne_of_none e (s.free ht))]
  exact s b x e
theorem Inn.front {H H' : Hp} {fr bk : Addr} {p : Nat} {R : List (Nat × Nat)} {d v lo hi : Nat} (I : Inn H fr bk p R d v lo hi H') (nf : H fr = none) (nfb : fr ≠ bk) (c : lo < hi) (m : lo % p ≠ 0) {t : Addr} (ht : H' t = none) :
    ∃ xs, (upd H' t (kV2 (lo, v))) fr = some (.lst xs) ∧ xs.length ≤ R.length ∧ Inn H fr bk p R d v (lo + 1) hi (upd (upd H' t (kV2 (lo, v))) fr (.lst (xs ++ [.ref t]))) := by
  obtain ⟨i1, i2, s, ts, us, ks, ms, hf, hb, tf, tb, e⟩ := I
  have ntf : fr ≠ t := ne_of_none hf ht
  have ntb : bk ≠ t := ne_of_none hb ht
  refine ⟨ts.map V.ref, by rw [upd_ne ntf]; exact hf, ?_, by omega, by omega, fr_same s nf ht, ts ++ [t], us, ks ++ [(lo, v)], ms, ?_, ?_, ?_, ?_, ?_⟩
  · rw [List.length_map, tf.len, ← e, List.length_append, List.length_append]
    omega
  · rw [upd_same, List.map_append]
    rfl
  · rw [upd_ne nfb.symm, upd_ne ntb]
    exact hb
  · refine Tups.app (show Tups _ [t] [(lo, v)] from ⟨?_, trivial⟩) (tf.mono (tup_stay ht hf))
    rw [upd_ne ntf.symm, upd_same]
  · exact tb.mono (tup_stay ht hf)
  · rw [← e, B_low c m, List.append_assoc, List.append_assoc, List.append_assoc]
    rfl
theorem Inn.back {H H' : Hp} {fr bk : Addr} {p : Nat} {R : List (Nat × Nat)} {d v lo hi : Nat} (I : Inn H fr bk p R d v lo hi H') (nb : H bk = none) (nfb : fr ≠ bk) (c : lo < hi) (m : lo % p = 0) (m2 : hi % p ≠ 0) {t : Addr} (ht : H' t = none) :
    ∃ xs, (upd H' t (kV2 (hi - 1, v))) bk = some (.lst xs) ∧ xs.length ≤ R.length ∧ Inn H fr bk p R d v lo (hi - 1) (upd (upd H' t (kV2 (hi - 1, v))) bk (.lst (xs ++ [.ref t]))) := by
  obtain ⟨i1, i2, s, ts, us, ks, ms, hf, hb, tf, tb, e⟩ := I
  have ntf : fr ≠ t := ne_of_none hf ht
  have ntb : bk ≠ t := ne_of_none hb ht
  refine ⟨us.map V.ref, by rw [upd_ne ntb]; exact hb, ?_, by omega, by omega, fr_same s nb ht, ts, us ++ [t], ks, ms ++ [(hi - 1, v)], ?_, ?_, ?_, ?_, ?_⟩
  · rw [List.length_map, tb.len, ← e, List.length_append, List.length_append, List.length_reverse]
    omega
  · rw [upd_ne nfb, upd_ne ntf]
    exact hf
  · rw [upd_same, List.map_append]
    rfl
  · exact tf.mono (tup_stay ht hb)
  · refine Tups.app (show Tups _ [t] [(hi - 1, v)] from ⟨?_, trivial⟩) (tb.mono (tup_stay ht hb))
    rw [upd_ne ntb.symm, upd_same]
  · rw [← e, B_high c m m2, List.reverse_append]
    simp only [List.append_assoc]
    rfl
theorem Inn.up {H H' : Hp} {fr bk : Addr} {p : Nat} {R : List (Nat × Nat)} {d v lo hi : Nat} (hp : 2 ≤ p) (I : Inn H fr bk p R d v lo hi H') (m : lo = hi ∨ (lo % p = 0 ∧ hi % p = 0)) (hd : 0 < d) : ∃ d', d' < d ∧ Inn H fr bk p R d' (v + 1) (lo / p) (hi / p) H' ∧ hi / p - lo / p = d' := by
  obtain ⟨i1, i2, s, ts, us, ks, ms, hf, hb, tf, tb, e⟩ := I
  have key : hi / p - lo / p < d ∧ B p (v + 1) (lo / p) (hi / p) = B p v lo hi := by
    by_cases c : lo = hi
    · subst c
      rw [B_end (by omega), B_end (by omega)]
      exact ⟨by omega, rfl⟩
    · rcases m with m | ⟨m, m2⟩
      · exact absurd m c
      · have h1 := half hp (show lo < hi by omega) m m2
        exact ⟨by omega, (B_up hp (by omega) m m2).symm⟩
  refine ⟨_, key.1, ⟨Nat.div_le_div_right i1, Nat.le_refl _, s, ts, us, ks, ms, hf, hb, tf, tb, ?_⟩, rfl⟩
  rw [key.2]
  exact e
def spBlocks : Sp := fun vs H Q _ => ∃ (f l p : Nat), vs = [.int (f : Int), .int (l : Int), .int (p : Int)] ∧ f ≤ l ∧ 2 ≤ p ∧ p ≤ 4 ∧ (B p 0 f (l + 1)).length ≤ 1000 ∧
  ∀ (q : Addr) (ts : List Addr) (H' : Hp), Same H H' → H q = none → H' q = some (.lst (ts.map V.ref)) → Tups H' ts (B p 0 f (l + 1)) → Q (.ref q) H'
def spSize : Sp := fun vs H Q _ => ∃ (p m : Nat), vs = [.int (p : Int), .int (m : Int)] ∧ p < 1000 ∧ m < 1000 ∧ Q (.int ((p ^ m : Nat) : Int)) H
end HG

namespace HG
open PySem PySem.Spec PyProof.Rows L2
/-! what holds of a wish holds of a weaker one -/
def MoE (t : TE) : Prop := ∀ σ H Q Q', (∀ v H1, Q v H1 → Q' v H1) → t σ H Q → t σ H Q'
def MoT (t : TT) : Prop := ∀ σ H Q Q', (∀ b H1, Q b H1 → Q' b H1) → t σ H Q → t σ H Q'
def MoA (t : TA) : Prop := ∀ σ H Q Q', (∀ vs H1, Q vs H1 → Q' vs H1) → t σ H Q → t σ H Q'
def MoR (r : R2) : Prop := ∀ x y H Q Q', (∀ v H1, Q v H1 → Q' v H1) → r x y H Q → r x y H Q'
theorem mo_var {i : Nat} : MoE (tVar i) := fun σ H Q Q' hq ⟨v, e, q⟩ => ⟨v, e, hq _ _ q⟩
theorem mo_c {v : V} : MoE (tC v) := fun σ H Q Q' hq q => hq _ _ q
theorem mo_op {r : R2} {ta tb : TE} (hr : MoR r) (ha : MoE ta) (hb : MoE tb) : MoE (tOp r ta tb) := fun σ H Q Q' hq h => ha σ H _ _ (fun x H1 h1 => hb σ H1 _ _ (fun y H2 h2 => hr x y H2 _ _ hq h2) h1) h
theorem mo_rI {C : Int → Int → Prop} {g : Int → Int → V} : MoR (rI C g) := fun x y H Q Q' hq ⟨i, j, e1, e2, c, q⟩ => ⟨i, j, e1, e2, c, hq _ _ q⟩
theorem mo_rI0 {g : Int → Int → V} : MoR (rI0 g) := fun x y H Q Q' hq ⟨i, j, e1, e2, q⟩ => ⟨i, j, e1, e2, hq _ _ q⟩
theorem mo_rEq : MoR rEq := fun x y H Q Q' hq ⟨c, q⟩ => ⟨c, hq _ _ q⟩
theorem mo_rNe : MoR rNe := fun x y H Q Q' hq ⟨c, q⟩ => ⟨c, hq _ _ q⟩
theorem mo_rIxL {K : PySem.W.Frag} : MoR (rIxL K) := fun x y H Q Q' hq ⟨p, xs, i, v, e1, e2, s, a, q⟩ => ⟨p, xs, i, v, e1, e2, s, a, hq _ _ q⟩
theorem mo_test {t : TE} (h : MoE t) : MoT (tTest t) := fun σ H Q Q' hq q => h σ H _ _ (fun v H1 ⟨k, e, q⟩ => ⟨k, e, hq _ _ q⟩) q
theorem mo_and {t u : TT} (ht : MoT t) (hu : MoT u) : MoT (tAnd t u) := fun σ H Q Q' hq q => ht σ H _ _ (fun c H1 q => by
  cases c with
  | true => exact iteT (hu σ H1 _ _ hq (by simpa using q))
  | false => exact iteF (hq _ _ (by simpa using q))) q
end HG

namespace P15
open PySem PySem.Spec PyProof.Rows L2 HG
def topS (i : Nat) : Stmt := PySem.Challenge.pw_halfpace_k15_whole_fewest_blocks.main.body.getD i (.Pass ⟨0, 0, 0, 0⟩)
abbrev sBlocks : Stmt := topS 1
abbrev sBag : Stmt := topS 3
abbrev sTake : Stmt := topS 4
abbrev sSize : Stmt := topS 5
abbrev sNumber : Stmt := topS 6
abbrev sLaw : Stmt := topS 7
section
variable {P : Program} {w : World} {K : PySem.W.Frag} {mg : Str → Option Value} {base : Heap}
theorem scBag : FnScope ["script", "cell"] ["script"] (defScope sBag) := ⟨rfl, rfl, rfl, by decide +kernel, rfl, by decide +kernel, by decide +kernel⟩
theorem ok_bag {f : Addr} {fd : FuncData} {k : Nat} (F : Fun K "_law_bag" "_law_bag" sBag f fd) (ma : mg "abs" = none) : FnOk P w K mg base CX0 (k + 1) f fd ["script"] (spBag K) := by
  refine F.ok scBag (fun vs H Q E h => ?_) (fun cdv A outer s H vs Q E hr h => ?_)
  · obtain ⟨a, ns, rfl, _⟩ := h
    rfl
  · obtain ⟨a, ns, rfl, hS, hl, k⟩ := h
    refine ⟨_, pss_one (ps_ret (pe_lst (pa_cons pe_int (pa_cons pe_int (pa_cons pe_int (pa_cons
      (pe_lc (own := [("cell", 1)]) (g := gName 1) (tt := tYes) rfl scBag.nd (pi_list (pe_slice sl_list (pv 0) po_none (po_some pe_int))) (blkOk_by (N := ["script", "cell"]) (sc := defScope sBag) (by decide +kernel))
        (fun _ _ _ _ _ => pg_name (i := 1) scBag.nd rfl (Or.inl rfl)) (fun _ _ _ _ _ => pts_nil)
        (fun _ _ _ _ _ => pe_callB call_abs (by rfl) ma (by decide +kernel) (pa_cons (pv 1) pa_nil))) pa_nil)))))), ?_⟩
    refine ⟨.ref a, rfl, 63, rfl, a, ns.map V.int, rfl, hS, fun c nc => ?_⟩
    have hcut : cutV (ns.map V.int) none (some 63) = ns.map V.int := by
      unfold cutV
      rw [HT.sIx_none, List.drop_zero, show HT.sIx (ns.map V.int).length (ns.map V.int).length (some 63) = min 63 (ns.map V.int).length from HT.sIx_nat _ _ 63, List.length_map]
      apply List.take_of_length_le
      rw [List.length_map]
      omega
    rw [hcut]
    have s1 : Same H (upd H c (.lst (ns.map V.int))) := same_upd nc
    refine ⟨c, rfl, ⟨_, .of upd_same⟩, fun D hD => ?_⟩
    have ncD : c ≠ D := fun e => by rw [← e, upd_same] at hD; cases hD
    refine lc_list (K := K) (a := c) (xs := ns.map V.int) (fun i H' => ∃ ms : List Int, Same H H' ∧ H' c = some (.lst (ns.map V.int)) ∧ H' D = some (.lst (ms.map V.int)) ∧ ms.length = i ∧ D ≠ c) ?_ ?_ ?_ ?_
    · refine ⟨[], ?_, ?_, upd_same, rfl, ncD.symm⟩
      · exact s1.trans (same_upd hD)
      · rw [upd_ne ncD, upd_same]
    · rintro i H' hi ⟨ms, q1, q2, q3, q4, q5⟩
      exact .of q2
    · rintro i x H' hi ⟨ms, q1, q2, q3, q4, q5⟩
      obtain ⟨z, rfl⟩ : ∃ z, x = V.int z := by
        rw [List.getElem?_map] at hi
        cases e : ns[i]? with
        | none => rw [e] at hi; cases hi
        | some z => rw [e] at hi; exact ⟨z, (Option.some.inj hi).symm⟩
      have hil : i < (ns.map V.int).length := (List.getElem?_eq_some_iff.mp hi).1
      rw [List.length_map] at hil
      have hD' : H D = none := by
        have : (upd H c (.lst (ns.map V.int))) D = H D := upd_ne ncD.symm
        rw [← this]; exact hD
      refine ⟨rfl, .int z, rfl, _, rfl, ms.map V.int, q3, ?_, ms ++ [if z < 0 then -z else z], fun b o e => ?_, ?_, ?_, ?_, q5⟩
      · rw [List.length_map]; exact small1000 (by omega)
      · rw [upd_ne (ne_of_none e hD')]
        exact q1 b o e
      · rw [upd_ne ncD]; exact q2
      · rw [upd_same, List.map_append]; rfl
      · rw [List.length_append]; simp [q4]
    · rintro H' ⟨ms, q1, q2, q3, q4, q5⟩
      refine ⟨by show 4 ≤ sizeLine; decide, fun p hp => ?_⟩
      have hpn : H p = none := q1.free hp
      have nDp : D ≠ p := ne_of_none q3 hp
      exact k p _ (q1.trans (same_upd hp)) hpn ⟨D, 0, 1234567891, 0, ms, upd_same, by rw [upd_ne nDp]; exact q3, by decide⟩
theorem scTake : FnScope ["bag", "many", "cell", "value", "first", "second"] ["bag", "many"] (defScope sTake) := ⟨rfl, rfl, rfl, by decide +kernel, rfl, by decide +kernel, by decide +kernel⟩
theorem ok_take {f : Addr} {fd : FuncData} {k : Nat} (F : Fun K "_law_take" "_law_take" sTake f fd) (ml : mg "len" = none) : FnOk P w K mg base CX0 (k + 1) f fd ["bag", "many"] spTake := by
  refine F.ok scTake (fun vs H Q E h => ?_) (fun cdv A outer s H vs Q E hr h => ?_)
  · obtain ⟨p, m, rfl, _⟩ := h
    rfl
  · obtain ⟨p, m, rfl, ⟨c, b0, b1, b2, cs, hb, hc, h2⟩, hm, hm2, k⟩ := h
    have ncp : c ≠ p := bag_ne hb hc
    refine ⟨_, Evl.pss_cut (ps_if (pt_cmpR op_eq (pe_ix ix_list (pv 0) pe_int (fun _ _ => rfl)) pe_int (nomark _))
        (pss_cons (ps_set (i := 2) scTake.nd rfl (.inl rfl) pe_int)
        (Evl.pss_cut (ps_if (pt_cmpR op_lt (pe_ix ix_list (pv 0) pe_int (fun _ _ => rfl)) (pe_callB call_len_seq (by rfl) ml PySem.boot_len (pa_cons (pe_ix ix_list (pv 0) pe_int (fun _ _ => rfl)) pa_nil)) (nomark _))
            (pss_one (ps_set (i := 2) scTake.nd rfl (.inl rfl) (pe_ix ix_list (pe_ix ix_list (pv 0) pe_int (fun _ _ => rfl)) (pe_ix ix_list (pv 0) pe_int (fun _ _ => rfl)) (fun _ _ => rfl)))) pss_nil)
        (pss_cons (ps_augS (pv 0) pe_int get_list pe_int ip_add set_list)
        (Evl.pss_cut (ps_if (pt_cmpR op_ge (pv 2) pe_int (nomark _)) (pss_one (ps_asg (pv 2) (pg_sub (pv 0) pe_int set_list))) pss_nil)
        (pss_one (ps_asg (pe_op op_mod (pe_op op_add (pe_op op_add (pe_op op_mul (pe_ix ix_list (pv 0) pe_int (fun _ _ => rfl)) pe_int) (pe_op op_mod (pv 2) pe_int)) (pe_op op_mul pe_int (pe_ix ix_list (pv 0) pe_int (fun _ _ => rfl)))) pe_int) (pg_sub (pv 0) pe_int set_list))))))) pss_nil)
      (pss_cons (ps_if (pt_cmpR op_gt (pe_ix ix_list (pv 0) pe_int (fun _ _ => rfl)) pe_int (nomark _))
        (pss_cons (ps_set (i := 3) scTake.nd rfl (.inl rfl) (pe_op op_mod (pe_ix ix_list (pv 0) pe_int (fun _ _ => rfl)) (pv 1)))
        (pss_cons (ps_asg (pe_op op_fdivW (pe_ix ix_list (pv 0) pe_int (fun _ _ => rfl)) (pv 1)) (pg_sub (pv 0) pe_int set_list))
        (pss_one (ps_ret (pv 3))))) pss_nil)
      (pss_cons (ps_set (i := 4) scTake.nd rfl (.inl rfl) (pe_op op_mod (pe_op op_mul (pe_op op_add (pe_ix ix_list (pv 0) pe_int (fun _ _ => rfl)) pe_int) pe_int) pe_int))
      (pss_cons (ps_set (i := 5) scTake.nd rfl (.inl rfl) (pe_op op_mod (pe_op op_mul (pe_op op_mod (pe_op op_mul (pv 4) (pv 4)) pe_int) pe_int) pe_int))
      (pss_cons (ps_if (pt_cmpR op_gt (pv 1) pe_int (nomark _)) (pss_one (ps_ret (pe_op op_mod (pe_op op_add (pe_op op_mul (pv 5) pe_int) (pv 4)) (pv 1)))) pss_nil)
      (pss_one (ps_ret (pe_op op_mod (pe_op op_fdiv (pv 5) pe_int) (pv 1)))))))), ?_⟩
    refine ⟨fun σ H' => ∃ (o2 : Option V) (b0 b1 b2 : Int), σ = [some (.ref p), some (.int m), o2, none, none, none] ∧ H' = upd H p (bagL b0 b1 b2 c) ∧ 0 ≤ b2, ?_, ?_⟩
    · refine ⟨_, rfl, p, _, 0, .int b0, rfl, rfl, .of hb, rfl, rfl, _, rfl, ite2 (fun _ => ?_) (fun _ => ?_)⟩
      · -- cell = 0
        refine ⟨fun σ H' => H' = H ∧ ∃ z, σ = [some (.ref p), some (.int m), some (.int z), none, none, none], ?_, ?_⟩
        · refine ⟨_, rfl, p, _, 2, .int b2, rfl, rfl, .of hb, rfl, _, rfl, p, _, 3, .ref c, rfl, rfl, .of hb, rfl, c, cs.map V.int, rfl, .inl (.of hc), _, _, rfl, rfl, _, rfl, ite2 (fun hlt => ?_) (fun _ => ?_)⟩
          · have hlt := of_decide_eq_true hlt
            have hj : b2.toNat < cs.length := by rw [List.length_map] at hlt; omega
            refine ⟨_, rfl, p, _, 3, .ref c, rfl, rfl, .of hb, rfl, _, rfl, p, _, 2, .int b2, rfl, rfl, .of hb, rfl, c, cs.map V.int, b2, .int cs[b2.toNat], rfl, rfl, .of hc, ?_, rfl, _, rfl⟩
            apply atI_int h2
            rw [List.getElem?_map, List.getElem?_eq_getElem (by simpa using hj)]
            rfl
          · exact ⟨rfl, 0, rfl⟩
        · rintro σ H1 ⟨rfl, z, rfl⟩
          refine ⟨_, rfl, p, _, 2, .int b2, rfl, rfl, .of hb, by decide, rfl, _, _, rfl, rfl, p, _, 2, 2, rfl, rfl, hb, rfl, ?_⟩
          have e1 : upd H1 p (HO.lst ([V.int b0, V.int b1, V.int b2, V.ref c].set 2 (V.int (b2 + 1)))) = upd H1 p (bagL b0 b1 (b2 + 1) c) := rfl
          refine ⟨fun σ H2 => ∃ b0, H2 = upd H1 p (bagL b0 b1 (b2 + 1) c) ∧ σ = [some (.ref p), some (.int m), some (.int z), none, none, none], ?_, ?_⟩
          · refine ⟨_, rfl, _, _, rfl, rfl, _, rfl, ite2 (fun _ => ?_) (fun _ => ?_)⟩
            · refine ⟨_, rfl, _, rfl, p, _, 0, 0, rfl, rfl, upd_same, rfl, z, ?_, rfl⟩
              rw [upd_upd]
              rfl
            · exact ⟨b0, rfl, rfl⟩
          · rintro σ _ ⟨b0', rfl, rfl⟩
            refine ⟨_, rfl, p, _, 1, .int b1, rfl, rfl, .of upd_same, rfl, _, _, rfl, rfl, .inr ⟨by decide, by decide⟩, _, rfl, _, _, rfl, rfl, (by show (0 : Int) < 2147483647; decide), _, _, rfl, rfl, _, rfl, p, _, 2, .int (b2 + 1), rfl, rfl, .of upd_same, rfl, _, _, rfl, rfl, .inl ⟨by decide, by decide⟩, _, _, rfl, rfl, _, _, rfl, rfl, (by show (0 : Int) < 2147483647; decide), _, rfl, p, _, 1, 1, rfl, rfl, upd_same, rfl, _, b0', _, b2 + 1, rfl, upd_upd, by omega⟩
      · exact ⟨none, b0, b1, b2, rfl, (upd_self hb).symm, h2⟩
    · rintro σ _ ⟨o2, d0, d1, d2, rfl, rfl, hd⟩
      have hB : ∀ x y z : Int, 0 ≤ z → Bag (upd H p (bagL x y z c)) p := fun x y z hz => ⟨c, x, y, z, cs, upd_same, by rw [upd_ne ncp]; exact hc, hz⟩
      refine ⟨_, rfl, p, _, 0, .int d0, rfl, rfl, .of upd_same, rfl, _, _, rfl, rfl, _, rfl, ite2 (fun hpos => ?_) (fun _ => ?_)⟩
      · refine ⟨_, rfl, p, _, 0, .int d0, rfl, rfl, .of upd_same, rfl, _, rfl, _, _, rfl, rfl, hm, ?_⟩
        refine ⟨_, rfl, p, _, 0, .int d0, rfl, rfl, .of upd_same, rfl, _, rfl, _, _, rfl, rfl, wide_div hm hm2 (by decide) (by decide), _, rfl, p, _, 0, 0, rfl, rfl, upd_same, rfl, _, rfl, ?_⟩
        rw [upd_upd]
        exact k _ _ (Int.emod_nonneg _ (by omega)) (Int.emod_lt_of_pos _ hm) (hB _ _ _ hd)
      · refine ⟨_, rfl, p, _, 1, .int d1, rfl, rfl, .of upd_same, rfl, _, _, rfl, rfl, _, _, rfl, rfl, .inr ⟨by decide, by decide⟩, _, _, rfl, rfl, (by show (0 : Int) < 1000000007; decide), ?_⟩
        have hf0 : 0 ≤ (d1 + 1) * 39373 % 1000000007 := Int.emod_nonneg _ (by decide)
        have hf1 : (d1 + 1) * 39373 % 1000000007 < 1000000007 := Int.emod_lt_of_pos _ (by decide)
        generalize (d1 + 1) * 39373 % 1000000007 = fst at *
        refine ⟨_, rfl, _, rfl, _, _, rfl, rfl, .inl ⟨by omega, by omega⟩, _, _, rfl, rfl, (by show (0 : Int) < 998244353; decide), _, _, rfl, rfl, .inr ⟨by decide, by decide⟩, _, _, rfl, rfl, (by show (0 : Int) < 998244353; decide), ?_⟩
        generalize fst * fst % 998244353 * 30011 % 998244353 = snd
        refine ⟨_, rfl, _, _, rfl, rfl, _, rfl, ite2 (fun _ => ?_) (fun _ => ?_)⟩
        · refine ⟨_, rfl, _, _, rfl, rfl, .inr ⟨by decide, by decide⟩, _, rfl, _, _, rfl, rfl, _, rfl, _, _, rfl, rfl, hm, ?_⟩
          exact k _ _ (Int.emod_nonneg _ (by omega)) (Int.emod_lt_of_pos _ hm) (hB _ _ _ hd)
        · refine ⟨_, rfl, _, _, rfl, rfl, ⟨by decide, by decide⟩, _, rfl, _, _, rfl, rfl, hm, ?_⟩
          exact k _ _ (Int.emod_nonneg _ (by omega)) (Int.emod_lt_of_pos _ hm) (hB _ _ _ hd)
end
end P15

namespace P15
open PySem PySem.Spec PyProof.Rows L2 HG HB
section
variable {P : Program} {w : World} {K : PySem.W.Frag} {mg : Str → Option Value} {base : Heap}
theorem scSize : FnScope ["pace", "many", "size", "k"] ["pace", "many"] (defScope sSize) := ⟨rfl, rfl, rfl, by decide +kernel, rfl, by decide +kernel, by decide +kernel⟩
theorem ok_size {f : Addr} {fd : FuncData} {k : Nat} (F : Fun K "_law_size" "_law_size" sSize f fd) (mr : mg "range" = none) : FnOk P w K mg base CX0 (k + 1) f fd ["pace", "many"] spSize := by
  refine F.ok scSize (fun vs H Q E h => ?_) (fun cdv A outer s H vs Q E hr h => ?_)
  · obtain ⟨p, m, rfl, _⟩ := h
    rfl
  · obtain ⟨p, m, rfl, hp, hm, k⟩ := h
    refine ⟨_, pss_cons (ps_set (i := 2) scSize.nd rfl (.inl rfl) pe_int)
      (pss_cons (ps_for PassesOwn.never rfl (pi_range1 rfl mr (pa_cons (pv 1) pa_nil)) (pg_name (i := 3) scSize.nd rfl (.inl rfl))
        (pss_one (ps_set (i := 2) scSize.nd rfl (.inl rfl) (pe_op op_mul (pv 2) (pv 0)))))
      (pss_one (ps_ret (pv 2)))), ?_⟩
    refine ⟨_, rfl, (m : Int), rfl, by omega, by omega, ?_⟩
    rw [Int.toNat_natCast]
    refine for_range (fun i σ H' => ∃ o, σ = [some (.int (p : Int)), some (.int (m : Int)), some (.int ((p ^ i : Nat) : Int)), o] ∧ H' = H) ⟨none, rfl, rfl⟩ ?_ ?_
    · rintro i σ _ hi ⟨o, rfl, rfl⟩
      refine ⟨_, rfl, _, rfl, _, _, rfl, rfl, .inr ⟨by omega, by omega⟩, some (.int (0 + (i : Int))), ?_, rfl⟩
      show ([_, _, some (V.int (((p ^ i : Nat) : Int) * (p : Int))), _] : L2.St) = _
      rw [← Int.natCast_mul, ← Nat.pow_succ]
    · rintro σ _ ⟨o, rfl, rfl⟩
      exact ⟨_, rfl, k⟩
theorem scB : FnScope ["first", "last", "pace", "front", "back", "level", "low", "high"] ["first", "last", "pace"] (defScope sBlocks) := ⟨rfl, rfl, rfl, by decide +kernel, rfl, by decide +kernel, by decide +kernel⟩
theorem dec_ne0 {i : Int} : (!decide (V.int i = V.int 0)) = true ↔ i ≠ 0 := by
  rw [dec_int]
  simp
theorem ok_blocks {f : Addr} {fd : FuncData} {k : Nat} (F : Fun K "blocks" "blocks" sBlocks f fd) : FnOk P w K mg base CX0 (k + 1) f fd ["first", "last", "pace"] spBlocks := by
  refine F.ok scB (fun vs H Q E h => ?_) (fun cdv A outer s H vs Q E hr h => ?_)
  · obtain ⟨f, l, p, rfl, _⟩ := h
    rfl
  · obtain ⟨f, l, p, rfl, hfl, hp, hp4, hlen, k⟩ := h
    refine ⟨_, (pss_cons (ps_set (i := 3) scB.nd rfl (.inl rfl) (pe_lst pa_nil))
      (pss_cons (ps_set (i := 4) scB.nd rfl (.inl rfl) (pe_lst pa_nil))
      (pss_cons (ps_set (i := 5) scB.nd rfl (.inl rfl) pe_int)
      (pss_cons (ps_set (i := 6) scB.nd rfl (.inl rfl) (pv 0))
      (pss_cons (ps_set (i := 7) scB.nd rfl (.inl rfl) (pe_op op_add (pv 1) pe_int))
      (pss_cons (ps_while PassesOwn.never (pt_cmpR op_lt (pv 6) (pv 7) (nomark _))
         (Evl.pss_cut (ps_while PassesOwn.never (PW.pt (pw_and (pt_cmpR op_lt (pv 6) (pv 7) (nomark _)) (pw_and1 (pt_cmpR op_ne (pe_op op_mod (pv 6) (pv 2)) pe_int (nomark _)))))
            (pss_cons (ps_expr (pe_bm PySem.F.plainAttrs_list PySem.F.slot_list_append PySem.F.type_list_append mt_append (pv 3) (pa_cons (pe_tup (pa_cons (pv 6) (pa_cons (pv 5) pa_nil))) pa_nil)))
            (pss_one (ps_aug (i := 6) scB.nd rfl (.inl rfl) pe_int ip_add))))
         (Evl.pss_cut (ps_while PassesOwn.never (PW.pt (pw_and (pt_cmpR op_lt (pv 6) (pv 7) (nomark _)) (pw_and1 (pt_cmpR op_ne (pe_op op_mod (pv 7) (pv 2)) pe_int (nomark _)))))
            (pss_cons (ps_aug (i := 7) scB.nd rfl (.inl rfl) pe_int ip_sub)
            (pss_one (ps_expr (pe_bm PySem.F.plainAttrs_list PySem.F.slot_list_append PySem.F.type_list_append mt_append (pv 4) (pa_cons (pe_tup (pa_cons (pv 7) (pa_cons (pv 5) pa_nil))) pa_nil))))))
         (pss_cons (ps_set (i := 6) scB.nd rfl (.inl rfl) (pe_op op_fdiv (pv 6) (pv 2)))
         (pss_cons (ps_set (i := 7) scB.nd rfl (.inl rfl) (pe_op op_fdiv (pv 7) (pv 2)))
         (pss_one (ps_aug (i := 5) scB.nd rfl (.inl rfl) pe_int ip_add)))))))
      (pss_one (ps_ret (pe_op op_cat (pv 3) (pe_revL (pv 4))))))))))), ?_⟩
    refine ⟨Nat.zero_le _, fun fr nfr => ⟨Nat.zero_le _, fun bk nbk => ?_⟩⟩
    have nb : H bk = none := (same_upd nfr).free nbk
    have nfb : fr ≠ bk := ne_of_none (upd_same) nbk
    refine ⟨_, rfl, _, rfl, _, _, rfl, rfl, ?_⟩
    have cst : ∀ lo : Nat, (lo : Int) + 1 = ((lo + 1 : Nat) : Int) := fun lo => by omega
    let R := B p 0 f (l + 1)
    let fm : Nat → Nat → Nat → L2.St := fun v lo hi => [some (.int (f : Int)), some (.int (l : Int)), some (.int (p : Int)), some (.ref fr), some (.ref bk), some (.int (v : Int)), some (.int (lo : Int)), some (V.int (hi : Int))]
    refine while_by (fun σ H' => ∃ v lo hi, σ = fm v lo hi ∧ Inn H fr bk p R (hi - lo) v lo hi H') (fun σ H' => match σ with | [_, _, _, _, _, _, some (.int lo), some (.int hi)] => (hi - lo).toNat | _ => 0) ?_ ?_ ?_
    · refine ⟨0, f, l + 1, ?_, by omega, Nat.le_refl _, (same_upd nfr).trans (same_upd nbk), [], [], [], [], ?_, upd_same, trivial, trivial, ?_⟩
      · show _ = fm 0 f (l + 1)
        rw [show fm 0 f (l + 1) = [some (.int (f : Int)), some (.int (l : Int)), some (.int (p : Int)), some (.ref fr), some (.ref bk), some (.int ((0 : Nat) : Int)), some (.int (f : Int)), some (.int ((l + 1 : Nat) : Int))] from rfl, ← cst]
        rfl
      · rw [upd_ne nfb]; exact upd_same
      · show [] ++ B p 0 f (l + 1) ++ [] = R
        rw [List.append_nil, List.nil_append]
    · rintro σ H1 ⟨v, lo, hi, rfl, I⟩
      refine ⟨_, rfl, _, rfl, _, _, rfl, rfl, _, rfl, ite2 (fun hlt => ?_) (fun hge => ?_)⟩
      · have hlt : (lo : Int) < hi := of_decide_eq_true hlt
        have hd : 0 < hi - lo := by omega
        generalize hdd : hi - lo = d at I hd
        have hmu : ∀ σ', (match fm v lo hi with | [_, _, _, _, _, _, some (.int lo), some (.int hi)] => (hi - lo).toNat | _ => 0) = d := fun _ => by
          show ((hi : Int) - lo).toNat = d
          omega
        -- the first inner while
        refine ⟨fun σ H' => ∃ lo', σ = fm v lo' hi ∧ Inn H fr bk p R d v lo' hi H' ∧ (lo' = hi ∨ lo' % p = 0), ?_, ?_⟩
        · refine while_by (fun σ H' => ∃ lo', σ = fm v lo' hi ∧ Inn H fr bk p R d v lo' hi H') (fun σ H' => match σ with | [_, _, _, _, _, _, some (.int lo), some (.int hi)] => (hi - lo).toNat | _ => 0) ⟨lo, rfl, I⟩ ?_ ?_
          · rintro σ H2 ⟨lo', rfl, I2⟩
            refine ⟨_, rfl, _, rfl, _, _, rfl, rfl, _, rfl, ite2 (fun c => ?_) (fun c => ?_)⟩
            · have c : (lo' : Int) < hi := of_decide_eq_true c
              refine ⟨_, rfl, _, rfl, _, _, rfl, rfl, (by show (0 : Int) < (p : Int); omega), rfl, _, rfl, ite2 (fun c1 => ?_) (fun c1 => ?_)⟩
              · have c1 : (lo' : Int) % p ≠ 0 := dec_ne0.mp c1
                refine ⟨_, rfl, .inl ⟨rfl, _, .of I2.2.2.2.choose_spec.choose_spec.choose_spec.choose_spec.1⟩, _, rfl, _, rfl, (by show 2 ≤ sizeLine; decide), fun t nt => ?_⟩
                obtain ⟨xs, g1, g2, I3⟩ := I2.front nfr nfb (by omega) (by omega) nt
                refine ⟨fr, xs, .ref t, rfl, rfl, g1, small1000 (Nat.le_trans g2 hlen), _, rfl, _, _, rfl, rfl, ⟨⟨lo' + 1, ?_, I3⟩, ?_⟩⟩
                · show _ = [some (V.int (f : Int)), some (V.int (l : Int)), some (V.int (p : Int)), some (V.ref fr), some (V.ref bk), some (V.int (v : Int)), some (V.int ((lo' + 1 : Nat) : Int)), some (V.int (hi : Int))]
                  rw [← cst] <;> rfl
                · show ((hi : Int) - ((lo' : Int) + 1)).toNat < ((hi : Int) - lo').toNat
                  omega
              · have c1 : ¬ ((lo' : Int) % p ≠ 0) := fun z => c1 (dec_ne0.mpr z)
                exact ⟨lo', rfl, I2, .inr (by omega)⟩
            · have c : ¬ ((lo' : Int) < hi) := fun z => c (decide_eq_true z)
              refine iteF ?_
              exact ⟨lo', rfl, I2, .inl (by have := I2.1; omega)⟩
          · exact mo_and (mo_test (mo_op mo_rI0 mo_var mo_var)) (mo_test (mo_op mo_rNe (mo_op mo_rI mo_var mo_var) mo_c))
        · rintro σ H2 ⟨lo2, rfl, I2, z2⟩
          refine ⟨fun σ H' => ∃ hi', σ = fm v lo2 hi' ∧ Inn H fr bk p R d v lo2 hi' H' ∧ (lo2 = hi' ∨ (lo2 % p = 0 ∧ hi' % p = 0)), ?_, ?_⟩
          · refine while_by (fun σ H' => ∃ hi', σ = fm v lo2 hi' ∧ Inn H fr bk p R d v lo2 hi' H' ∧ (lo2 = hi' ∨ lo2 % p = 0)) (fun σ H' => match σ with | [_, _, _, _, _, _, some (.int lo), some (.int hi)] => (hi - lo).toNat | _ => 0) ⟨hi, rfl, I2, z2⟩ ?_ ?_
            · rintro σ H3 ⟨hi', rfl, I3, z3⟩
              refine ⟨_, rfl, _, rfl, _, _, rfl, rfl, _, rfl, ite2 (fun c => ?_) (fun c => ?_)⟩
              · have c : (lo2 : Int) < hi' := of_decide_eq_true c
                have z3' : lo2 % p = 0 := by omega
                refine ⟨_, rfl, _, rfl, _, _, rfl, rfl, (by show (0 : Int) < (p : Int); omega), rfl, _, rfl, ite2 (fun c1 => ?_) (fun c1 => ?_)⟩
                · have c1 : (hi' : Int) % p ≠ 0 := dec_ne0.mp c1
                  refine ⟨_, rfl, _, _, rfl, rfl, ?_⟩
                  refine ⟨_, rfl, .inl ⟨rfl, _, .of I3.2.2.2.choose_spec.choose_spec.choose_spec.choose_spec.2.1⟩, _, rfl, _, rfl, (by show 2 ≤ sizeLine; decide), fun t nt => ?_⟩
                  obtain ⟨xs, g1, g2, I4⟩ := I3.back nb nfb (by omega) z3' (by omega) nt
                  have ec : (hi' : Int) - 1 = ((hi' - 1 : Nat) : Int) := by omega
                  refine ⟨bk, xs, .ref t, rfl, rfl, ?_, small1000 (Nat.le_trans g2 hlen), ⟨⟨hi' - 1, ?_, ?_, .inr z3'⟩, ?_⟩⟩
                  · rw [← g1]
                    unfold kV2
                    rw [← ec] <;> rfl
                  · show _ = [some (V.int (f : Int)), some (V.int (l : Int)), some (V.int (p : Int)), some (V.ref fr), some (V.ref bk), some (V.int (v : Int)), some (V.int (lo2 : Int)), some (V.int ((hi' - 1 : Nat) : Int))]
                    rw [← ec] <;> rfl
                  · unfold kV2 at I4
                    rw [← ec] at I4
                    exact I4
                  · show (((hi' : Int) - 1) - lo2).toNat < ((hi' : Int) - lo2).toNat
                    omega
                · have c1 : ¬ ((hi' : Int) % p ≠ 0) := fun z => c1 (dec_ne0.mpr z)
                  exact ⟨hi', rfl, I3, .inr ⟨z3', by omega⟩⟩
              · have c : ¬ ((lo2 : Int) < hi') := fun z => c (decide_eq_true z)
                refine iteF ?_
                exact ⟨hi', rfl, I3, .inl (by have := I3.1; omega)⟩
            · exact mo_and (mo_test (mo_op mo_rI0 mo_var mo_var)) (mo_test (mo_op mo_rNe (mo_op mo_rI mo_var mo_var) mo_c))
          · rintro σ H3 ⟨hi', rfl, I3, z3⟩
            have hpC : CDiv (lo2 : Int) (p : Int) := ⟨by omega, by omega⟩
            have hpC2 : CDiv (hi' : Int) (p : Int) := ⟨by omega, by omega⟩
            refine ⟨_, rfl, _, rfl, _, _, rfl, rfl, hpC, _, rfl, _, rfl, _, _, rfl, rfl, hpC2, _, rfl, _, _, rfl, rfl, ?_⟩
            obtain ⟨d', hd', I4, e4⟩ := I3.up hp z3 hd
            refine ⟨⟨v + 1, lo2 / p, hi' / p, ?_, ?_⟩, ?_⟩
            · show _ = [some (V.int (f : Int)), some (V.int (l : Int)), some (V.int (p : Int)), some (V.ref fr), some (V.ref bk), some (V.int ((v + 1 : Nat) : Int)), some (V.int ((lo2 / p : Nat) : Int)), some (V.int ((hi' / p : Nat) : Int))]
              rw [← cst, Int.natCast_ediv, Int.natCast_ediv] <;> rfl
            · rw [e4]
              exact I4
            · show (((hi' : Int) / p) - ((lo2 : Int) / p)).toNat < ((hi : Int) - lo).toNat
              rw [← Int.natCast_ediv, ← Int.natCast_ediv]
              omega
      · have hge : ¬ ((lo : Int) < hi) := fun z => hge (decide_eq_true z)
        obtain ⟨i1, i2, s1, ts, us, ks, ms, hf, hb, tf, tb, e⟩ := I
        have l1 : ts.length + us.length ≤ 1000 := by
          have e2 := congrArg List.length e
          rw [List.length_append, List.length_append, List.length_reverse, ← tf.len, ← tb.len] at e2
          have : R.length ≤ 1000 := hlen
          omega
        refine ⟨_, rfl, _, rfl, bk, us.map V.ref, rfl, .of hb, fun c nc => ?_⟩
        have ncf : fr ≠ c := ne_of_none hf nc
        refine ⟨fr, c, ts.map V.ref, (us.map V.ref).reverse, rfl, rfl, by rw [upd_ne ncf]; exact hf, upd_same, ?_, fun q nq => ?_⟩
        · rw [List.length_reverse, List.length_map, List.length_map]
          exact Nat.le_of_lt (small1000 l1)
        · have s2 : Same H1 (upd H1 c (.lst (us.map V.ref).reverse)) := same_upd nc
          have s3 : Same H1 (upd (upd H1 c (.lst (us.map V.ref).reverse)) q (.lst (ts.map V.ref ++ (us.map V.ref).reverse))) := s2.trans (same_upd nq)
          refine k q (ts ++ us.reverse) _ (s1.trans s3) ((s1.trans s2).free nq) ?_ ?_
          · rw [upd_same, List.map_append, List.map_reverse]
          · show Tups _ _ R
            rw [← e, B_end (by omega), List.append_nil]
            exact Tups.mono (fun a b z => s3 _ _ z) (Tups.app tb.rev tf)
    · exact mo_test (mo_op mo_rI0 mo_var mo_var)
end
end P15

namespace P15
open PySem PySem.Spec PyProof.Rows L2 HG HB
def Keep (p : Addr) (H H' : Hp) : Prop := ∀ b o, H b = some o → b ≠ p → H' b = some o
theorem Keep.trans {p : Addr} {H H1 H2 : Hp} (a : Keep p H H1) (b : Keep p H1 H2) : Keep p H H2 := fun c o e n => b c o (a c o e n) n
theorem Keep.upd {p : Addr} {H : Hp} {o : HO} : Keep p H (upd H p o) := fun b u e n => by rw [upd_ne n]; exact e
theorem Keep.same {p : Addr} {H H' : Hp} (s : Same H H') : Keep p H H' := fun b u e _ => s b u e
def spNumber : Sp := fun vs H Q _ => ∃ (p : Addr) (c : Nat), vs = [.ref p, .int (c : Int)] ∧ Bag H p ∧ 2 ≤ c ∧ c ≤ 4 ∧ ∀ (n : Nat) (H' : Hp), n < 2 ^ 300 → Bag H' p → Keep p H H' → Q (.int (n : Int)) H'
theorem at2 {xs : List V} {a b : V} {r : Int} (h0 : 0 ≤ r) (h1 : r < 2) (e : xs = [a, b]) : ∃ v, atI xs r = some v ∧ (v = a ∨ v = b) := by
  subst e
  have : r = 0 ∨ r = 1 := by omega
  rcases this with rfl | rfl
  · exact ⟨a, rfl, .inl rfl⟩
  · exact ⟨b, rfl, .inr rfl⟩
theorem at3 {xs : List V} {a b c : V} {r : Int} (h0 : 0 ≤ r) (h1 : r < 3) (e : xs = [a, b, c]) : ∃ v, atI xs r = some v ∧ (v = a ∨ v = b ∨ v = c) := by
  subst e
  have : r = 0 ∨ r = 1 ∨ r = 2 := by omega
  rcases this with rfl | rfl | rfl
  · exact ⟨a, rfl, .inl rfl⟩
  · exact ⟨b, rfl, .inr (.inl rfl)⟩
  · exact ⟨c, rfl, .inr (.inr rfl)⟩
theorem pow4 {c m : Nat} (hc : c ≤ 4) (hm : m ≤ 100) : c ^ m ≤ 2 ^ 200 := by
  have h1 : c ^ m ≤ 4 ^ m := Nat.pow_le_pow_left hc m
  have h2 : 4 ^ m ≤ 4 ^ 100 := Nat.pow_le_pow_right (by decide) hm
  have h3 : 4 ^ 100 = 2 ^ 200 := by decide +kernel
  omega
section
variable {P : Program} {w : World} {K : PySem.W.Frag} {mg : Str → Option Value} {base : Heap}
theorem scN : FnScope ["bag", "pace", "way", "size"] ["bag", "pace"] (defScope sNumber) := ⟨rfl, rfl, rfl, by decide +kernel, rfl, by decide +kernel, by decide +kernel⟩
theorem ok_number {f fT fS : Addr} {fd fdT fdS : FuncData} (F : Fun K "_law_number" "_law_number" sNumber f fd) (FT : Fun K "_law_take" "_law_take" sTake fT fdT) (bT : Binds K fdT ["bag", "many"] []) (gT : mg "_law_take" = some (.ref fT))
    (FS : Fun K "_law_size" "_law_size" sSize fS fdS) (bS : Binds K fdS ["pace", "many"] []) (gS : mg "_law_size" = some (.ref fS)) (ml : mg "len" = none) (mr : mg "range" = none) (mm : mg "max" = none) : FnOk P w K mg base CX0 2 f fd ["bag", "pace"] spNumber := by
  have GT : FnOk P w K mg base CX0 1 fT fdT ["bag", "many"] spTake := ok_take FT ml
  have GS : FnOk P w K mg base CX0 1 fS fdS ["pace", "many"] spSize := ok_size FS mr
  refine F.ok scN (fun vs H Q E h => ?_) (fun cdv A outer s H vs Q E hr h => ?_)
  · obtain ⟨p, m, rfl, _⟩ := h
    rfl
  · obtain ⟨p, c, rfl, hB, hc2, hc4, k⟩ := h
    refine ⟨_, (pss_cons (ps_set (i := 2) scN.nd rfl (.inl rfl) (pe_call GT hr (by rfl) gT FT.kp bT .nil pass0 (pa_cons (pv 0) (pa_cons pe_int pa_nil))))
      (pss_cons (ps_if (pt_cmpR op_eq (pv 2) pe_int (nomark _))
         (pss_one (ps_ret (pe_call GT hr (by rfl) gT FT.kp bT .nil pass0 (pa_cons (pv 0) (pa_cons (pe_op op_add (pe_ix ix_list (pe_lst (pa_cons (pe_op op_pow pe_int pe_int) (pa_cons (pe_op op_mulW (pe_op op_pow pe_int pe_int) (pe_op op_pow pe_int pe_int)) pa_nil))) (pe_call GT hr (by rfl) gT FT.kp bT .nil pass0 (pa_cons (pv 0) (pa_cons pe_int pa_nil))) (fun _ _ => rfl)) pe_int) pa_nil)))))
         pss_nil)
      (pss_cons (ps_set (i := 3) scN.nd rfl (.inl rfl) (pe_call GS hr (by rfl) gS FS.kp bS .nil pass0 (pa_cons (pv 1) (pa_cons (pe_call GT hr (by rfl) gT FT.kp bT .nil pass0 (pa_cons (pv 0) (pa_cons pe_int pa_nil))) pa_nil))))
      (pss_one (ps_ret (pe_callB (call_max2 rfl) (by rfl) mm (by decide +kernel) (pa_cons pe_int (pa_cons (pe_op op_add (pe_op op_mulW (pv 3) (pe_call GT hr (by rfl) gT FT.kp bT .nil pass0 (pa_cons (pv 0) (pa_cons pe_int pa_nil)))) (pe_op op_mul (pe_ix ix_list (pe_lst (pa_cons pe_int (pa_cons pe_int (pa_cons (pe_un un_neg pe_int) pa_nil)))) (pe_call GT hr (by rfl) gT FT.kp bT .nil pass0 (pa_cons (pv 0) (pa_cons pe_int pa_nil))) (fun _ _ => rfl)) (pe_call GT hr (by rfl) gT FT.kp bT .nil pass0 (pa_cons (pv 0) (pa_cons pe_int pa_nil))))) pa_nil)))))))), ?_⟩
    refine ⟨_, rfl, p, 3, rfl, hB, by decide, by decide, fun r xs r0 r1 hB1 => ?_⟩
    have k1 : Keep p H (upd H p (.lst xs)) := .upd
    generalize upd H p (.lst xs) = H1 at *
    refine ⟨_, rfl, rfl, _, rfl, ite2 (fun _ => ?_) (fun _ => ?_)⟩
    · refine ⟨_, rfl, _, _, rfl, rfl, ⟨by decide, by decide, by decide⟩, _, _, rfl, rfl, ⟨by decide, by decide, by decide⟩, _, _, rfl, rfl, ⟨by decide, by decide, by decide⟩, _, _, rfl, rfl, wide_mul (a := 200) (b := 200) (by decide +kernel) (by decide +kernel) (by decide) (by decide) (by decide), by show 2 ≤ sizeLine; decide, fun L nL => ?_⟩
      have hB2 : Bag (upd H1 L (.lst [.int (10 ^ (40 : Int).toNat), .int (10 ^ (40 : Int).toNat * 10 ^ (40 : Int).toNat)])) p := hB1.same (same_upd nL)
      have hL : (upd H1 L (.lst [.int (10 ^ (40 : Int).toNat), .int (10 ^ (40 : Int).toNat * 10 ^ (40 : Int).toNat)])) L = some (.lst [.int (10 ^ (40 : Int).toNat), .int (10 ^ (40 : Int).toNat * 10 ^ (40 : Int).toNat)]) := upd_same
      have k2 := k1.trans (.same (same_upd (o := .lst [.int (10 ^ (40 : Int).toNat), .int (10 ^ (40 : Int).toNat * 10 ^ (40 : Int).toNat)]) nL))
      generalize upd H1 L (.lst [.int (10 ^ (40 : Int).toNat), .int (10 ^ (40 : Int).toNat * 10 ^ (40 : Int).toNat)]) = H2 at *
      have nLp : L ≠ p := by
        obtain ⟨ys, hy⟩ := hB1.lst
        exact fun z => by rw [z, hy] at nL; cases nL
      refine ⟨_, rfl, p, 2, rfl, hB2, by decide, by decide, fun r' xs' r0' r1' hB3 => ?_⟩
      obtain ⟨v, hv, hv2⟩ := at2 r0' r1' rfl
      refine ⟨L, _, r', v, rfl, rfl, .of (by rw [upd_ne nLp]; exact hL), hv, ?_⟩
      have fin : ∀ x : Int, 0 ≤ x → x < 2 ^ 290 → v = .int x → ∃ i j, v = V.int i ∧ V.int 1 = V.int j ∧ ∃ (p' : Addr) (m : Int), [V.ref p, V.int (i + j)] = [.ref p', .int m] ∧ Bag (upd H2 p (.lst xs')) p' ∧ 0 < m ∧ m.natAbs < 2 ^ 1000 ∧ ∀ (r : Int) (xs : List V), 0 ≤ r → r < m → Bag (upd (upd H2 p (.lst xs')) p' (.lst xs)) p' → Q (.int r) (upd (upd H2 p (.lst xs')) p' (.lst xs)) := by
        intro x x0 x1 ex
        have hb : (2 : Nat) ^ 290 ≤ 2 ^ 1000 := Nat.pow_le_pow_right (by decide) (by decide)
        have hb2 : (2 : Int) ^ 290 = ((2 ^ 290 : Nat) : Int) := by rw [Int.natCast_pow]; rfl
        have hb3 : (2 : Nat) ^ 290 < 2 ^ 300 := by decide +kernel
        refine ⟨x, 1, ex, rfl, p, x + 1, rfl, hB3, by omega, by omega, fun r'' xs'' s0 s1 hB4 => ?_⟩
        have e : r'' = ((r''.toNat : Nat) : Int) := by omega
        rw [e]
        exact k r''.toNat _ (by omega) hB4 ((k2.trans .upd).trans .upd)
      rcases hv2 with e | e
      · exact fin _ (by decide +kernel) (by decide +kernel) e
      · exact fin _ (by decide +kernel) (by decide +kernel) e
    · refine ⟨_, rfl, _, rfl, p, 60, rfl, hB1, by decide, by decide, fun r xs r0 r1 hB2 => ?_⟩
      have k2 := k1.trans (.upd (p := p) (o := .lst xs))
      generalize upd H1 p (.lst xs) = H2 at *
      refine ⟨c, r.toNat, by rw [Int.toNat_of_nonneg r0]; rfl, by omega, by omega, ?_⟩
      have hs : c ^ r.toNat ≤ 2 ^ 200 := pow4 hc4 (by omega)
      generalize c ^ r.toNat = sz at *
      refine ⟨_, rfl, _, rfl, p, 6, rfl, hB2, by decide, by decide, fun r2 xs2 r20 r21 hB3 => ?_⟩
      have k3 := k2.trans (.upd (p := p) (o := .lst xs2))
      generalize upd H2 p (.lst xs2) = H3 at *
      have hb1 : (2 : Nat) ^ 200 < 2 ^ 201 := by decide +kernel
      have hb4 : (2 : Nat) ^ 200 * 6 + 6 < 2 ^ 300 := by decide +kernel
      refine ⟨_, _, rfl, rfl, wide_mul (a := 201) (b := 3) (by omega) (by omega) (by decide) (by decide) (by decide), ?_⟩
      refine ⟨_, rfl, by show 3 ≤ sizeLine; decide, fun L nL => ?_⟩
      refine ⟨_, rfl, p, 3, rfl, hB3.same (same_upd nL), by decide, by decide, fun r3 xs3 r30 r31 hB4 => ?_⟩
      have nLp : L ≠ p := by
        obtain ⟨ys, hy⟩ := hB3.lst
        exact fun z => by rw [z, hy] at nL; cases nL
      obtain ⟨v, hv, hv2⟩ := at3 r30 r31 rfl
      refine ⟨L, _, r3, v, rfl, rfl, .of (by rw [upd_ne nLp, upd_same]), hv, ?_⟩
      refine ⟨_, rfl, p, 2, rfl, hB4, by decide, by decide, fun r4 xs4 r40 r41 hB5 => ?_⟩
      have hmul : r2 * (sz : Int) ≤ 5 * sz := Int.mul_le_mul_of_nonneg_right (by omega) (by omega)
      have hmul0 : 0 ≤ (sz : Int) * r2 := Int.mul_nonneg (by omega) r20
      rw [Int.mul_comm] at hmul
      obtain ⟨y, hy⟩ : ∃ y, y = (sz : Int) * r2 := ⟨_, rfl⟩
      rw [← hy] at hmul hmul0
      have r4' : r4 = 0 ∨ r4 = 1 := by omega
      have fin : ∀ x : Int, (x = 0 ∨ x = 1 ∨ x = -1) → v = .int x → ∃ i j, v = V.int i ∧ V.int r4 = V.int j ∧ CMul i j ∧ ∃ i' j', V.int ((sz : Int) * r2) = V.int i' ∧ V.int (i * j) = V.int j' ∧ ∃ i2 j2, [V.int 0, V.int (i' + j')] = [V.int i2, V.int j2] ∧ Q (.int (if j2 > i2 then j2 else i2)) (upd (upd (upd H3 L (.lst [.int 0, .int 1, .int (-1)])) p (.lst xs3)) p (.lst xs4)) := by
        intro x hx ex
        rw [← hy]
        refine ⟨x, r4, ex, rfl, .inl ⟨by omega, by omega⟩, _, _, rfl, rfl, _, _, rfl, ?_⟩
        have hz : x * r4 ≤ 1 := by rcases r4' with rfl | rfl <;> omega
        have hz2 : -1 ≤ x * r4 := by rcases r4' with rfl | rfl <;> omega
        generalize x * r4 = z at *
        have e : (if y + z > 0 then y + z else 0) = (((y + z).toNat : Nat) : Int) := by split <;> omega
        rw [e]
        exact k _ _ (by omega) hB5 (((k3.trans (.same (same_upd nL))).trans .upd).trans .upd)
      rcases hv2 with e | e | e
      · exact fin _ (.inl rfl) e
      · exact fin _ (.inr (.inl rfl)) e
      · exact fin _ (.inr (.inr rfl)) e
end
end P15

namespace P15
open PySem PySem.Spec PyProof.Rows L2 HG HB
def spLaw (K : PySem.W.Frag) : Sp := fun vs H Q _ => ∃ (a : Addr) (ns : List Int), vs = [.ref a] ∧ SqL K H a (ns.map V.int) ∧ ns.length ≤ 63 ∧ ∀ H', Q (.bl true) H'
theorem kD_eqv (k : Nat × Nat) : SeqAt.shaped (.list [kD k]) = true := by
  unfold kD
  rfl
theorem as_val {g : TG} {v v' : V} {σ : L2.St} {H : Hp} {Q : L2.St → Hp → Prop} (e : v = v') (h : g v' σ H Q) : g v σ H Q := e ▸ h
theorem as_v2 {F : V → Hp → Prop} {v v' : V} {H : Hp} (e : v = v') (h : F v' H) : F v H := e ▸ h
section
variable {P : Program} {w : World} {K : PySem.W.Frag} {mg : Str → Option Value} {base : Heap}
theorem scL : FnScope ["script", "bag", "turn", "pace", "one", "other", "first", "last", "told", "here", "number", "level", "size", "wider", "figures", "rest", "many"] ["script"] (defScope sLaw) := ⟨rfl, rfl, rfl, by decide +kernel, rfl, by decide +kernel, by decide +kernel⟩
theorem ok_law {f fG fT fS fN fB : Addr} {fd fdG fdT fdS fdN fdB : FuncData} (F : Fun K "law" "law" sLaw f fd)
    (FG : Fun K "_law_bag" "_law_bag" sBag fG fdG) (bG : Binds K fdG ["script"] []) (gG : mg "_law_bag" = some (.ref fG))
    (FT : Fun K "_law_take" "_law_take" sTake fT fdT) (bT : Binds K fdT ["bag", "many"] []) (gT : mg "_law_take" = some (.ref fT))
    (FS : Fun K "_law_size" "_law_size" sSize fS fdS) (bS : Binds K fdS ["pace", "many"] []) (gS : mg "_law_size" = some (.ref fS))
    (FN : Fun K "_law_number" "_law_number" sNumber fN fdN) (bN : Binds K fdN ["bag", "pace"] []) (gN : mg "_law_number" = some (.ref fN))
    (FB : Fun K "blocks" "blocks" sBlocks fB fdB) (bB : Binds K fdB ["first", "last", "pace"] []) (gB : mg "blocks" = some (.ref fB))
    (ma : mg "abs" = none) (ml : mg "len" = none) (mr : mg "range" = none) (mx : mg "max" = none) (mi : mg "min" = none) : FnOk P w K mg base CX0 3 f fd ["script"] (spLaw K) := by
  have GG : FnOk P w K mg base CX0 1 fG fdG ["script"] (spBag K) := ok_bag FG ma
  have GT : FnOk P w K mg base CX0 1 fT fdT ["bag", "many"] spTake := ok_take FT ml
  have GS : FnOk P w K mg base CX0 1 fS fdS ["pace", "many"] spSize := ok_size FS mr
  have GN : FnOk P w K mg base CX0 2 fN fdN ["bag", "pace"] spNumber := ok_number FN FT bT gT FS bS gS ml mr mx
  have GB : FnOk P w K mg base CX0 1 fB fdB ["first", "last", "pace"] spBlocks := ok_blocks FB
  refine F.ok scL (fun vs H Q E h => ?_) (fun cdv A outer s H vs Q E hr h => ?_)
  · obtain ⟨a, ns, rfl, _⟩ := h
    rfl
  · obtain ⟨a, ns, rfl, hS, hl, k⟩ := h
    have hr1 : Room 1 _ := hr.mono (by decide)
    refine ⟨_, (pss_cons (ps_set (i := 1) scL.nd rfl (.inl rfl) (pe_call GG hr1 (by rfl) gG FG.kp bG .nil pass0 (pa_cons (pv 0) pa_nil)))
      (pss_cons (ps_for PassesOwn.never rfl (pi_range1 rfl mr (pa_cons pe_int pa_nil)) (pg_name (i := 2) scL.nd rfl (.inl rfl))
         (pss_cons (ps_set (i := 3) scL.nd rfl (.inl rfl) (pe_op op_add pe_int (pe_call GT hr1 (by rfl) gT FT.kp bT .nil pass0 (pa_cons (pv 1) (pa_cons pe_int pa_nil)))))
         (pss_cons (ps_par (i := 4) (j := 5) (by rfl) scL.nd rfl rfl (by decide) rfl rfl (pa_cons (pe_call GN hr (by rfl) gN FN.kp bN .nil pass0 (pa_cons (pv 1) (pa_cons (pv 3) pa_nil))) (pa_cons (pe_call GN hr (by rfl) gN FN.kp bN .nil pass0 (pa_cons (pv 1) (pa_cons (pv 3) pa_nil))) pa_nil)) (by rfl))
         (Evl.pss_cut (ps_par (i := 6) (j := 7) (by rfl) scL.nd rfl rfl (by decide) rfl rfl (pa_cons (pe_callB (call_min2 rfl) (by rfl) mi (by decide +kernel) (pa_cons (pv 4) (pa_cons (pv 5) pa_nil))) (pa_cons (pe_callB (call_max2 rfl) (by rfl) mx (by decide +kernel) (pa_cons (pv 4) (pa_cons (pv 5) pa_nil))) pa_nil)) (by rfl))
         (Evl.pss_cut (ps_set (i := 8) scL.nd rfl (.inl rfl) (pe_call GB hr1 (by rfl) gB FB.kp bB .nil pass0 (pa_cons (pv 6) (pa_cons (pv 7) (pa_cons (pv 3) pa_nil)))))
         (pss_cons (ps_set (i := 9) scL.nd rfl (.inl rfl) (pv 6))
         (Evl.pss_cut (ps_for PassesOwn.never rfl (pi_list (pv 8)) (pg_tup rfl (pgs_cons (pg_name (i := 10) scL.nd rfl (.inl rfl)) (pgs_cons (pg_name (i := 11) scL.nd rfl (.inl rfl)) pgs_nil)))
            (pss_cons (ps_set (i := 12) scL.nd rfl (.inl rfl) (pe_call GS hr1 (by rfl) gS FS.kp bS .nil pass0 (pa_cons (pv 3) (pa_cons (pe_callB (call_min2 rfl) (by rfl) mi (by decide +kernel) (pa_cons (pv 11) (pa_cons pe_int pa_nil))) pa_nil))))
            (pss_cons (ps_if (pt_cmpR op_ne (pe_op op_mulW (pv 10) (pv 12)) (pv 9) (nomark _))
               (pss_one (ps_ret pe_bl))
               pss_nil)
            (pss_cons (ps_set (i := 9) scL.nd rfl (.inl rfl) (pe_op op_add (pv 9) (pv 12)))
            (pss_cons (ps_set (i := 13) scL.nd rfl (.inl rfl) (pe_op op_mulW (pe_op op_mul (pe_op op_fdiv (pv 10) (pv 3)) (pv 3)) (pv 12)))
            (pss_one (ps_if (PW.pt (pw_and (pt_cmpR op_le (pv 6) (pv 13) (nomark _)) (pw_and1 (pt_cmpR op_le (pe_op op_sub (pe_op op_add (pv 13) (pe_op op_mul (pv 3) (pv 12))) pe_int) (pv 7) (nomark _)))))
               (pss_one (ps_ret pe_bl))
               pss_nil)))))))
         (pss_cons (ps_par (i := 14) (j := 15) (by rfl) scL.nd rfl rfl (by decide) rfl rfl (pa_cons pe_int (pa_cons (pv 7) pa_nil)) (by rfl))
         (Evl.pss_cut (ps_while PassesOwn.never (pt_cmpR op_ge (pv 15) (pv 3) (nomark _))
            (pss_one (ps_par (i := 14) (j := 15) (by rfl) scL.nd rfl rfl (by decide) rfl rfl (pa_cons (pe_op op_add (pv 14) pe_int) (pa_cons (pe_op op_fdiv (pv 15) (pv 3)) pa_nil)) (by rfl))))
         (pss_cons (ps_if (PW.pt (pw_or (pt_cmpR op_ne (pv 9) (pe_op op_add (pv 7) pe_int) (nomark _)) (pw_or1 (pt_cmpR op_gt (pe_callB call_len_seq (by rfl) ml PySem.boot_len (pa_cons (pv 8) pa_nil)) (pe_op op_add (pe_op op_mul (pe_op op_mul pe_int (pe_op op_sub (pv 3) pe_int)) (pv 14)) pe_int) (nomark _)))))
            (pss_one (ps_ret pe_bl))
            pss_nil)
         (pss_cons (ps_set (i := 16) scL.nd rfl (.inl rfl) (pe_call GT hr1 (by rfl) gT FT.kp bT .nil pass0 (pa_cons (pv 1) (pa_cons pe_int pa_nil))))
         (pss_one (ps_if (pt_cmpR (op_neD hr.units) (pe_call GB hr1 (by rfl) gB FB.kp bB .nil pass0 (pa_cons pe_int (pa_cons (pe_op op_sub (pe_call GS hr1 (by rfl) gS FS.kp bS .nil pass0 (pa_cons (pv 3) (pa_cons (pv 16) pa_nil))) pe_int) (pa_cons (pv 3) pa_nil)))) (pe_lst (pa_cons (pe_tup (pa_cons pe_int (pa_cons (pv 16) pa_nil))) pa_nil)) (nomark _))
            (pss_one (ps_ret pe_bl))
            pss_nil)))))))))))))
      (pss_one (ps_ret pe_bl)))), ?_⟩
    refine ⟨_, rfl, a, ns, rfl, hS, hl, fun p H1 s1 np hB => ?_⟩
    refine ⟨5, rfl, by decide, by decide, ?_⟩
    refine for_range (n := 5) (fun i σ H' => ∃ o2 o3 o4 o5 o6 o7 o8 o9 o10 o11 o12 o13 o14 o15 o16 : Option V, σ = [some (.ref a), some (.ref p), o2, o3, o4, o5, o6, o7, o8, o9, o10, o11, o12, o13, o14, o15, o16] ∧ Bag H' p) ⟨_, _, _, _, _, _, _, _, _, _, _, _, _, _, _, rfl, hB⟩ ?_ ?_
    · rintro i σ H2 hi ⟨o2, o3, o4, o5, o6, o7, o8, o9, o10, o11, o12, o13, o14, o15, o16, rfl, hB⟩
      refine ⟨_, rfl, p, 3, rfl, hB, by decide, by decide, fun r xs r0 r1 hB => ?_⟩
      obtain ⟨c, hc⟩ : ∃ c : Nat, (2 : Int) + r = (c : Int) := ⟨(2 + r).toNat, by omega⟩
      have hc2 : 2 ≤ c := by omega
      have hc4 : c ≤ 4 := by omega
      refine ⟨_, _, rfl, rfl, as_val (congrArg V.int hc) ?_⟩
      -- one, other
      refine ⟨_, rfl, _, rfl, p, c, rfl, hB, hc2, hc4, fun n1 H3 hn1 hB _ => ?_⟩
      refine ⟨_, rfl, _, rfl, p, c, rfl, hB, hc2, hc4, fun n2 H4 hn2 hB _ => ?_⟩
      refine ⟨_, _, rfl, ?_⟩
      -- first, last
      refine ⟨fun σ H' => H' = H4 ∧ ∃ lo hi : Nat, lo ≤ hi ∧ hi < 2 ^ 300 ∧ σ = [some (.ref a), some (.ref p), some (.int (0 + (i : Int))), some (.int (c : Int)), some (.int (n1 : Int)), some (.int (n2 : Int)), some (.int (lo : Int)), some (.int (hi : Int)), o8, o9, o10, o11, o12, o13, o14, o15, o16], ?_, ?_⟩
      · refine ⟨_, rfl, _, rfl, _, _, rfl, _, rfl, _, rfl, _, _, rfl, _, _, rfl, rfl, ?_⟩
        by_cases z : (n2 : Int) < n1
        · have z2 : ¬ ((n2 : Int) > n1) := by omega
          rw [if_pos z, if_neg z2]
          exact ⟨n2, n1, by omega, hn1, rfl⟩
        · rw [if_neg z]
          by_cases z2 : (n2 : Int) > n1
          · rw [if_pos z2]
            exact ⟨n1, n2, by omega, hn2, rfl⟩
          · rw [if_neg z2]
            exact ⟨n1, n1, by omega, hn1, rfl⟩
      rintro σ H4 ⟨rfl, lo, hi, hle, hhi3, rfl⟩
      -- told = blocks(first, last, pace)
      have hplen : ∀ n, hi + 1 ≤ c ^ (n + 1) → (B c 0 lo (hi + 1)).length ≤ 2 * (c - 1) * (n + 1) + 1 := fun n hn => B_len' hc2 n (by omega) hn
      have hlen : (B c 0 lo (hi + 1)).length ≤ 1000 := by
        have q : c = 2 ∨ c = 3 ∨ c = 4 := by omega
        have p2 : (2 : Nat) ^ 300 < 2 ^ (300 + 1) := by decide +kernel
        have p3 : (2 : Nat) ^ 300 < 3 ^ (200 + 1) := by decide +kernel
        have p4 : (2 : Nat) ^ 300 < 4 ^ (150 + 1) := by decide +kernel
        rcases q with rfl | rfl | rfl
        · have := hplen 300 (by omega); omega
        · have := hplen 200 (by omega); omega
        · have := hplen 150 (by omega); omega
      have hch : Chain c (B c 0 lo (hi + 1)) lo (hi + 1) := by
        have := B_chain hc2 (v := 0) (show lo ≤ hi + 1 by omega)
        simpa using this
      have hbig := hch.le
      have hwd := B_wide0 hc2 (show lo ≤ hi + 1 by omega)
      refine ⟨fun σ H5 => ∃ (q : Addr) (ts : List Addr), Bag H5 p ∧ H5 q = some (.lst (ts.map V.ref)) ∧ Tups H5 ts (B c 0 lo (hi + 1)) ∧ σ = [some (.ref a), some (.ref p), some (.int (0 + (i : Int))), some (.int (c : Int)), some (.int (n1 : Int)), some (.int (n2 : Int)), some (.int (lo : Int)), some (.int (hi : Int)), some (.ref q), o9, o10, o11, o12, o13, o14, o15, o16], ?_, ?_⟩
      · refine ⟨_, rfl, _, rfl, _, rfl, lo, hi, c, rfl, hle, hc2, hc4, hlen, fun q ts H5 s5 nq hq ht => ?_⟩
        exact ⟨q, ts, hB.same s5, hq, ht, rfl⟩
      rintro σ H5 ⟨q, ts, hB, hq, ht, rfl⟩
      generalize hks : B c 0 lo (hi + 1) = ks at *
      refine ⟨_, rfl, ?_⟩
      let fm : Nat → Option V → Option V → Option V → Option V → L2.St := fun x o10 o11 o12 o13 => [some (.ref a), some (.ref p), some (.int (0 + (i : Int))), some (.int (c : Int)), some (.int (n1 : Int)), some (.int (n2 : Int)), some (.int (lo : Int)), some (.int (hi : Int)), some (.ref q), some (.int (x : Int)), o10, o11, o12, o13, o14, o15, o16]
      refine ⟨fun σ H' => H' = H5 ∧ ∃ (o10 o11 o12 o13 : Option V), σ = fm (hi + 1) o10 o11 o12 o13, ?_, ?_⟩
      refine ⟨_, rfl, q, rfl, ⟨_, .of hq⟩, ?_⟩
      refine for_list (K := K) (a := q) (xs := ts.map V.ref) (fun j σ H' => H' = H5 ∧ ∃ (x : Nat) (o10 o11 o12 o13 : Option V), σ = fm x o10 o11 o12 o13 ∧ Chain c (ks.drop j) x (hi + 1)) ?_ ?_ ?_ ?_
      · refine ⟨rfl, lo, o10, o11, o12, o13, rfl, ?_⟩
        rw [List.drop_zero]
        exact hch
      · rintro j σ H6 _ ⟨rfl, _⟩
        exact .of hq
      · rintro j v σ H6 hj ⟨rfl, x, u10, u11, u12, u13, rfl, hcx⟩
        obtain ⟨t, ht1, rfl⟩ : ∃ t, ts[j]? = some t ∧ v = V.ref t := by
          rw [List.getElem?_map] at hj
          cases e : ts[j]? with
          | none => rw [e] at hj; cases hj
          | some t => rw [e] at hj; exact ⟨t, rfl, (Option.some.inj hj).symm⟩
        obtain ⟨⟨aa, kk⟩, hk1, hk2⟩ := ht.get ht1
        have hmem := List.mem_of_getElem? hk1
        have hb := (hbig.2 _ hmem).2
        have hw := hwd _ hmem
        have hdrop : ks.drop j = (aa, kk) :: ks.drop (j + 1) := by
          have hjl := (List.getElem?_eq_some_iff.mp hk1).1
          rw [List.drop_eq_getElem_cons hjl]
          congr 1
          exact (List.getElem?_eq_some_iff.mp hk1).2
        rw [hdrop] at hcx
        obtain ⟨ex, hcx⟩ : x = aa * c ^ kk ∧ Chain c (ks.drop (j + 1)) (x + c ^ kk) (hi + 1) := by
          cases hcx with
          | cons h => exact ⟨rfl, h⟩
        have hb : aa * c ^ kk + c ^ kk ≤ hi + 1 := hb
        have hkk : kk ≤ 300 := by
          apply Nat.le_of_not_lt
          intro z
          have h1 : 2 ^ 301 ≤ 2 ^ kk := Nat.pow_le_pow_right (by decide) z
          have h2 : 2 ^ kk ≤ c ^ kk := Nat.pow_le_pow_left hc2 kk
          omega
        have haa : aa ≤ aa * c ^ kk := Nat.le_mul_of_pos_right _ (Nat.pow_pos (by omega))
        refine ⟨t, _, rfl, .of hk2, rfl, _, _, rfl, _, _, rfl, rfl, ?_⟩
        -- size
        have hmin : ∀ z : Int, z = (kk : Int) → (if (300 : Int) < z then 300 else z) = (kk : Int) := fun z hz => by rw [hz]; split <;> omega
        refine ⟨_, rfl, _, rfl, _, _, rfl, c, kk, congrArg (fun z => [V.int (c : Int), V.int z]) (hmin _ rfl), by omega, by omega, ?_⟩
        have hsz : c ^ kk ≤ 2 ^ 300 := by omega
        have ha300 : aa < 2 ^ 301 := by omega
        have hax : (aa : Int) * ((c ^ kk : Nat) : Int) = (x : Int) := by rw [← Int.natCast_mul, ← ex]
        -- if number * size != here
        refine ⟨_, rfl, _, rfl, _, _, rfl, rfl, wide_mul (a := 301) (b := 301) (by omega) (by omega) (by decide) (by decide) (by decide), _, rfl, rfl, _, rfl, iteNS (congrArg V.int hax) ?_⟩
        -- here = here + size; wider
        refine ⟨_, rfl, _, rfl, _, _, rfl, rfl, ?_⟩
        have hcd : CDiv (aa : Int) (c : Int) := ⟨by omega, by omega⟩
        have hq1 : (aa : Int) / (c : Int) * (c : Int) = ((aa / c * c : Nat) : Int) := by rw [← Int.natCast_ediv, ← Int.natCast_mul]
        have hq2 : aa / c * c ≤ aa := Nat.div_mul_le_self aa c
        refine ⟨_, rfl, _, rfl, _, _, rfl, rfl, hcd, _, rfl, _, _, rfl, rfl, .inr ⟨by omega, by omega⟩, _, rfl, _, _, rfl, rfl, wide_mul (a := 301) (b := 301) (by rw [hq1]; omega) (by omega) (by decide) (by decide) (by decide), ?_⟩
        have hwi : (aa : Int) / (c : Int) * (c : Int) * ((c ^ kk : Nat) : Int) = ((aa / c * c ^ (kk + 1) : Nat) : Int) := by
          rw [hq1, ← Int.natCast_mul, Nat.mul_assoc, Nat.mul_comm c, ← Nat.pow_succ]
        -- if first <= wider and ..
        have hps : (c : Int) * ((c ^ kk : Nat) : Int) = ((c ^ (kk + 1) : Nat) : Int) := by rw [← Int.natCast_mul, Nat.mul_comm, ← Nat.pow_succ]
        have hw : aa / c * c ^ (kk + 1) < lo ∨ hi + 1 < (aa / c + 1) * c ^ (kk + 1) := hw
        rw [Nat.succ_mul] at hw
        have fin : ∀ (D : L2.St → Hp → Prop), (D = fun σ H' => H' = H6 ∧ ∃ (x : Nat) (o10 o11 o12 o13 : Option V), σ = fm x o10 o11 o12 o13 ∧ Chain c (ks.drop (j + 1)) x (hi + 1)) → D (fm (x + c ^ kk) (some (.int (aa : Int))) (some (.int (kk : Int))) (some (.int ((c ^ kk : Nat) : Int))) (some (.int ((aa : Int) / (c : Int) * (c : Int) * ((c ^ kk : Nat) : Int))))) H6 := by
          rintro _ rfl
          exact ⟨rfl, _, _, _, _, _, rfl, hcx⟩
        refine ⟨_, rfl, _, rfl, _, _, rfl, rfl, _, rfl, ite2 (fun h1 => ?_) (fun h1 => ?_)⟩
        · refine ⟨_, rfl, _, rfl, _, rfl, _, _, rfl, rfl, .inl ⟨by omega, by omega⟩, _, _, rfl, rfl, _, _, rfl, rfl, _, rfl, _, _, rfl, rfl, _, rfl, ite2 (fun h2 => ?_) (fun _ => ?_)⟩
          · exfalso
            have h1 : (lo : Int) ≤ (aa : Int) / (c : Int) * (c : Int) * ((c ^ kk : Nat) : Int) := of_decide_eq_true h1
            have h2 : (aa : Int) / (c : Int) * (c : Int) * ((c ^ kk : Nat) : Int) + (c : Int) * ((c ^ kk : Nat) : Int) - 1 ≤ (hi : Int) := of_decide_eq_true h2
            rw [hwi] at h1 h2
            rw [hps] at h2
            omega
          · exact fin _ rfl
        · refine iteF ?_
          exact fin _ rfl
      · rintro σ H6 ⟨rfl, x, u10, u11, u12, u13, rfl, hcx⟩
        rw [List.length_map, ht.len, List.drop_length] at hcx
        cases hcx
        exact ⟨rfl, u10, u11, u12, u13, rfl⟩
      rintro σ H6 ⟨rfl, u10, u11, u12, u13, rfl⟩
      refine ⟨_, rfl, _, _, rfl, ?_⟩
      let fm2 : Nat → Nat → L2.St := fun fg rs => [some (.ref a), some (.ref p), some (.int (0 + (i : Int))), some (.int (c : Int)), some (.int (n1 : Int)), some (.int (n2 : Int)), some (.int (lo : Int)), some (.int (hi : Int)), some (.ref q), some (.int ((hi + 1 : Nat) : Int)), u10, u11, u12, u13, some (.int (fg : Int)), some (.int (rs : Int)), o16]
      refine ⟨fun σ H' => H' = H6 ∧ ∃ (n rs : Nat), hi + 1 ≤ c ^ (n + 1) ∧ σ = fm2 (n + 1) rs, ?_, ?_⟩
      · refine while_by (fun σ H' => H' = H6 ∧ ∃ (n rs : Nat), hi < (rs + 1) * c ^ n ∧ σ = fm2 (n + 1) rs) (fun (σ : L2.St) _ => match σ[15]? with | some (some (V.int z)) => z.toNat | _ => 0) ⟨rfl, 0, hi, by simp, rfl⟩ ?_ (mo_test (mo_op mo_rI0 mo_var mo_var))
        rintro σ H7 ⟨rfl, n, rs, hn, rfl⟩
        refine ⟨_, rfl, _, rfl, _, _, rfl, rfl, _, rfl, ite2 (fun h1 => ?_) (fun h1 => ?_)⟩
        · have h1 : (c : Int) ≤ (rs : Int) := of_decide_eq_true h1
          have hcd : CDiv (rs : Int) (c : Int) := ⟨by omega, by omega⟩
          have hd : rs / c < rs := Nat.div_lt_self (by omega) (by omega)
          refine ⟨_, rfl, _, _, rfl, rfl, _, rfl, _, rfl, _, _, rfl, rfl, hcd, _, _, rfl, ?_, ?_⟩
          · refine ⟨rfl, n + 1, rs / c, ?_, ?_⟩
            · refine Nat.lt_of_lt_of_le hn ?_
              rw [Nat.pow_succ, Nat.mul_comm (c ^ n) c, ← Nat.mul_assoc]
              apply Nat.mul_le_mul_right
              have dm := Nat.div_add_mod rs c
              have lt := Nat.mod_lt rs (show 0 < c by omega)
              rw [Nat.succ_mul, Nat.mul_comm]
              omega
            · show _ = [some (V.ref a), some (V.ref p), some (V.int (0 + (i : Int))), some (V.int (c : Int)), some (V.int (n1 : Int)), some (V.int (n2 : Int)), some (V.int (lo : Int)), some (V.int (hi : Int)), some (V.ref q), some (V.int ((hi + 1 : Nat) : Int)), u10, u11, u12, u13, some (V.int ((n + 1 + 1 : Nat) : Int)), some (V.int ((rs / c : Nat) : Int)), o16]
              rw [Int.natCast_ediv, Int.natCast_add (n + 1) 1] <;> rfl
          · show ((rs : Int) / (c : Int)).toNat < (rs : Int).toNat
            rw [← Int.natCast_ediv]
            omega
        · have h1 : ¬ ((c : Int) ≤ (rs : Int)) := fun z => h1 (decide_eq_true z)
          refine ⟨rfl, n, rs, ?_, rfl⟩
          rw [Nat.pow_succ, Nat.mul_comm]
          refine Nat.le_trans hn ?_
          exact Nat.mul_le_mul_right _ (by omega)
      rintro σ H7 ⟨rfl, n, rs, hn, rfl⟩
      have hlen2 := hplen n hn
      -- if here != last + 1 or ..
      refine ⟨_, rfl, _, rfl, _, _, rfl, rfl, rfl, _, rfl, iteNS rfl ?_⟩
      have hmul : (2 : Int) * ((c : Int) - 1) * ((n + 1 : Nat) : Int) = ((2 * (c - 1) * (n + 1) : Nat) : Int) := by
        rw [Int.natCast_mul, Int.natCast_mul, Int.natCast_sub (by omega)]
        rfl
      refine ⟨_, rfl, q, _, rfl, .inl (.of hq), _, rfl, _, _, rfl, rfl, _, _, rfl, rfl, .inl ⟨by decide, by decide⟩, _, rfl, _, _, rfl, rfl, .inl ⟨by omega, by omega⟩, _, _, rfl, rfl, _, _, rfl, rfl, _, rfl, ite2 (fun h1 => ?_) (fun _ => ?_)⟩
      · exfalso
        have h1 := of_decide_eq_true h1
        rw [hmul, List.length_map, ht.len] at h1
        omega
      -- many
      refine ⟨_, rfl, p, 60, rfl, hB, by decide, by decide, fun r2 xs2 r20 r21 hB2 => ?_⟩
      obtain ⟨m, rfl⟩ := Int.eq_ofNat_of_zero_le r20
      refine ⟨_, rfl, _, rfl, c, m, rfl, by omega, by omega, _, _, rfl, rfl, _, rfl, ?_⟩
      have hpos : 0 < c ^ m := Nat.pow_pos (by omega)
      have hone : B c 0 0 (c ^ m - 1 + 1) = [(0, m)] := by
        rw [Nat.sub_add_cancel hpos]
        have := B_one hc2 m 0
        rwa [Nat.zero_add] at this
      have hcm : ((c ^ m : Nat) : Int) - 1 = ((c ^ m - 1 : Nat) : Int) := by omega
      refine ⟨0, c ^ m - 1, c, congrArg (fun z => [V.int 0, V.int z, V.int (c : Int)]) hcm, by omega, hc2, hc4, by rw [hone]; exact (by decide : 1 ≤ 1000), fun q2 ts2 H8 s8 nq2 hq2 ht2 => ?_⟩
      rw [hone] at ht2
      refine ⟨_, rfl, by show 2 ≤ sizeLine; decide, fun t nt => ⟨by show 1 ≤ sizeLine; decide, fun L nL => ?_⟩⟩
      have s9 : Same H8 (upd H8 t (kV2 (0, m))) := same_upd nt
      have s10 : Same (upd H8 t (kV2 (0, m))) (upd (upd H8 t (kV2 (0, m))) L (.lst [.ref t])) := same_upd nL
      have ht3 : Tups (upd (upd H8 t (kV2 (0, m))) L (.lst [.ref t])) ts2 [(0, m)] := ht2.mono (fun b k z => s10 _ _ (s9 _ _ z))
      have ht4 : Tups (upd (upd H8 t (kV2 (0, m))) L (.lst [.ref t])) [t] [(0, m)] := ⟨s10 _ _ upd_same, trivial⟩
      have sh : SeqAt.shaped (.list [kD (0, m)]) = true := rfl
      refine ⟨.list [kD (0, m)], .list [kD (0, m)], .lst (.of (s10 _ _ (s9 _ _ hq2))) ht3.dp, .lst (.of (show _ = some (HO.lst [V.ref t]) from upd_same)) ht4.dp, sh, sh, _, rfl, ?_⟩
      rw [SeqAt.eqv_refl _ (show PyData.canLay0 (.list [kD (0, m)]) = true from rfl)]
      refine iteF ?_
      exact ⟨_, _, _, _, _, _, _, _, _, _, _, _, _, _, _, rfl, ((hB2.same s8).same s9).same s10⟩
    · rintro σ H2 ⟨_, _, _, _, _, _, _, _, _, _, _, _, _, _, _, rfl, hB⟩
      exact k H2
end
end P15

namespace P15
open PySem PySem.Spec PyProof.Rows L2 HG HB
theorem all_mk {l : PySem.W.OpenLaw} {w : World} {K : PySem.W.Frag} {h : Heap} {mg : Str → Option Value} {fa f1 f2 f3 f4 f5 f6 : Addr} (X : K.In h) (G : h.Ns mainGlobals mg) (hfa : mg "law" = some (.ref fa))
    {od1 an1 : Option Addr} {sl1 : Array (Option Value)} {oc1 kV1 dc1 pm1 cd1 ct1 : Value}
    {od2 an2 : Option Addr} {sl2 : Array (Option Value)} {oc2 kV2 dc2 pm2 cd2 ct2 : Value}
    {od3 an3 : Option Addr} {sl3 : Array (Option Value)} {oc3 kV3 dc3 pm3 cd3 ct3 : Value}
    {od4 an4 : Option Addr} {sl4 : Array (Option Value)} {oc4 kV4 dc4 pm4 cd4 ct4 : Value}
    {od5 an5 : Option Addr} {sl5 : Array (Option Value)} {oc5 kV5 dc5 pm5 cd5 ct5 : Value}
    {od6 an6 : Option Addr} {sl6 : Array (Option Value)} {oc6 kV6 dc6 pm6 cd6 ct6 : Value}
    (a1 : PySem.W.nsIn K mainGlobals "blocks" = some (some (.ref f1))) (l1 : K.lookup f1 = some ⟨oc1, od1, .func (PySem.W.fnOf "blocks" "blocks" (defArgs sBlocks) (defBody sBlocks) (defScope sBlocks) .none kV1 dc1 pm1 an1 cd1 ct1), sl1⟩) (c1 : PySem.W.codeIn K cd1 "blocks" = true) (k1 : PySem.W.keepIn K (.ref f1) = true)
    (a2 : PySem.W.nsIn K mainGlobals "_law_bag" = some (some (.ref f2))) (l2 : K.lookup f2 = some ⟨oc2, od2, .func (PySem.W.fnOf "_law_bag" "_law_bag" (defArgs sBag) (defBody sBag) (defScope sBag) .none kV2 dc2 pm2 an2 cd2 ct2), sl2⟩) (c2 : PySem.W.codeIn K cd2 "_law_bag" = true) (k2 : PySem.W.keepIn K (.ref f2) = true)
    (a3 : PySem.W.nsIn K mainGlobals "_law_take" = some (some (.ref f3))) (l3 : K.lookup f3 = some ⟨oc3, od3, .func (PySem.W.fnOf "_law_take" "_law_take" (defArgs sTake) (defBody sTake) (defScope sTake) .none kV3 dc3 pm3 an3 cd3 ct3), sl3⟩) (c3 : PySem.W.codeIn K cd3 "_law_take" = true) (k3 : PySem.W.keepIn K (.ref f3) = true)
    (a4 : PySem.W.nsIn K mainGlobals "_law_size" = some (some (.ref f4))) (l4 : K.lookup f4 = some ⟨oc4, od4, .func (PySem.W.fnOf "_law_size" "_law_size" (defArgs sSize) (defBody sSize) (defScope sSize) .none kV4 dc4 pm4 an4 cd4 ct4), sl4⟩) (c4 : PySem.W.codeIn K cd4 "_law_size" = true) (k4 : PySem.W.keepIn K (.ref f4) = true)
    (a5 : PySem.W.nsIn K mainGlobals "_law_number" = some (some (.ref f5))) (l5 : K.lookup f5 = some ⟨oc5, od5, .func (PySem.W.fnOf "_law_number" "_law_number" (defArgs sNumber) (defBody sNumber) (defScope sNumber) .none kV5 dc5 pm5 an5 cd5 ct5), sl5⟩) (c5 : PySem.W.codeIn K cd5 "_law_number" = true) (k5 : PySem.W.keepIn K (.ref f5) = true)
    (a6 : PySem.W.nsIn K mainGlobals "law" = some (some (.ref f6))) (l6 : K.lookup f6 = some ⟨oc6, od6, .func (PySem.W.fnOf "law" "law" (defArgs sLaw) (defBody sLaw) (defScope sLaw) .none kV6 dc6 pm6 an6 cd6 ct6), sl6⟩) (c6 : PySem.W.codeIn K cd6 "law" = true) (k6 : PySem.W.keepIn K (.ref f6) = true)
    (z1 : PySem.W.nsIn K mainGlobals "abs" = some none) (z2 : PySem.W.nsIn K mainGlobals "len" = some none) (z3 : PySem.W.nsIn K mainGlobals "range" = some none) (z4 : PySem.W.nsIn K mainGlobals "max" = some none) (z5 : PySem.W.nsIn K mainGlobals "min" = some none) :
    ∃ fd : FuncData, (∀ (s : Shared) (v : Value), BindsTo s fd ⟨[v], []⟩ [("script", v)]) ∧ ∀ base : Heap, K.In base → base.Ns mainGlobals mg → FnOk l.prog w K mg base CX0 3 fa fd ["script"] (spLaw K) := by
  have e := hfa.symm.trans (PySem.W.mg_of X G a6)
  cases e
  have F1 := fun_mk (st := sBlocks) l1 c1 k1
  have b1 := F1.binds (ps := ["first", "last", "pace"]) fun _ _ _ _ _ _ us hl => match us, hl with | [_, _, _], _ => rfl
  have F2 := fun_mk (st := sBag) l2 c2 k2
  have b2 := F2.binds (ps := ["script"]) fun _ _ _ _ _ _ us hl => match us, hl with | [_], _ => rfl
  have F3 := fun_mk (st := sTake) l3 c3 k3
  have b3 := F3.binds (ps := ["bag", "many"]) fun _ _ _ _ _ _ us hl => match us, hl with | [_, _], _ => rfl
  have F4 := fun_mk (st := sSize) l4 c4 k4
  have b4 := F4.binds (ps := ["pace", "many"]) fun _ _ _ _ _ _ us hl => match us, hl with | [_, _], _ => rfl
  have F5 := fun_mk (st := sNumber) l5 c5 k5
  have b5 := F5.binds (ps := ["bag", "pace"]) fun _ _ _ _ _ _ us hl => match us, hl with | [_, _], _ => rfl
  have F6 := fun_mk (st := sLaw) l6 c6 k6
  exact ⟨PySem.W.fnOf "law" "law" (defArgs sLaw) (defBody sLaw) (defScope sLaw) .none kV6 dc6 pm6 an6 cd6 ct6, fun s v => .of_eq rfl, fun base _ _ => ok_law F6 F2 b2 (PySem.W.mg_of X G a2) F3 b3 (PySem.W.mg_of X G a3) F4 b4 (PySem.W.mg_of X G a4) F5 b5 (PySem.W.mg_of X G a5) F1 b1 (PySem.W.mg_of X G a1) (PySem.W.mg_none_of X G z1) (PySem.W.mg_none_of X G z2) (PySem.W.mg_none_of X G z3) (PySem.W.mg_none_of X G z4) (PySem.W.mg_none_of X G z5)⟩
end P15
open PySem PySem.W PyProof.Rows
set_option maxHeartbeats 0 in
theorem PySem.Challenge.cw_halfpace_k15_whole_fewest_blocks_holds : PySem.Challenge.rw_halfpace_k15_whole_fewest_blocks.Holds := by
  w_on; o_law; k_head; (case hw => w_witness2)
  k_fill
  refine L2.walk_of (l := PySem.Challenge.rw_halfpace_k15_whole_fewest_blocks) (n := 63) (k := 3) (x := "script") (CX := fun _ => L2.CX0) (sp := fun w => P15.spLaw _) rfl (by decide) rfl ⟨rfl, by decide, by decide⟩ (fun w h Y => PySem.W.kIn_of Y) ?F (fun _ _ a ns hl _ hS => ⟨a, ns, rfl, hS, hl, fun _ => rfl⟩) (fun _ _ _ _ _ h => h)
  case F =>
    intro w mg fa h KX G hmg
    refine' P15.all_mk KX G hmg ?a1 ?l1 ?c1 ?k1 ?a2 ?l2 ?c2 ?k2 ?a3 ?l3 ?c3 ?k3 ?a4 ?l4 ?c4 ?k4 ?a5 ?l5 ?c5 ?k5 ?a6 ?l6 ?c6 ?k6 ?z1 ?z2 ?z3 ?z4 ?z5
    (case a1 => k_is)
    (case l1 => k_is)
    (case c1 => k_is)
    (case k1 => k_is)
    (case a2 => k_is)
    (case l2 => k_is)
    (case c2 => k_is)
    (case k2 => k_is)
    (case a3 => k_is)
    (case l3 => k_is)
    (case c3 => k_is)
    (case k3 => k_is)
    (case a4 => k_is)
    (case l4 => k_is)
    (case c4 => k_is)
    (case k4 => k_is)
    (case a5 => k_is)
    (case l5 => k_is)
    (case c5 => k_is)
    (case k5 => k_is)
    (case a6 => k_is)
    (case l6 => k_is)
    (case c6 => k_is)
    (case k6 => k_is)
    (case z1 => k_is)
    (case z2 => k_is)
    (case z3 => k_is)
    (case z4 => k_is)
    (case z5 => k_is)


