import PyProof.Rows.All
import Wide.All
import OpenK.AllK
import Wide.FinOn
import HandS.ForMost
import HandS.Wide
import HandS.Style
import HandS.Evl
import HandS.Conv
import HandS.IsInst
import PySem.Challenge.RW_halfpace_k14_blocks_walked
set_option Elab.async false
set_option linter.all false
set_option maxRecDepth 100000
set_option maxHeartbeats 4000000
set_option autoImplicit false
namespace HB
/-! blocks: the mirror and its mathematics -/
def bl (p : Nat) : Nat → Nat → Nat → Nat → List (Nat × Nat)
  | 0, _, _, _ => []
  | f + 1, v, l, h =>
    if l < h then
      if l % p ≠ 0 then (l, v) :: bl p f v (l + 1) h
      else if h % p ≠ 0 then bl p f v l (h - 1) ++ [(h - 1, v)]
      else bl p f (v + 1) (l / p) (h / p)
    else []
/-- with fuel enough -/
def B (p v l h : Nat) : List (Nat × Nat) := bl p (h - l) v l h
theorem half {p l h : Nat} (hp : 2 ≤ p) (hl : l < h) (l0 : l % p = 0) (h0 : h % p = 0) : h / p - l / p < h - l ∧ l / p < h / p := by
  have e1 : p * (l / p) = l := by have := Nat.div_add_mod l p; omega
  have e2 : p * (h / p) = h := by have := Nat.div_add_mod h p; omega
  have lt : l / p < h / p := by
    apply Nat.lt_of_mul_lt_mul_left (a := p)
    omega
  refine ⟨?_, lt⟩
  obtain ⟨d, hd⟩ : ∃ d, h / p = l / p + d := ⟨h / p - l / p, by omega⟩
  have e3 : h = l + p * d := by
    rw [← e2, hd, Nat.mul_add, e1]
  have : 2 * d ≤ p * d := Nat.mul_le_mul_right d hp
  omega
theorem bl_fuel {p : Nat} (hp : 2 ≤ p) : ∀ (f g v l h : Nat), h - l ≤ f → h - l ≤ g → bl p f v l h = bl p g v l h := by
  intro f
  induction f with
  | zero =>
    intro g v l h hf hg
    cases g with
    | zero => rfl
    | succ g =>
      have : ¬ l < h := by omega
      simp [bl, this]
  | succ f ih =>
    intro g v l h hf hg
    cases g with
    | zero =>
      have : ¬ l < h := by omega
      simp [bl, this]
    | succ g =>
      unfold bl
      by_cases c : l < h
      · rw [if_pos c, if_pos c]
        by_cases c1 : l % p ≠ 0
        · rw [if_pos c1, if_pos c1, ih g v (l + 1) h (by omega) (by omega)]
        · rw [if_neg c1, if_neg c1]
          by_cases c2 : h % p ≠ 0
          · rw [if_pos c2, if_pos c2, ih g v l (h - 1) (by omega) (by omega)]
          · rw [if_neg c2, if_neg c2]
            have := half hp c (by omega) (by omega)
            exact ih g (v + 1) (l / p) (h / p) (by omega) (by omega)
      · rw [if_neg c, if_neg c]
theorem B_end {p v l h : Nat} (c : ¬ l < h) : B p v l h = [] := by
  unfold B
  rw [show h - l = 0 by omega]
  rfl
theorem B_low {p v l h : Nat} (c : l < h) (m : l % p ≠ 0) : B p v l h = (l, v) :: B p v (l + 1) h := by
  unfold B
  rw [show h - l = (h - (l + 1)) + 1 by omega]
  show (if l < h then _ else _) = _
  rw [if_pos c, if_pos m]
theorem B_high {p v l h : Nat} (c : l < h) (m : l % p = 0) (m2 : h % p ≠ 0) : B p v l h = B p v l (h - 1) ++ [(h - 1, v)] := by
  unfold B
  rw [show h - l = (h - 1 - l) + 1 by omega]
  show (if l < h then _ else _) = _
  rw [if_pos c, if_neg (by omega), if_pos m2]
theorem B_up {p v l h : Nat} (hp : 2 ≤ p) (c : l < h) (m : l % p = 0) (m2 : h % p = 0) : B p v l h = B p (v + 1) (l / p) (h / p) := by
  have hh := half hp c m m2
  unfold B
  rw [show h - l = (h - l - 1) + 1 by omega]
  show (if l < h then _ else _) = _
  rw [if_pos c, if_neg (by omega), if_neg (by omega)]
  exact bl_fuel hp _ _ _ _ _ (by omega) (by omega)
theorem div_eq {p l h : Nat} (c : ¬ l < h) (e : l ≤ h) : B p 0 (l / p) (h / p) = [] := by
  have : l = h := by omega
  subst this
  exact B_end (by omega)
/-- a rule of induction: one for all three ways -/
theorem B_ind {p : Nat} (hp : 2 ≤ p) {C : Nat → Nat → Nat → List (Nat × Nat) → Prop}
    (h0 : ∀ v l h, l = h → C v l h [])
    (h1 : ∀ v l h, l < h → l % p ≠ 0 → C v (l + 1) h (B p v (l + 1) h) → C v l h ((l, v) :: B p v (l + 1) h))
    (h2 : ∀ v l h, l < h → l % p = 0 → h % p ≠ 0 → C v l (h - 1) (B p v l (h - 1)) → C v l h (B p v l (h - 1) ++ [(h - 1, v)]))
    (h3 : ∀ v l h, l < h → l % p = 0 → h % p = 0 → l / p < h / p → C (v + 1) (l / p) (h / p) (B p (v + 1) (l / p) (h / p)) → C v l h (B p (v + 1) (l / p) (h / p))) :
    ∀ (n v l h : Nat), h - l ≤ n → l ≤ h → C v l h (B p v l h) := by
  intro n
  induction n with
  | zero =>
    intro v l h hn hle
    rw [B_end (by omega)]
    exact h0 v l h (by omega)
  | succ n ih =>
    intro v l h hn hle
    by_cases c : l < h
    · by_cases c1 : l % p = 0
      · by_cases c2 : h % p = 0
        · have hh := half hp c c1 c2
          rw [B_up hp c c1 c2]
          exact h3 v l h c c1 c2 hh.2 (ih _ _ _ (by omega) (by omega))
        · rw [B_high c c1 c2]
          exact h2 v l h c c1 c2 (ih _ _ _ (by omega) (by omega))
      · rw [B_low c c1]
        exact h1 v l h c c1 (ih _ _ _ (by omega) (by omega))
    · rw [B_end c]
      exact h0 v l h (by omega)
/-! side by side -/
inductive Chain (p : Nat) : List (Nat × Nat) → Nat → Nat → Prop
  | nil (x) : Chain p [] x x
  | cons {a k r y} : Chain p r (a * p ^ k + p ^ k) y → Chain p ((a, k) :: r) (a * p ^ k) y
theorem Chain.snoc {p : Nat} {ks : List (Nat × Nat)} {x a k : Nat} (h : Chain p ks x (a * p ^ k)) : Chain p (ks ++ [(a, k)]) x (a * p ^ k + p ^ k) := by
  generalize e : a * p ^ k = y at h
  induction h with
  | nil x => subst e; exact .cons (.nil _)
  | cons r ih => exact .cons (ih e)
theorem pw {p v l : Nat} (m : l % p = 0) : l / p * p ^ (v + 1) = l * p ^ v := by
  have e1 : l / p * p = l := by have := Nat.div_add_mod l p; rw [Nat.mul_comm]; omega
  rw [Nat.pow_succ, Nat.mul_comm (p ^ v) p, ← Nat.mul_assoc, e1]
theorem B_chain {p : Nat} (hp : 2 ≤ p) {v l h : Nat} (hle : l ≤ h) : Chain p (B p v l h) (l * p ^ v) (h * p ^ v) := by
  refine B_ind hp (C := fun v l h ks => Chain p ks (l * p ^ v) (h * p ^ v)) ?_ ?_ ?_ ?_ (h - l) v l h (Nat.le_refl _) hle
  · intro v l h e; subst e; exact .nil _
  · intro v l h c m ih
    rw [Nat.succ_mul] at ih
    exact .cons ih
  · intro v l h c m m2 ih
    have e : h * p ^ v = (h - 1) * p ^ v + p ^ v := by
      rw [← Nat.succ_mul]
      congr 1
      omega
    rw [e]
    exact ih.snoc
  · intro v l h c m m2 hh ih
    rw [pw m, pw m2] at ih
    exact ih
/-! at most so many -/
theorem B_len {p : Nat} (hp : 2 ≤ p) : ∀ {v l h : Nat} (n : Nat), l ≤ h → h ≤ p ^ (n + 1) → (B p v l h).length ≤ 2 * ((p - 1) * n) + 1 + (if l % p = 0 then 0 else p - l % p) + h % p := by
  intro v l h n hle hn
  refine B_ind hp (C := fun v l h ks => ∀ n, h ≤ p ^ (n + 1) → ks.length ≤ 2 * ((p - 1) * n) + 1 + (if l % p = 0 then 0 else p - l % p) + h % p) ?_ ?_ ?_ ?_ (h - l) v l h (Nat.le_refl _) hle n hn
  · intro v l h e n _
    exact Nat.zero_le _
  · intro v l h c m ih n hn
    have := ih n hn
    rw [List.length_cons, if_neg m]
    have lt := Nat.mod_lt l (show 0 < p by omega)
    have key : (if (l + 1) % p = 0 then 0 else p - (l + 1) % p) + 1 = p - l % p := by
      rw [Nat.add_mod, Nat.mod_eq_of_lt (show 1 < p by omega)]
      by_cases z : l % p + 1 = p
      · rw [z, Nat.mod_self, if_pos rfl]; omega
      · rw [Nat.mod_eq_of_lt (show l % p + 1 < p by omega), if_neg (by omega)]; omega
    omega
  · intro v l h c m m2 ih n hn
    have := ih n (by omega)
    rw [List.length_append, List.length_singleton]
    have key : (h - 1) % p + 1 = h % p := by
      have e : h % p = ((h - 1) + 1) % p := by congr 1; omega
      have lt := Nat.mod_lt (h - 1) (show 0 < p by omega)
      rw [Nat.add_mod, Nat.mod_eq_of_lt (show 1 < p by omega)] at e
      by_cases z : (h - 1) % p + 1 = p
      · rw [z, Nat.mod_self] at e; omega
      · rw [Nat.mod_eq_of_lt (show (h - 1) % p + 1 < p by omega)] at e; omega
    omega
  · intro v l h c m m2 hh ih n hn
    rw [if_pos m, m2]
    cases n with
    | zero =>
      have e2 : h / p * p = h := by have := Nat.div_add_mod h p; rw [Nat.mul_comm]; omega
      have hp1 : h ≤ p := by simpa using hn
      have q1 : h / p ≤ 1 := by
        have := Nat.div_le_div_right (c := p) hp1
        rwa [Nat.div_self (by omega)] at this
      have q2 : h / p = 1 := Nat.le_antisymm q1 (Nat.lt_of_le_of_lt (Nat.zero_le _) hh)
      have q3 : l / p = 0 := by rw [q2] at hh; exact Nat.lt_one_iff.mp hh
      rw [q2, q3]
      have z : B p (v + 1) 0 1 = [(0, v + 1)] := by
        rw [B_high (by omega) (Nat.zero_mod p) (by rw [Nat.mod_eq_of_lt (by omega)]; omega), B_end (by omega)]
        rfl
      rw [z]
      exact Nat.le_add_left _ _
    | succ n =>
      have hq : h / p ≤ p ^ (n + 1) := by
        rw [Nat.pow_succ] at hn
        exact Nat.div_le_of_le_mul (by rw [Nat.mul_comm]; exact hn)
      have := ih n hq
      have a1 : (if l / p % p = 0 then 0 else p - l / p % p) ≤ p - 1 := by split <;> omega
      have a2 : h / p % p ≤ p - 1 := by have := Nat.mod_lt (h / p) (show 0 < p by omega); omega
      rw [Nat.mul_succ]
      omega
theorem B_len' {p : Nat} (hp : 2 ≤ p) {v l h : Nat} (n : Nat) (hle : l ≤ h) (hn : h ≤ p ^ (n + 1)) : (B p v l h).length ≤ 2 * (p - 1) * (n + 1) + 1 := by
  have := B_len hp (v := v) n hle hn
  have a1 : (if l % p = 0 then 0 else p - l % p) ≤ p - 1 := by split <;> omega
  have a2 : h % p ≤ p - 1 := by have := Nat.mod_lt h (show 0 < p by omega); omega
  rw [Nat.mul_assoc, Nat.mul_succ]
  omega
/-! none can be wider -/
def LowI (p F v l : Nat) : Prop := (l % p = 0 → l * p ^ v < F + p ^ (v + 1)) ∧ (l % p ≠ 0 → l / p * p ^ (v + 1) < F)
def HighI (p L v h : Nat) : Prop := L < (h / p + 1) * p ^ (v + 1)
theorem succ_mod {p l : Nat} (hp : 2 ≤ p) (m : l % p ≠ 0) : ((l + 1) % p = 0 ∧ l + 1 = (l / p + 1) * p) ∨ ((l + 1) % p ≠ 0 ∧ (l + 1) / p = l / p) := by
  have lt := Nat.mod_lt l (show 0 < p by omega)
  have dm := Nat.div_add_mod l p
  generalize hr : l % p = r at *
  generalize hq : l / p = q at *
  have e : l + 1 = (r + 1) + q * p := by rw [Nat.mul_comm q p]; omega
  by_cases z : r + 1 = p
  · left
    rw [e, z, Nat.succ_mul, Nat.add_comm]
    refine ⟨?_, rfl⟩
    rw [Nat.add_mod, Nat.mul_mod_left, Nat.mod_self]
    simp
  · right
    rw [e, Nat.add_mul_mod_self_right, Nat.add_mul_div_right _ _ (by omega), Nat.mod_eq_of_lt (by omega), Nat.div_eq_of_lt (by omega)]
    omega
theorem pred_div {p h : Nat} (hp : 2 ≤ p) (m : h % p ≠ 0) : (h - 1) / p = h / p := by
  have lt := Nat.mod_lt h (show 0 < p by omega)
  have dm := Nat.div_add_mod h p
  generalize hr : h % p = r at *
  generalize hq : h / p = q at *
  have e : h - 1 = (r - 1) + q * p := by rw [Nat.mul_comm q p]; omega
  rw [e, Nat.add_mul_div_right _ _ (by omega), Nat.div_eq_of_lt (by omega)]
  omega
theorem LowI.step {p F v l : Nat} (hp : 2 ≤ p) (m : l % p ≠ 0) (I : LowI p F v l) : LowI p F v (l + 1) := by
  have i := I.2 m
  rcases succ_mod hp m with ⟨a, b⟩ | ⟨a, b⟩
  · refine ⟨fun _ => ?_, fun z => absurd a z⟩
    rw [b, Nat.mul_assoc, Nat.mul_comm p, ← Nat.pow_succ, Nat.succ_mul]
    show l / p * p ^ (v + 1) + p ^ (v + 1) < F + p ^ (v + 1)
    omega
  · refine ⟨fun z => absurd z a, fun _ => ?_⟩
    rw [b]
    exact i
theorem LowI.up {p F v l : Nat} (hp : 2 ≤ p) (m : l % p = 0) (I : LowI p F v l) : LowI p F (v + 1) (l / p) := by
  have i := I.1 m
  rw [← pw m] at i
  generalize l / p = u at *
  constructor
  · intro _
    have : p ^ (v + 1) ≤ p ^ (v + 1 + 1) := Nat.pow_le_pow_right (by omega) (by omega)
    omega
  · intro z
    have dm := Nat.div_add_mod u p
    have e : u / p * p ^ (v + 1 + 1) + p ^ (v + 1) ≤ u * p ^ (v + 1) := by
      rw [Nat.pow_succ p (v + 1), Nat.mul_comm (p ^ (v + 1)) p, ← Nat.mul_assoc, ← Nat.succ_mul]
      apply Nat.mul_le_mul_right
      rw [Nat.mul_comm]
      omega
    omega
theorem HighI.up {p L v h : Nat} (hp : 2 ≤ p) (I : HighI p L v h) : HighI p L (v + 1) (h / p) := by
  unfold HighI at *
  generalize h / p = u at *
  refine Nat.lt_of_lt_of_le I ?_
  rw [Nat.pow_succ p (v + 1), Nat.mul_comm (p ^ (v + 1)) p, ← Nat.mul_assoc]
  apply Nat.mul_le_mul_right
  have dm := Nat.div_add_mod u p
  have lt := Nat.mod_lt u (show 0 < p by omega)
  rw [Nat.succ_mul, Nat.mul_comm]
  omega
theorem B_wide {p : Nat} (hp : 2 ≤ p) {F L v l h : Nat} (hle : l ≤ h) (hl : LowI p F v l) (hh : HighI p L v h) : ∀ x ∈ B p v l h, x.1 / p * p ^ (x.2 + 1) < F ∨ L < (x.1 / p + 1) * p ^ (x.2 + 1) := by
  refine B_ind hp (C := fun v l h ks => LowI p F v l → HighI p L v h → ∀ x ∈ ks, x.1 / p * p ^ (x.2 + 1) < F ∨ L < (x.1 / p + 1) * p ^ (x.2 + 1)) ?_ ?_ ?_ ?_ (h - l) v l h (Nat.le_refl _) hle hl hh
  · intro v l h e _ _ x hx
    cases hx
  · intro v l h c m ih il ih2 x hx
    rcases List.mem_cons.mp hx with rfl | hx
    · exact .inl (il.2 m)
    · exact ih (il.step hp m) ih2 x hx
  · intro v l h c m m2 ih il ih2 x hx
    rcases List.mem_append.mp hx with hx | hx
    · refine ih il ?_ x hx
      unfold HighI at *
      rw [pred_div hp m2]
      exact ih2
    · rw [List.mem_singleton] at hx
      subst hx
      right
      show L < ((h - 1) / p + 1) * p ^ (v + 1)
      rw [pred_div hp m2]
      exact ih2
  · intro v l h c m m2 _ ih il ih2 x hx
    exact ih (il.up hp m) (ih2.up hp) x hx
theorem B_wide0 {p f e : Nat} (hp : 2 ≤ p) (hle : f ≤ e) : ∀ x ∈ B p 0 f e, x.1 / p * p ^ (x.2 + 1) < f ∨ e < (x.1 / p + 1) * p ^ (x.2 + 1) := by
  refine B_wide hp hle ⟨fun _ => ?_, fun m => ?_⟩ ?_
  · rw [Nat.pow_zero]
    have : 0 < p ^ (0 + 1) := Nat.pow_pos (by omega)
    omega
  · have dm := Nat.div_add_mod f p
    rw [Nat.zero_add, Nat.pow_one, Nat.mul_comm]
    omega
  · unfold HighI
    have dm := Nat.div_add_mod e p
    have lt := Nat.mod_lt e (show 0 < p by omega)
    rw [Nat.zero_add, Nat.pow_one, Nat.succ_mul, Nat.mul_comm]
    omega
/-! one block -/
theorem B_one {p : Nat} (hp : 2 ≤ p) : ∀ (n v : Nat), B p v 0 (p ^ n) = [(0, v + n)]
  | 0, v => by
    rw [B_high (by simp) (Nat.zero_mod p) (by rw [Nat.pow_zero, Nat.mod_eq_of_lt (by omega)]; omega), B_end (by simp)]
    rfl
  | n + 1, v => by
    have e : p ^ (n + 1) / p = p ^ n := by rw [Nat.pow_succ, Nat.mul_div_cancel _ (by omega)]
    rw [B_up hp (Nat.pow_pos (by omega)) (Nat.zero_mod p) (by rw [Nat.pow_succ, Nat.mul_mod_left]), e, Nat.zero_div, B_one hp n (v + 1)]
    congr 2
    omega
/-- levels are low -/
theorem Chain.le {p : Nat} {ks : List (Nat × Nat)} {x y : Nat} (h : Chain p ks x y) : x ≤ y ∧ ∀ b ∈ ks, x ≤ b.1 * p ^ b.2 ∧ b.1 * p ^ b.2 + p ^ b.2 ≤ y := by
  induction h with
  | nil x => exact ⟨Nat.le_refl _, fun b hb => nomatch hb⟩
  | cons r ih =>
    refine ⟨by omega, fun b hb => ?_⟩
    rcases List.mem_cons.mp hb with rfl | hb
    · exact ⟨Nat.le_refl _, ih.1⟩
    · have := ih.2 b hb
      omega
end HB

/-! what every law here draws on: the bag, taken from -/
namespace HG
open PySem PySem.Spec PyProof.Rows L2
/-- xs[k] read ahead of xs[k] op= e -/
def rGetL (K : PySem.W.Frag) : V → V → Hp → VK → Prop := fun o i H Q => ∃ p xs k v, o = .ref p ∧ i = .int k ∧ SqL K H p xs ∧ 0 ≤ k ∧ xs[k.toNat]? = some v ∧ Q v H
theorem get_list {X : Cx} : PGet X (rGetL X.K) := by
  intro pins s σ H o i ov iv Q I ro ri h
  obtain ⟨p, xs, k, v, rfl, rfl, hq, h0, hx, q⟩ := h
  cases ro
  obtain ⟨t, rfl⟩ := ri
  obtain ⟨its, r, pl, hz⟩ := I.list hq
  obtain ⟨w, ew, rw'⟩ := r.get hx
  have hn := line63
  have hl := r.length
  have hlt : k.toNat < xs.length := (List.getElem?_eq_some_iff.mp hx).1
  exact wpAny_getItem_list pl.isList h0 (by omega) (by simpa using ew) ⟨v, H, I, rw', q⟩
theorem atI_int {α : Type} {xs : List α} {i : Int} {v : α} (h0 : 0 ≤ i) (h : xs[i.toNat]? = some v) : atI xs i = some v := by
  obtain ⟨j, rfl⟩ := Int.eq_ofNat_of_zero_le h0
  exact atI_nat h
theorem upd_self {H : Hp} {p : Addr} {o : HO} (h : H p = some o) : upd H p o = H := by
  funext b
  unfold upd
  by_cases e : b = p
  · rw [if_pos e, e, h]
  · rw [if_neg e]
theorem same_upd {H : Hp} {p : Addr} {o : HO} (h : H p = none) : Same H (upd H p o) := fun b x e => by
  rw [upd_ne (ne_of_none e h)]
  exact e
/-- the bag: its place, what is drawn from, how far -/
def bagL (b0 b1 b2 : Int) (c : Addr) : HO := .lst [.int b0, .int b1, .int b2, .ref c]
def Bag (H : Hp) (p : Addr) : Prop := ∃ (c : Addr) (b0 b1 b2 : Int) (cs : List Int), H p = some (bagL b0 b1 b2 c) ∧ H c = some (.lst (cs.map V.int)) ∧ 0 ≤ b2
theorem Bag.lst {H : Hp} {p : Addr} (B : Bag H p) : ∃ xs, H p = some (.lst xs) := let ⟨_, _, _, _, _, h, _⟩ := B; ⟨_, h⟩
theorem bag_ne {H : Hp} {p c : Addr} {b0 b1 b2 : Int} {cs : List Int} (h : H p = some (bagL b0 b1 b2 c)) (g : H c = some (.lst (cs.map V.int))) : c ≠ p := fun e => by
  subst e
  rw [h] at g
  have g := HO.lst.inj (Option.some.inj g)
  rcases cs with _ | ⟨a, _ | ⟨b, _ | ⟨d, _ | ⟨f, r⟩⟩⟩⟩ <;> simp at g
theorem Bag.same {H H' : Hp} {p : Addr} (s : Same H H') (B : Bag H p) : Bag H' p := let ⟨c, b0, b1, b2, cs, h, g, z⟩ := B; ⟨c, b0, b1, b2, cs, s _ _ h, s _ _ g, z⟩
def spBag (K : PySem.W.Frag) : Sp := fun vs H Q _ => ∃ (a : Addr) (ns : List Int), vs = [.ref a] ∧ SqL K H a (ns.map V.int) ∧ ns.length ≤ 63 ∧ ∀ p H', Same H H' → H p = none → Bag H' p → Q (.ref p) H'
def spTake : Sp := fun vs H Q _ => ∃ (p : Addr) (m : Int), vs = [.ref p, .int m] ∧ Bag H p ∧ 0 < m ∧ m.natAbs < 2 ^ 1000 ∧ ∀ (r : Int) (xs : List V), 0 ≤ r → r < m → Bag (upd H p (.lst xs)) p → Q (.int r) (upd H p (.lst xs))
end HG

namespace HG
open PySem PySem.Spec PyProof.Rows L2 HB
def kV2 (k : Nat × Nat) : HO := .tup [.int (k.1 : Int), .int (k.2 : Int)]
/-- at these places stand these pairs -/
def Tups (H : Hp) : List Addr → List (Nat × Nat) → Prop
  | [], [] => True
  | t :: ts, k :: ks => H t = some (kV2 k) ∧ Tups H ts ks
  | _, _ => False
theorem Tups.len {H : Hp} : ∀ {ts : List Addr} {ks : List (Nat × Nat)}, Tups H ts ks → ts.length = ks.length
  | [], [], _ => rfl
  | _ :: _, _ :: _, h => congrArg (· + 1) (Tups.len h.2)
  | [], _ :: _, h => h.elim
  | _ :: _, [], h => h.elim
theorem Tups.mono {H H' : Hp} (s : ∀ t k, H t = some (kV2 k) → H' t = some (kV2 k)) : ∀ {ts : List Addr} {ks : List (Nat × Nat)}, Tups H ts ks → Tups H' ts ks
  | [], [], _ => trivial
  | _ :: _, _ :: _, h => ⟨s _ _ h.1, Tups.mono s h.2⟩
  | [], _ :: _, h => h.elim
  | _ :: _, [], h => h.elim
theorem Tups.app {H : Hp} {us : List Addr} {ms : List (Nat × Nat)} (g : Tups H us ms) : ∀ {ts : List Addr} {ks : List (Nat × Nat)}, Tups H ts ks → Tups H (ts ++ us) (ks ++ ms)
  | [], [], _ => g
  | _ :: _, _ :: _, h => ⟨h.1, Tups.app g h.2⟩
  | [], _ :: _, h => h.elim
  | _ :: _, [], h => h.elim
theorem Tups.rev {H : Hp} : ∀ {ts : List Addr} {ks : List (Nat × Nat)}, Tups H ts ks → Tups H ts.reverse ks.reverse
  | [], [], _ => trivial
  | t :: ts, k :: ks, h => by
    rw [List.reverse_cons, List.reverse_cons]
    exact Tups.app (show Tups H [t] [k] from ⟨h.1, trivial⟩) (Tups.rev h.2)
  | [], _ :: _, h => h.elim
  | _ :: _, [], h => h.elim
theorem Tups.get {H : Hp} : ∀ {ts : List Addr} {ks : List (Nat × Nat)} {i : Nat} {t : Addr}, Tups H ts ks → ts[i]? = some t → ∃ k, ks[i]? = some k ∧ H t = some (kV2 k)
  | [], [], _, _, _, h => by cases h
  | t :: ts, k :: ks, 0, _, h, e => by
    cases e
    exact ⟨k, rfl, h.1⟩
  | t :: ts, k :: ks, i + 1, _, h, e => Tups.get (i := i) h.2 e
  | [], _ :: _, _, _, h, _ => h.elim
  | _ :: _, [], _, _, h, _ => h.elim
def kD (k : Nat × Nat) : PyData := .tuple [.int (k.1 : Int), .int (k.2 : Int)]
theorem Tups.dp {K : PySem.W.Frag} {H : Hp} : ∀ {ts : List Addr} {ks : List (Nat × Nat)}, Tups H ts ks → DpAll K H (ts.map V.ref) (ks.map kD)
  | [], [], _ => .nil
  | _ :: _, _ :: _, h => .cons (.tup (.of h.1) (.cons (.int _) (.cons (.int _) .nil))) (Tups.dp h.2)
  | [], _ :: _, h => h.elim
  | _ :: _, [], h => h.elim
/-- the state of the walk of blocks -/
def Inn (H : Hp) (fr bk : Addr) (p : Nat) (R : List (Nat × Nat)) (d v lo hi : Nat) (H' : Hp) : Prop :=
  lo ≤ hi ∧ hi - lo ≤ d ∧ Same H H' ∧ ∃ (ts us : List Addr) (ks ms : List (Nat × Nat)), H' fr = some (.lst (ts.map V.ref)) ∧ H' bk = some (.lst (us.map V.ref)) ∧ Tups H' ts ks ∧ Tups H' us ms ∧ ks ++ B p v lo hi ++ ms.reverse = R
theorem tup_stay {H' : Hp} {t fr : Addr} {xs ys : List V} {o : HO} (ht : H' t = none) (hf : H' fr = some (.lst xs)) : ∀ a k, H' a = some (kV2 k) → (upd (upd H' t o) fr (.lst ys)) a = some (kV2 k) := fun a k e => by
  have n1 : a ≠ fr := ne_of e hf (by intro z; cases z)
  rw [upd_ne n1, upd_ne (ne_of_none e ht)]
  exact e
theorem fr_same {H H' : Hp} {t fr : Addr} {o u : HO} (s : Same H H') (nf : H fr = none) (ht : H' t = none) : Same H (upd (upd H' t o) fr u) := fun b x e => by
  rw [upd_ne (ne_of_none e nf), upd_ne (ne_of_none e (s.free ht))]
  exact s b x e
theorem Inn.front {H H' : Hp} {fr bk : Addr} {p : Nat} {R : List (Nat × Nat)} {d v lo hi : Nat} (I : Inn H fr bk p R d v lo hi H') (nf : H fr = none) (nfb : fr ≠ bk) (c : lo < hi) (m : lo % p ≠ 0) {t : Addr} (ht : H' t = none) :
    ∃ xs, (upd H' t (kV2 (lo, v))) fr = some (.lst xs) ∧ xs.length ≤ R.length ∧ Inn H fr bk p R d v (lo + 1) hi (upd (upd H' t (kV2 (lo, v))) fr (.lst (xs ++ [.ref t]))) := by
  obtain ⟨i1, i2, s, ts, us, ks, ms, hf, hb, tf, tb, e⟩ := I
  have ntf : fr ≠ t := ne_of_none hf ht
  have ntb : bk ≠ t := ne_of_none hb ht
  refine ⟨ts.map V.ref, by rw [upd_ne ntf]; exact hf, ?_, by omega, by omega, fr_same s nf ht, ts ++ [t], us, ks ++ [(lo, v)], ms, ?_, ?_, ?_, ?_, ?_⟩
  · rw [List.length_map, tf.len, ← e, List.length_append, List.length_append]
    omega
  · rw [upd_same, List.map_append]
    rfl
  · rw [upd_ne nfb.symm, upd_ne ntb]
    exact hb
  · refine Tups.app (show Tups _ [t] [(lo, v)] from ⟨?_, trivial⟩) (tf.mono (tup_stay ht hf))
    rw [upd_ne ntf.symm, upd_same]
  · exact tb.mono (tup_stay ht hf)
  · rw [← e, B_low c m, List.append_assoc, List.append_assoc, List.append_assoc]
    rfl
theorem Inn.back {H H' : Hp} {fr bk : Addr} {p : Nat} {R : List (Nat × Nat)} {d v lo hi : Nat} (I : Inn H fr bk p R d v lo hi H') (nb : H bk = none) (nfb : fr ≠ bk) (c : lo < hi) (m : lo % p = 0) (m2 : hi % p ≠ 0) {t : Addr} (ht : H' t = none) :
    ∃ xs, (upd H' t (kV2 (hi - 1, v))) bk = some (.lst xs) ∧ xs.length ≤ R.length ∧ Inn H fr bk p R d v lo (hi - 1) (upd (upd H' t (kV2 (hi - 1, v))) bk (.lst (xs ++ [.ref t]))) := by
  obtain ⟨i1, i2, s, ts, us, ks, ms, hf, hb, tf, tb, e⟩ := I
  have ntf : fr ≠ t := ne_of_none hf ht
  have ntb : bk ≠ t := ne_of_none hb ht
  refine ⟨us.map V.ref, by rw [upd_ne ntb]; exact hb, ?_, by omega, by omega, fr_same s nb ht, ts, us ++ [t], ks, ms ++ [(hi - 1, v)], ?_, ?_, ?_, ?_, ?_⟩
  · rw [List.length_map, tb.len, ← e, List.length_append, List.length_append, List.length_reverse]
    omega
  · rw [upd_ne nfb, upd_ne ntf]
    exact hf
  · rw [upd_same, List.map_append]
    rfl
  · exact tf.mono (tup_stay ht hb)
  · refine Tups.app (show Tups _ [t] [(hi - 1, v)] from ⟨?_, trivial⟩) (tb.mono (tup_stay ht hb))
    rw [upd_ne ntb.symm, upd_same]
  · rw [← e, B_high c m m2, List.reverse_append]
    simp only [List.append_assoc]
    rfl
theorem Inn.up {H H' : Hp} {fr bk : Addr} {p : Nat} {R : List (Nat × Nat)} {d v lo hi : Nat} (hp : 2 ≤ p) (I : Inn H fr bk p R d v lo hi H') (m : lo = hi ∨ (lo % p = 0 ∧ hi % p = 0)) (hd : 0 < d) : ∃ d', d' < d ∧ Inn H fr bk p R d' (v + 1) (lo / p) (hi / p) H' ∧ hi / p - lo / p = d' := by
  obtain ⟨i1, i2, s, ts, us, ks, ms, hf, hb, tf, tb, e⟩ := I
  have key : hi / p - lo / p < d ∧ B p (v + 1) (lo / p) (hi / p) = B p v lo hi := by
    by_cases c : lo = hi
    · subst c
      rw [B_end (by omega), B_end (by omega)]
      exact ⟨by omega, rfl⟩
    · rcases m with m | ⟨m, m2⟩
      · exact absurd m c
      · have h1 := half hp (show lo < hi by omega) m m2
        exact ⟨by omega, (B_up hp (by omega) m m2).symm⟩
  refine ⟨_, key.1, ⟨Nat.div_le_div_right i1, Nat.le_refl _, s, ts, us, ks, ms, hf, hb, tf, tb, ?_⟩, rfl⟩
  rw [key.2]
  exact e
def spBlocks : Sp := fun vs H Q _ => ∃ (f l p : Nat), vs = [.int (f : Int), .int (l : Int), .int (p : Int)] ∧ f ≤ l ∧ 2 ≤ p ∧ p ≤ 4 ∧ (B p 0 f (l + 1)).length ≤ 1000 ∧
  ∀ (q : Addr) (ts : List Addr) (H' : Hp), Same H H' → H q = none → H' q = some (.lst (ts.map V.ref)) → Tups H' ts (B p 0 f (l + 1)) → Q (.ref q) H'
def spSize : Sp := fun vs H Q _ => ∃ (p m : Nat), vs = [.int (p : Int), .int (m : Int)] ∧ p < 1000 ∧ m < 1000 ∧ Q (.int ((p ^ m : Nat) : Int)) H
end HG

namespace HG
open PySem PySem.Spec PyProof.Rows L2
/-! what holds of a wish holds of a weaker one -/
def MoE (t : TE) : Prop := ∀ σ H Q Q', (∀ v H1, Q v H1 → Q' v H1) → t σ H Q → t σ H Q'
def MoT (t : TT) : Prop := ∀ σ H Q Q', (∀ b H1, Q b H1 → Q' b H1) → t σ H Q → t σ H Q'
def MoA (t : TA) : Prop := ∀ σ H Q Q', (∀ vs H1, Q vs H1 → Q' vs H1) → t σ H Q → t σ H Q'
def MoR (r : R2) : Prop := ∀ x y H Q Q', (∀ v H1, Q v H1 → Q' v H1) → r x y H Q → r x y H Q'
theorem mo_var {i : Nat} : MoE (tVar i) := fun σ H Q Q' hq ⟨v, e, q⟩ => ⟨v, e, hq _ _ q⟩
theorem mo_c {v : V} : MoE (tC v) := fun σ H Q Q' hq q => hq _ _ q
theorem mo_op {r : R2} {ta tb : TE} (hr : MoR r) (ha : MoE ta) (hb : MoE tb) : MoE (tOp r ta tb) := fun σ H Q Q' hq h => ha σ H _ _ (fun x H1 h1 => hb σ H1 _ _ (fun y H2 h2 => hr x y H2 _ _ hq h2) h1) h
theorem mo_rI {C : Int → Int → Prop} {g : Int → Int → V} : MoR (rI C g) := fun x y H Q Q' hq ⟨i, j, e1, e2, c, q⟩ => ⟨i, j, e1, e2, c, hq _ _ q⟩
theorem mo_rI0 {g : Int → Int → V} : MoR (rI0 g) := fun x y H Q Q' hq ⟨i, j, e1, e2, q⟩ => ⟨i, j, e1, e2, hq _ _ q⟩
theorem mo_rEq : MoR rEq := fun x y H Q Q' hq ⟨c, q⟩ => ⟨c, hq _ _ q⟩
theorem mo_rNe : MoR rNe := fun x y H Q Q' hq ⟨c, q⟩ => ⟨c, hq _ _ q⟩
theorem mo_rIxL {K : PySem.W.Frag} : MoR (rIxL K) := fun x y H Q Q' hq ⟨p, xs, i, v, e1, e2, s, a, q⟩ => ⟨p, xs, i, v, e1, e2, s, a, hq _ _ q⟩
theorem mo_test {t : TE} (h : MoE t) : MoT (tTest t) := fun σ H Q Q' hq q => h σ H _ _ (fun v H1 ⟨k, e, q⟩ => ⟨k, e, hq _ _ q⟩) q
theorem mo_and {t u : TT} (ht : MoT t) (hu : MoT u) : MoT (tAnd t u) := fun σ H Q Q' hq q => ht σ H _ _ (fun c H1 q => by
  cases c with
  | true => exact iteT (hu σ H1 _ _ hq (by simpa using q))
  | false => exact iteF (hq _ _ (by simpa using q))) q
end HG

/-! data of any depth: it stays, it can be compared -/
namespace HG
open PySem PySem.Spec PyProof.Rows L2
theorem sqT_same {K : PySem.W.Frag} {H H' : Hp} {a : Addr} {xs : List V} (e : Same H H') (h : SqT K H a xs) : SqT K H' a xs := by
  rcases h with (h | ⟨o, h⟩) | h
  · exact .inl (.inl (e _ _ h))
  · exact .inl (.inr ⟨o, e _ _ h⟩)
  · exact .inr h
mutual
theorem dp_same {K : PySem.W.Frag} {H H' : Hp} (s : Same H H') : ∀ (d : PyData) (v : V), Dp K H v d → Dp K H' v d
  | .none, _, h => by cases h; exact .non
  | .bool b, _, h => by cases h; exact .bl b
  | .int i, _, h => by cases h; exact .int i
  | .str x, _, h => by cases h; exact .str x
  | .list ds, _, h => by
    cases h with
    | lst h1 h2 => exact .lst (s.seq h1) (dpAll_same s ds _ h2)
  | .tuple ds, _, h => by
    cases h with
    | tup h1 h2 => exact .tup (sqT_same s h1) (dpAll_same s ds _ h2)
  | .dict _, _, h => by cases h
theorem dpAll_same {K : PySem.W.Frag} {H H' : Hp} (s : Same H H') : ∀ (ds : List PyData) (vs : List V), DpAll K H vs ds → DpAll K H' vs ds
  | [], _, h => by cases h; exact .nil
  | d :: ds, _, h => by
    cases h with
    | cons h1 h2 => exact .cons (dp_same s d _ h1) (dpAll_same s ds _ h2)
end
theorem dp_lst {K : PySem.W.Frag} {H : Hp} {p : Addr} {xs : List V} {ds : List PyData} (h : DpAll K H xs ds) (np : H p = none) : Dp K (upd H p (.lst xs)) (.ref p) (.list ds) :=
  .lst (.of upd_same) (dpAll_same (same_upd np) _ _ h)
theorem dp_tup {K : PySem.W.Frag} {H : Hp} {p : Addr} {xs : List V} {ds : List PyData} (h : DpAll K H xs ds) (np : H p = none) : Dp K (upd H p (.tup xs)) (.ref p) (.tuple ds) :=
  .tup (.of upd_same) (dpAll_same (same_upd np) _ _ h)
theorem dpAll_ints {K : PySem.W.Frag} {H : Hp} : ∀ ns : List Int, DpAll K H (ns.map V.int) (ns.map PyData.int)
  | [] => .nil
  | n :: ns => .cons (.int n) (dpAll_ints ns)
theorem shaped_list {ds : List PyData} (h : ∀ d ∈ ds, PyData.canLay0 d = true ∧ PyData.depth d ≤ 40) : PyData.canLay0 (.list ds) = true ∧ SeqAt.shaped (.list ds) = true := by
  have key : PyData.canLayAll0 ds = true ∧ PyData.depthAll ds ≤ 40 := by
    induction ds with
    | nil => exact ⟨rfl, by show 0 ≤ 40; decide⟩
    | cons d ds ih =>
      obtain ⟨i1, i2⟩ := ih fun d' hd => h d' (List.mem_cons_of_mem _ hd)
      obtain ⟨j1, j2⟩ := h d List.mem_cons_self
      refine ⟨?_, ?_⟩
      · show (PyData.canLay0 d && PyData.canLayAll0 ds) = true
        rw [j1, i1]
        rfl
      · show max (PyData.depth d) (PyData.depthAll ds) ≤ 40
        omega
  refine ⟨key.1, ?_⟩
  show (PyData.canLayAll0 ds && decide (PyData.depthAll ds + 1 ≤ 64)) = true
  rw [key.1, decide_eq_true (by omega)]
  rfl
theorem shaped_ints (ns : List Int) : PyData.canLay0 (.list (ns.map PyData.int)) = true ∧ SeqAt.shaped (.list (ns.map PyData.int)) = true := shaped_list fun d hd => by
  obtain ⟨n, _, rfl⟩ := List.mem_map.mp hd
  exact ⟨rfl, by show 0 ≤ 40; decide⟩
theorem shaped_kD (ks : List (Nat × Nat)) : PyData.canLay0 (.list (ks.map kD)) = true ∧ SeqAt.shaped (.list (ks.map kD)) = true := shaped_list fun d hd => by
  obtain ⟨n, _, rfl⟩ := List.mem_map.mp hd
  exact ⟨rfl, by show 1 ≤ 40; decide⟩
end HG

namespace P14
open PySem PySem.Spec PyProof.Rows L2 HG
def topS (i : Nat) : Stmt := PySem.Challenge.pw_halfpace_k14_blocks_walked.main.body.getD i (.Pass ⟨0, 0, 0, 0⟩)
abbrev sBlocks : Stmt := topS 1
abbrev sBag : Stmt := topS 3
abbrev sTake : Stmt := topS 4
abbrev sInBlock : Stmt := topS 5
abbrev sIsBlock : Stmt := topS 6
abbrev sLaw : Stmt := topS 7
section
variable {P : Program} {w : World} {K : PySem.W.Frag} {mg : Str → Option Value} {base : Heap}
theorem scBag : FnScope ["script", "cell"] ["script"] (defScope sBag) := ⟨rfl, rfl, rfl, by decide +kernel, rfl, by decide +kernel, by decide +kernel⟩
theorem ok_bag {f : Addr} {fd : FuncData} {k : Nat} (F : Fun K "_law_bag" "_law_bag" sBag f fd) (ma : mg "abs" = none) : FnOk P w K mg base CX0 (k + 1) f fd ["script"] (spBag K) := by
  refine F.ok scBag (fun vs H Q E h => ?_) (fun cdv A outer s H vs Q E hr h => ?_)
  · obtain ⟨a, ns, rfl, _⟩ := h
    rfl
  · obtain ⟨a, ns, rfl, hS, hl, k⟩ := h
    refine ⟨_, pss_one (ps_ret (pe_lst (pa_cons pe_int (pa_cons pe_int (pa_cons pe_int (pa_cons
      (pe_lc (own := [("cell", 1)]) (g := gName 1) (tt := tYes) rfl scBag.nd (pi_list (pe_slice sl_list (pv 0) po_none (po_some pe_int))) (blkOk_by (N := ["script", "cell"]) (sc := defScope sBag) (by decide +kernel))
        (fun _ _ _ _ _ => pg_name (i := 1) scBag.nd rfl (Or.inl rfl)) (fun _ _ _ _ _ => pts_nil)
        (fun _ _ _ _ _ => pe_callB call_abs (by rfl) ma (by decide +kernel) (pa_cons (pv 1) pa_nil))) pa_nil)))))), ?_⟩
    refine ⟨.ref a, rfl, 63, rfl, a, ns.map V.int, rfl, hS, fun c nc => ?_⟩
    have hcut : cutV (ns.map V.int) none (some 63) = ns.map V.int := by
      unfold cutV
      rw [HT.sIx_none, List.drop_zero, show HT.sIx (ns.map V.int).length (ns.map V.int).length (some 63) = min 63 (ns.map V.int).length from HT.sIx_nat _ _ 63, List.length_map]
      apply List.take_of_length_le
      rw [List.length_map]
      omega
    rw [hcut]
    have s1 : Same H (upd H c (.lst (ns.map V.int))) := same_upd nc
    refine ⟨c, rfl, ⟨_, .of upd_same⟩, fun D hD => ?_⟩
    have ncD : c ≠ D := fun e => by rw [← e, upd_same] at hD; cases hD
    refine lc_list (K := K) (a := c) (xs := ns.map V.int) (fun i H' => ∃ ms : List Int, Same H H' ∧ H' c = some (.lst (ns.map V.int)) ∧ H' D = some (.lst (ms.map V.int)) ∧ ms.length = i ∧ D ≠ c) ?_ ?_ ?_ ?_
    · refine ⟨[], ?_, ?_, upd_same, rfl, ncD.symm⟩
      · exact s1.trans (same_upd hD)
      · rw [upd_ne ncD, upd_same]
    · rintro i H' hi ⟨ms, q1, q2, q3, q4, q5⟩
      exact .of q2
    · rintro i x H' hi ⟨ms, q1, q2, q3, q4, q5⟩
      obtain ⟨z, rfl⟩ : ∃ z, x = V.int z := by
        rw [List.getElem?_map] at hi
        cases e : ns[i]? with
        | none => rw [e] at hi; cases hi
        | some z => rw [e] at hi; exact ⟨z, (Option.some.inj hi).symm⟩
      have hil : i < (ns.map V.int).length := (List.getElem?_eq_some_iff.mp hi).1
      rw [List.length_map] at hil
      have hD' : H D = none := by
        have : (upd H c (.lst (ns.map V.int))) D = H D := upd_ne ncD.symm
        rw [← this]; exact hD
      refine ⟨rfl, .int z, rfl, _, rfl, ms.map V.int, q3, ?_, ms ++ [if z < 0 then -z else z], fun b o e => ?_, ?_, ?_, ?_, q5⟩
      · rw [List.length_map]; exact small1000 (by omega)
      · rw [upd_ne (ne_of_none e hD')]
        exact q1 b o e
      · rw [upd_ne ncD]; exact q2
      · rw [upd_same, List.map_append]; rfl
      · rw [List.length_append]; simp [q4]
    · rintro H' ⟨ms, q1, q2, q3, q4, q5⟩
      refine ⟨by show 4 ≤ sizeLine; decide, fun p hp => ?_⟩
      have hpn : H p = none := q1.free hp
      have nDp : D ≠ p := ne_of_none q3 hp
      exact k p _ (q1.trans (same_upd hp)) hpn ⟨D, 0, 1234567891, 0, ms, upd_same, by rw [upd_ne nDp]; exact q3, by decide⟩
theorem scTake : FnScope ["bag", "many", "cell", "value", "first", "second"] ["bag", "many"] (defScope sTake) := ⟨rfl, rfl, rfl, by decide +kernel, rfl, by decide +kernel, by decide +kernel⟩
theorem ok_take {f : Addr} {fd : FuncData} {k : Nat} (F : Fun K "_law_take" "_law_take" sTake f fd) (ml : mg "len" = none) : FnOk P w K mg base CX0 (k + 1) f fd ["bag", "many"] spTake := by
  refine F.ok scTake (fun vs H Q E h => ?_) (fun cdv A outer s H vs Q E hr h => ?_)
  · obtain ⟨p, m, rfl, _⟩ := h
    rfl
  · obtain ⟨p, m, rfl, ⟨c, b0, b1, b2, cs, hb, hc, h2⟩, hm, hm2, k⟩ := h
    have ncp : c ≠ p := bag_ne hb hc
    refine ⟨_, Evl.pss_cut (ps_if (pt_cmpR op_eq (pe_ix ix_list (pv 0) pe_int (fun _ _ => rfl)) pe_int (nomark _))
        (pss_cons (ps_set (i := 2) scTake.nd rfl (.inl rfl) pe_int)
        (Evl.pss_cut (ps_if (pt_cmpR op_lt (pe_ix ix_list (pv 0) pe_int (fun _ _ => rfl)) (pe_callB call_len_seq (by rfl) ml PySem.boot_len (pa_cons (pe_ix ix_list (pv 0) pe_int (fun _ _ => rfl)) pa_nil)) (nomark _))
            (pss_one (ps_set (i := 2) scTake.nd rfl (.inl rfl) (pe_ix ix_list (pe_ix ix_list (pv 0) pe_int (fun _ _ => rfl)) (pe_ix ix_list (pv 0) pe_int (fun _ _ => rfl)) (fun _ _ => rfl)))) pss_nil)
        (pss_cons (ps_augS (pv 0) pe_int get_list pe_int ip_add set_list)
        (Evl.pss_cut (ps_if (pt_cmpR op_ge (pv 2) pe_int (nomark _)) (pss_one (ps_asg (pv 2) (pg_sub (pv 0) pe_int set_list))) pss_nil)
        (pss_one (ps_asg (pe_op op_mod (pe_op op_add (pe_op op_add (pe_op op_mul (pe_ix ix_list (pv 0) pe_int (fun _ _ => rfl)) pe_int) (pe_op op_mod (pv 2) pe_int)) (pe_op op_mul pe_int (pe_ix ix_list (pv 0) pe_int (fun _ _ => rfl)))) pe_int) (pg_sub (pv 0) pe_int set_list))))))) pss_nil)
      (pss_cons (ps_if (pt_cmpR op_gt (pe_ix ix_list (pv 0) pe_int (fun _ _ => rfl)) pe_int (nomark _))
        (pss_cons (ps_set (i := 3) scTake.nd rfl (.inl rfl) (pe_op op_mod (pe_ix ix_list (pv 0) pe_int (fun _ _ => rfl)) (pv 1)))
        (pss_cons (ps_asg (pe_op op_fdivW (pe_ix ix_list (pv 0) pe_int (fun _ _ => rfl)) (pv 1)) (pg_sub (pv 0) pe_int set_list))
        (pss_one (ps_ret (pv 3))))) pss_nil)
      (pss_cons (ps_set (i := 4) scTake.nd rfl (.inl rfl) (pe_op op_mod (pe_op op_mul (pe_op op_add (pe_ix ix_list (pv 0) pe_int (fun _ _ => rfl)) pe_int) pe_int) pe_int))
      (pss_cons (ps_set (i := 5) scTake.nd rfl (.inl rfl) (pe_op op_mod (pe_op op_mul (pe_op op_mod (pe_op op_mul (pv 4) (pv 4)) pe_int) pe_int) pe_int))
      (pss_cons (ps_if (pt_cmpR op_gt (pv 1) pe_int (nomark _)) (pss_one (ps_ret (pe_op op_mod (pe_op op_add (pe_op op_mul (pv 5) pe_int) (pv 4)) (pv 1)))) pss_nil)
      (pss_one (ps_ret (pe_op op_mod (pe_op op_fdiv (pv 5) pe_int) (pv 1)))))))), ?_⟩
    refine ⟨fun σ H' => ∃ (o2 : Option V) (b0 b1 b2 : Int), σ = [some (.ref p), some (.int m), o2, none, none, none] ∧ H' = upd H p (bagL b0 b1 b2 c) ∧ 0 ≤ b2, ?_, ?_⟩
    · refine ⟨_, rfl, p, _, 0, .int b0, rfl, rfl, .of hb, rfl, rfl, _, rfl, ite2 (fun _ => ?_) (fun _ => ?_)⟩
      · -- cell = 0
        refine ⟨fun σ H' => H' = H ∧ ∃ z, σ = [some (.ref p), some (.int m), some (.int z), none, none, none], ?_, ?_⟩
        · refine ⟨_, rfl, p, _, 2, .int b2, rfl, rfl, .of hb, rfl, _, rfl, p, _, 3, .ref c, rfl, rfl, .of hb, rfl, c, cs.map V.int, rfl, .inl (.of hc), _, _, rfl, rfl, _, rfl, ite2 (fun hlt => ?_) (fun _ => ?_)⟩
          · have hlt := of_decide_eq_true hlt
            have hj : b2.toNat < cs.length := by rw [List.length_map] at hlt; omega
            refine ⟨_, rfl, p, _, 3, .ref c, rfl, rfl, .of hb, rfl, _, rfl, p, _, 2, .int b2, rfl, rfl, .of hb, rfl, c, cs.map V.int, b2, .int cs[b2.toNat], rfl, rfl, .of hc, ?_, rfl, _, rfl⟩
            apply atI_int h2
            rw [List.getElem?_map, List.getElem?_eq_getElem (by simpa using hj)]
            rfl
          · exact ⟨rfl, 0, rfl⟩
        · rintro σ H1 ⟨rfl, z, rfl⟩
          refine ⟨_, rfl, p, _, 2, .int b2, rfl, rfl, .of hb, by decide, rfl, _, _, rfl, rfl, p, _, 2, 2, rfl, rfl, hb, rfl, ?_⟩
          have e1 : upd H1 p (HO.lst ([V.int b0, V.int b1, V.int b2, V.ref c].set 2 (V.int (b2 + 1)))) = upd H1 p (bagL b0 b1 (b2 + 1) c) := rfl
          refine ⟨fun σ H2 => ∃ b0, H2 = upd H1 p (bagL b0 b1 (b2 + 1) c) ∧ σ = [some (.ref p), some (.int m), some (.int z), none, none, none], ?_, ?_⟩
          · refine ⟨_, rfl, _, _, rfl, rfl, _, rfl, ite2 (fun _ => ?_) (fun _ => ?_)⟩
            · refine ⟨_, rfl, _, rfl, p, _, 0, 0, rfl, rfl, upd_same, rfl, z, ?_, rfl⟩
              rw [upd_upd]
              rfl
            · exact ⟨b0, rfl, rfl⟩
          · rintro σ _ ⟨b0', rfl, rfl⟩
            refine ⟨_, rfl, p, _, 1, .int b1, rfl, rfl, .of upd_same, rfl, _, _, rfl, rfl, .inr ⟨by decide, by decide⟩, _, rfl, _, _, rfl, rfl, (by show (0 : Int) < 2147483647; decide), _, _, rfl, rfl, _, rfl, p, _, 2, .int (b2 + 1), rfl, rfl, .of upd_same, rfl, _, _, rfl, rfl, .inl ⟨by decide, by decide⟩, _, _, rfl, rfl, _, _, rfl, rfl, (by show (0 : Int) < 2147483647; decide), _, rfl, p, _, 1, 1, rfl, rfl, upd_same, rfl, _, b0', _, b2 + 1, rfl, upd_upd, by omega⟩
      · exact ⟨none, b0, b1, b2, rfl, (upd_self hb).symm, h2⟩
    · rintro σ _ ⟨o2, d0, d1, d2, rfl, rfl, hd⟩
      have hB : ∀ x y z : Int, 0 ≤ z → Bag (upd H p (bagL x y z c)) p := fun x y z hz => ⟨c, x, y, z, cs, upd_same, by rw [upd_ne ncp]; exact hc, hz⟩
      refine ⟨_, rfl, p, _, 0, .int d0, rfl, rfl, .of upd_same, rfl, _, _, rfl, rfl, _, rfl, ite2 (fun hpos => ?_) (fun _ => ?_)⟩
      · refine ⟨_, rfl, p, _, 0, .int d0, rfl, rfl, .of upd_same, rfl, _, rfl, _, _, rfl, rfl, hm, ?_⟩
        refine ⟨_, rfl, p, _, 0, .int d0, rfl, rfl, .of upd_same, rfl, _, rfl, _, _, rfl, rfl, wide_div hm hm2 (by decide) (by decide), _, rfl, p, _, 0, 0, rfl, rfl, upd_same, rfl, _, rfl, ?_⟩
        rw [upd_upd]
        exact k _ _ (Int.emod_nonneg _ (by omega)) (Int.emod_lt_of_pos _ hm) (hB _ _ _ hd)
      · refine ⟨_, rfl, p, _, 1, .int d1, rfl, rfl, .of upd_same, rfl, _, _, rfl, rfl, _, _, rfl, rfl, .inr ⟨by decide, by decide⟩, _, _, rfl, rfl, (by show (0 : Int) < 1000000007; decide), ?_⟩
        have hf0 : 0 ≤ (d1 + 1) * 39373 % 1000000007 := Int.emod_nonneg _ (by decide)
        have hf1 : (d1 + 1) * 39373 % 1000000007 < 1000000007 := Int.emod_lt_of_pos _ (by decide)
        generalize (d1 + 1) * 39373 % 1000000007 = fst at *
        refine ⟨_, rfl, _, rfl, _, _, rfl, rfl, .inl ⟨by omega, by omega⟩, _, _, rfl, rfl, (by show (0 : Int) < 998244353; decide), _, _, rfl, rfl, .inr ⟨by decide, by decide⟩, _, _, rfl, rfl, (by show (0 : Int) < 998244353; decide), ?_⟩
        generalize fst * fst % 998244353 * 30011 % 998244353 = snd
        refine ⟨_, rfl, _, _, rfl, rfl, _, rfl, ite2 (fun _ => ?_) (fun _ => ?_)⟩
        · refine ⟨_, rfl, _, _, rfl, rfl, .inr ⟨by decide, by decide⟩, _, rfl, _, _, rfl, rfl, _, rfl, _, _, rfl, rfl, hm, ?_⟩
          exact k _ _ (Int.emod_nonneg _ (by omega)) (Int.emod_lt_of_pos _ hm) (hB _ _ _ hd)
        · refine ⟨_, rfl, _, _, rfl, rfl, ⟨by decide, by decide⟩, _, rfl, _, _, rfl, rfl, hm, ?_⟩
          exact k _ _ (Int.emod_nonneg _ (by omega)) (Int.emod_lt_of_pos _ hm) (hB _ _ _ hd)
end
end P14

namespace P14
open PySem PySem.Spec PyProof.Rows L2 HG HB
section
variable {P : Program} {w : World} {K : PySem.W.Frag} {mg : Str → Option Value} {base : Heap}
theorem scB : FnScope ["first", "last", "pace", "front", "back", "level", "low", "high"] ["first", "last", "pace"] (defScope sBlocks) := ⟨rfl, rfl, rfl, by decide +kernel, rfl, by decide +kernel, by decide +kernel⟩
theorem dec_ne0 {i : Int} : (!decide (V.int i = V.int 0)) = true ↔ i ≠ 0 := by
  rw [dec_int]
  simp
theorem ok_blocks {f : Addr} {fd : FuncData} {k : Nat} (F : Fun K "blocks" "blocks" sBlocks f fd) : FnOk P w K mg base CX0 (k + 1) f fd ["first", "last", "pace"] spBlocks := by
  refine F.ok scB (fun vs H Q E h => ?_) (fun cdv A outer s H vs Q E hr h => ?_)
  · obtain ⟨f, l, p, rfl, _⟩ := h
    rfl
  · obtain ⟨f, l, p, rfl, hfl, hp, hp4, hlen, k⟩ := h
    refine ⟨_, (pss_cons (ps_set (i := 3) scB.nd rfl (.inl rfl) (pe_lst pa_nil))
      (pss_cons (ps_set (i := 4) scB.nd rfl (.inl rfl) (pe_lst pa_nil))
      (pss_cons (ps_set (i := 5) scB.nd rfl (.inl rfl) pe_int)
      (pss_cons (ps_set (i := 6) scB.nd rfl (.inl rfl) (pv 0))
      (pss_cons (ps_set (i := 7) scB.nd rfl (.inl rfl) (pe_op op_add (pv 1) pe_int))
      (pss_cons (ps_while PassesOwn.never (pt_cmpR op_lt (pv 6) (pv 7) (nomark _))
         (Evl.pss_cut (ps_while PassesOwn.never (PW.pt (pw_and (pt_cmpR op_lt (pv 6) (pv 7) (nomark _)) (pw_and1 (pt_cmpR op_ne (pe_op op_mod (pv 6) (pv 2)) pe_int (nomark _)))))
            (pss_cons (ps_expr (pe_bm PySem.F.plainAttrs_list PySem.F.slot_list_append PySem.F.type_list_append mt_append (pv 3) (pa_cons (pe_tup (pa_cons (pv 6) (pa_cons (pv 5) pa_nil))) pa_nil)))
            (pss_one (ps_aug (i := 6) scB.nd rfl (.inl rfl) pe_int ip_add))))
         (Evl.pss_cut (ps_while PassesOwn.never (PW.pt (pw_and (pt_cmpR op_lt (pv 6) (pv 7) (nomark _)) (pw_and1 (pt_cmpR op_ne (pe_op op_mod (pv 7) (pv 2)) pe_int (nomark _)))))
            (pss_cons (ps_aug (i := 7) scB.nd rfl (.inl rfl) pe_int ip_sub)
            (pss_one (ps_expr (pe_bm PySem.F.plainAttrs_list PySem.F.slot_list_append PySem.F.type_list_append mt_append (pv 4) (pa_cons (pe_tup (pa_cons (pv 7) (pa_cons (pv 5) pa_nil))) pa_nil))))))
         (pss_cons (ps_set (i := 6) scB.nd rfl (.inl rfl) (pe_op op_fdiv (pv 6) (pv 2)))
         (pss_cons (ps_set (i := 7) scB.nd rfl (.inl rfl) (pe_op op_fdiv (pv 7) (pv 2)))
         (pss_one (ps_aug (i := 5) scB.nd rfl (.inl rfl) pe_int ip_add)))))))
      (pss_one (ps_ret (pe_op op_cat (pv 3) (pe_revL (pv 4))))))))))), ?_⟩
    refine ⟨Nat.zero_le _, fun fr nfr => ⟨Nat.zero_le _, fun bk nbk => ?_⟩⟩
    have nb : H bk = none := (same_upd nfr).free nbk
    have nfb : fr ≠ bk := ne_of_none (upd_same) nbk
    refine ⟨_, rfl, _, rfl, _, _, rfl, rfl, ?_⟩
    have cst : ∀ lo : Nat, (lo : Int) + 1 = ((lo + 1 : Nat) : Int) := fun lo => by omega
    let R := B p 0 f (l + 1)
    let fm : Nat → Nat → Nat → L2.St := fun v lo hi => [some (.int (f : Int)), some (.int (l : Int)), some (.int (p : Int)), some (.ref fr), some (.ref bk), some (.int (v : Int)), some (.int (lo : Int)), some (V.int (hi : Int))]
    refine while_by (fun σ H' => ∃ v lo hi, σ = fm v lo hi ∧ Inn H fr bk p R (hi - lo) v lo hi H') (fun σ H' => match σ with | [_, _, _, _, _, _, some (.int lo), some (.int hi)] => (hi - lo).toNat | _ => 0) ?_ ?_ ?_
    · refine ⟨0, f, l + 1, ?_, by omega, Nat.le_refl _, (same_upd nfr).trans (same_upd nbk), [], [], [], [], ?_, upd_same, trivial, trivial, ?_⟩
      · show _ = fm 0 f (l + 1)
        rw [show fm 0 f (l + 1) = [some (.int (f : Int)), some (.int (l : Int)), some (.int (p : Int)), some (.ref fr), some (.ref bk), some (.int ((0 : Nat) : Int)), some (.int (f : Int)), some (.int ((l + 1 : Nat) : Int))] from rfl, ← cst]
        rfl
      · rw [upd_ne nfb]; exact upd_same
      · show [] ++ B p 0 f (l + 1) ++ [] = R
        rw [List.append_nil, List.nil_append]
    · rintro σ H1 ⟨v, lo, hi, rfl, I⟩
      refine ⟨_, rfl, _, rfl, _, _, rfl, rfl, _, rfl, ite2 (fun hlt => ?_) (fun hge => ?_)⟩
      · have hlt : (lo : Int) < hi := of_decide_eq_true hlt
        have hd : 0 < hi - lo := by omega
        generalize hdd : hi - lo = d at I hd
        have hmu : ∀ σ', (match fm v lo hi with | [_, _, _, _, _, _, some (.int lo), some (.int hi)] => (hi - lo).toNat | _ => 0) = d := fun _ => by
          show ((hi : Int) - lo).toNat = d
          omega
        -- the first inner while
        refine ⟨fun σ H' => ∃ lo', σ = fm v lo' hi ∧ Inn H fr bk p R d v lo' hi H' ∧ (lo' = hi ∨ lo' % p = 0), ?_, ?_⟩
        · refine while_by (fun σ H' => ∃ lo', σ = fm v lo' hi ∧ Inn H fr bk p R d v lo' hi H') (fun σ H' => match σ with | [_, _, _, _, _, _, some (.int lo), some (.int hi)] => (hi - lo).toNat | _ => 0) ⟨lo, rfl, I⟩ ?_ ?_
          · rintro σ H2 ⟨lo', rfl, I2⟩
            refine ⟨_, rfl, _, rfl, _, _, rfl, rfl, _, rfl, ite2 (fun c => ?_) (fun c => ?_)⟩
            · have c : (lo' : Int) < hi := of_decide_eq_true c
              refine ⟨_, rfl, _, rfl, _, _, rfl, rfl, (by show (0 : Int) < (p : Int); omega), rfl, _, rfl, ite2 (fun c1 => ?_) (fun c1 => ?_)⟩
              · have c1 : (lo' : Int) % p ≠ 0 := dec_ne0.mp c1
                refine ⟨_, rfl, .inl ⟨rfl, _, .of I2.2.2.2.choose_spec.choose_spec.choose_spec.choose_spec.1⟩, _, rfl, _, rfl, (by show 2 ≤ sizeLine; decide), fun t nt => ?_⟩
                obtain ⟨xs, g1, g2, I3⟩ := I2.front nfr nfb (by omega) (by omega) nt
                refine ⟨fr, xs, .ref t, rfl, rfl, g1, small1000 (Nat.le_trans g2 hlen), _, rfl, _, _, rfl, rfl, ⟨⟨lo' + 1, ?_, I3⟩, ?_⟩⟩
                · show _ = [some (V.int (f : Int)), some (V.int (l : Int)), some (V.int (p : Int)), some (V.ref fr), some (V.ref bk), some (V.int (v : Int)), some (V.int ((lo' + 1 : Nat) : Int)), some (V.int (hi : Int))]
                  rw [← cst] <;> rfl
                · show ((hi : Int) - ((lo' : Int) + 1)).toNat < ((hi : Int) - lo').toNat
                  omega
              · have c1 : ¬ ((lo' : Int) % p ≠ 0) := fun z => c1 (dec_ne0.mpr z)
                exact ⟨lo', rfl, I2, .inr (by omega)⟩
            · have c : ¬ ((lo' : Int) < hi) := fun z => c (decide_eq_true z)
              refine iteF ?_
              exact ⟨lo', rfl, I2, .inl (by have := I2.1; omega)⟩
          · exact mo_and (mo_test (mo_op mo_rI0 mo_var mo_var)) (mo_test (mo_op mo_rNe (mo_op mo_rI mo_var mo_var) mo_c))
        · rintro σ H2 ⟨lo2, rfl, I2, z2⟩
          refine ⟨fun σ H' => ∃ hi', σ = fm v lo2 hi' ∧ Inn H fr bk p R d v lo2 hi' H' ∧ (lo2 = hi' ∨ (lo2 % p = 0 ∧ hi' % p = 0)), ?_, ?_⟩
          · refine while_by (fun σ H' => ∃ hi', σ = fm v lo2 hi' ∧ Inn H fr bk p R d v lo2 hi' H' ∧ (lo2 = hi' ∨ lo2 % p = 0)) (fun σ H' => match σ with | [_, _, _, _, _, _, some (.int lo), some (.int hi)] => (hi - lo).toNat | _ => 0) ⟨hi, rfl, I2, z2⟩ ?_ ?_
            · rintro σ H3 ⟨hi', rfl, I3, z3⟩
              refine ⟨_, rfl, _, rfl, _, _, rfl, rfl, _, rfl, ite2 (fun c => ?_) (fun c => ?_)⟩
              · have c : (lo2 : Int) < hi' := of_decide_eq_true c
                have z3' : lo2 % p = 0 := by omega
                refine ⟨_, rfl, _, rfl, _, _, rfl, rfl, (by show (0 : Int) < (p : Int); omega), rfl, _, rfl, ite2 (fun c1 => ?_) (fun c1 => ?_)⟩
                · have c1 : (hi' : Int) % p ≠ 0 := dec_ne0.mp c1
                  refine ⟨_, rfl, _, _, rfl, rfl, ?_⟩
                  refine ⟨_, rfl, .inl ⟨rfl, _, .of I3.2.2.2.choose_spec.choose_spec.choose_spec.choose_spec.2.1⟩, _, rfl, _, rfl, (by show 2 ≤ sizeLine; decide), fun t nt => ?_⟩
                  obtain ⟨xs, g1, g2, I4⟩ := I3.back nb nfb (by omega) z3' (by omega) nt
                  have ec : (hi' : Int) - 1 = ((hi' - 1 : Nat) : Int) := by omega
                  refine ⟨bk, xs, .ref t, rfl, rfl, ?_, small1000 (Nat.le_trans g2 hlen), ⟨⟨hi' - 1, ?_, ?_, .inr z3'⟩, ?_⟩⟩
                  · rw [← g1]
                    unfold kV2
                    rw [← ec] <;> rfl
                  · show _ = [some (V.int (f : Int)), some (V.int (l : Int)), some (V.int (p : Int)), some (V.ref fr), some (V.ref bk), some (V.int (v : Int)), some (V.int (lo2 : Int)), some (V.int ((hi' - 1 : Nat) : Int))]
                    rw [← ec] <;> rfl
                  · unfold kV2 at I4
                    rw [← ec] at I4
                    exact I4
                  · show (((hi' : Int) - 1) - lo2).toNat < ((hi' : Int) - lo2).toNat
                    omega
                · have c1 : ¬ ((hi' : Int) % p ≠ 0) := fun z => c1 (dec_ne0.mpr z)
                  exact ⟨hi', rfl, I3, .inr ⟨z3', by omega⟩⟩
              · have c : ¬ ((lo2 : Int) < hi') := fun z => c (decide_eq_true z)
                refine iteF ?_
                exact ⟨hi', rfl, I3, .inl (by have := I3.1; omega)⟩
            · exact mo_and (mo_test (mo_op mo_rI0 mo_var mo_var)) (mo_test (mo_op mo_rNe (mo_op mo_rI mo_var mo_var) mo_c))
          · rintro σ H3 ⟨hi', rfl, I3, z3⟩
            have hpC : CDiv (lo2 : Int) (p : Int) := ⟨by omega, by omega⟩
            have hpC2 : CDiv (hi' : Int) (p : Int) := ⟨by omega, by omega⟩
            refine ⟨_, rfl, _, rfl, _, _, rfl, rfl, hpC, _, rfl, _, rfl, _, _, rfl, rfl, hpC2, _, rfl, _, _, rfl, rfl, ?_⟩
            obtain ⟨d', hd', I4, e4⟩ := I3.up hp z3 hd
            refine ⟨⟨v + 1, lo2 / p, hi' / p, ?_, ?_⟩, ?_⟩
            · show _ = [some (V.int (f : Int)), some (V.int (l : Int)), some (V.int (p : Int)), some (V.ref fr), some (V.ref bk), some (V.int ((v + 1 : Nat) : Int)), some (V.int ((lo2 / p : Nat) : Int)), some (V.int ((hi' / p : Nat) : Int))]
              rw [← cst, Int.natCast_ediv, Int.natCast_ediv] <;> rfl
            · rw [e4]
              exact I4
            · show (((hi' : Int) / p) - ((lo2 : Int) / p)).toNat < ((hi : Int) - lo).toNat
              rw [← Int.natCast_ediv, ← Int.natCast_ediv]
              omega
      · have hge : ¬ ((lo : Int) < hi) := fun z => hge (decide_eq_true z)
        obtain ⟨i1, i2, s1, ts, us, ks, ms, hf, hb, tf, tb, e⟩ := I
        have l1 : ts.length + us.length ≤ 1000 := by
          have e2 := congrArg List.length e
          rw [List.length_append, List.length_append, List.length_reverse, ← tf.len, ← tb.len] at e2
          have : R.length ≤ 1000 := hlen
          omega
        refine ⟨_, rfl, _, rfl, bk, us.map V.ref, rfl, .of hb, fun c nc => ?_⟩
        have ncf : fr ≠ c := ne_of_none hf nc
        refine ⟨fr, c, ts.map V.ref, (us.map V.ref).reverse, rfl, rfl, by rw [upd_ne ncf]; exact hf, upd_same, ?_, fun q nq => ?_⟩
        · rw [List.length_reverse, List.length_map, List.length_map]
          exact Nat.le_of_lt (small1000 l1)
        · have s2 : Same H1 (upd H1 c (.lst (us.map V.ref).reverse)) := same_upd nc
          have s3 : Same H1 (upd (upd H1 c (.lst (us.map V.ref).reverse)) q (.lst (ts.map V.ref ++ (us.map V.ref).reverse))) := s2.trans (same_upd nq)
          refine k q (ts ++ us.reverse) _ (s1.trans s3) ((s1.trans s2).free nq) ?_ ?_
          · rw [upd_same, List.map_append, List.map_reverse]
          · show Tups _ _ R
            rw [← e, B_end (by omega), List.append_nil]
            exact Tups.mono (fun a b z => s3 _ _ z) (Tups.app tb.rev tf)
    · exact mo_test (mo_op mo_rI0 mo_var mo_var)
end
end P14

namespace P14
open PySem PySem.Spec PyProof.Rows L2 HG HB
/-- isinstance of what the kind is known of -/
theorem kit_t {K : PySem.W.Frag} : PySem.W.kitOne K (.type "tuple") (.type "tuple") = some true ∧ PySem.W.kitOne K (.type "list") (.type "list") = some true ∧ PySem.W.kitOne K (.type "int") (.type "int") = some true ∧ PySem.W.kitOne K (.type "int") (.type "bool") = some false := ⟨kit_ty (by decide +kernel), kit_ty (by decide +kernel), kit_ty (by decide +kernel), kit_ty (by decide +kernel)⟩
def spIn : Sp := fun vs H Q _ => ∃ (a k p : Nat), vs = [.int (a : Int), .int (k : Int), .int (p : Int)] ∧ 2 ≤ p ∧ p < 1000 ∧ k < 1000 ∧ (a + 1) * p ^ k ≤ 10000 ∧ ∀ (q : Addr), H q = none → Q (.ref q) (upd H q (.lst (rgV ((a * p ^ k : Nat) : Int) (((a + 1) * p ^ k : Nat) : Int))))
def spIs : Sp := fun vs H Q _ => ∃ (t : Addr) (k : Nat × Nat), vs = [.ref t] ∧ H t = some (kV2 k) ∧ ∀ H', Same H H' → Q (.bl true) H'
section
variable {P : Program} {w : World} {K : PySem.W.Frag} {mg : Str → Option Value} {base : Heap}
theorem scIn : FnScope ["number", "level", "pace", "size", "k"] ["number", "level", "pace"] (defScope sInBlock) := ⟨rfl, rfl, rfl, by decide +kernel, rfl, by decide +kernel, by decide +kernel⟩
theorem ok_in {f : Addr} {fd : FuncData} {k : Nat} (F : Fun K "_law_in_block" "_law_in_block" sInBlock f fd) (mr : mg "range" = none) (mL : mg "list" = none) : FnOk P w K mg base CX0 (k + 1) f fd ["number", "level", "pace"] spIn := by
  refine F.ok scIn (fun vs H Q E h => ?_) (fun cdv A outer s H vs Q E hr h => ?_)
  · obtain ⟨a, k, p, rfl, _⟩ := h
    rfl
  · obtain ⟨a, k, p, rfl, hp2, hp, hk, hb, q⟩ := h
    refine ⟨_, (pss_cons (ps_set (i := 3) scIn.nd rfl (.inl rfl) pe_int)
      (pss_cons (ps_for PassesOwn.never rfl (pi_range1 rfl mr (pa_cons (pv 1) pa_nil)) (pg_name (i := 4) scIn.nd rfl (.inl rfl))
         (pss_one (ps_set (i := 3) scIn.nd rfl (.inl rfl) (pe_op op_mul (pv 3) (pv 2)))))
      (pss_one (ps_ret (pe_listRg rfl (by rfl) mL (prg_2 (by rfl) mr (pe_op op_mulW (pv 0) (pv 3)) (pe_op op_mulW (pe_op op_add (pv 0) pe_int) (pv 3)))))))), ?_⟩
    refine ⟨_, rfl, (k : Int), rfl, by omega, by omega, ?_⟩
    rw [Int.toNat_natCast]
    refine for_range (fun i σ H' => ∃ o, σ = [some (.int (a : Int)), some (.int (k : Int)), some (.int (p : Int)), some (.int ((p ^ i : Nat) : Int)), o] ∧ H' = H) ⟨none, rfl, rfl⟩ ?_ ?_
    · rintro i σ _ hi ⟨o, rfl, rfl⟩
      refine ⟨_, rfl, _, rfl, _, _, rfl, rfl, .inr ⟨by omega, by omega⟩, some (.int (0 + (i : Int))), ?_, rfl⟩
      show ([_, _, _, some (V.int (((p ^ i : Nat) : Int) * (p : Int))), _] : L2.St) = _
      rw [← Int.natCast_mul, ← Nat.pow_succ]
    · rintro σ H1 ⟨o, rfl, rfl⟩
      have hb2 : a * p ^ k + p ^ k ≤ 10000 := by rw [← Nat.succ_mul]; exact hb
      have hpos : 0 < p ^ k := Nat.pow_pos (by omega)
      have ha : a ≤ a * p ^ k := Nat.le_mul_of_pos_right a hpos
      have e1 : (a : Int) * ((p ^ k : Nat) : Int) = ((a * p ^ k : Nat) : Int) := (Int.natCast_mul _ _).symm
      have e2 : ((a : Int) + 1) * ((p ^ k : Nat) : Int) = (((a + 1) * p ^ k : Nat) : Int) := (Int.natCast_mul _ _).symm
      refine ⟨_, rfl, _, rfl, _, _, rfl, rfl, wide_mul (a := 30) (b := 30) (by omega) (by omega) (by decide) (by decide) (by decide), _, rfl, _, _, rfl, rfl, _, rfl, _, _, rfl, rfl, wide_mul (a := 30) (b := 30) (by omega) (by omega) (by decide) (by decide) (by decide), ?_⟩
      refine ⟨_, _, rfl, rfl, ?_⟩
      have fin : ∀ x y : Int, x = ((a * p ^ k : Nat) : Int) → y = (((a + 1) * p ^ k : Nat) : Int) → RgOk x y ∧ ∀ q : Addr, H1 q = none → Q (.ref q) (upd H1 q (.lst (rgV x y))) := by
        rintro _ _ rfl rfl
        exact ⟨RgOk.of_le (by omega) (by omega) (by omega) (by omega), q⟩
      exact fin _ _ e1 e2
theorem scIs : FnScope ["thing", "part"] ["thing"] (defScope sIsBlock) := ⟨rfl, rfl, rfl, by decide +kernel, rfl, by decide +kernel, by decide +kernel⟩
theorem ok_is {f : Addr} {fd : FuncData} {k : Nat} (F : Fun K "_law_is_block" "_law_is_block" sIsBlock f fd) (mI : mg "isinstance" = none) (mT : mg "tuple" = none) (mi : mg "int" = none) (mb : mg "bool" = none) (ml : mg "len" = none) (mA : mg "all" = none) : FnOk P w K mg base CX0 (k + 1) f fd ["thing"] spIs := by
  refine F.ok scIs (fun vs H Q E h => ?_) (fun cdv A outer s H vs Q E hr h => ?_)
  · obtain ⟨t, k, rfl, _⟩ := h
    rfl
  · obtain ⟨t, k, rfl, ht, q⟩ := h
    refine ⟨_, (pss_cons (ps_if (PW.pt (pw_or (pt_not (pt_val (pe_callB (id := "isinstance") (r := rIsi K) call_isi (by rfl) mI (by decide +kernel) (pa_cons (pv 0) (pa_cons (pe_bltn (v := .ty "tuple") (by rfl) mT (by decide +kernel) rfl) pa_nil))))) (pw_or1 (pt_cmpR op_ne (pe_callB call_len_seq (by rfl) ml PySem.boot_len (pa_cons (pv 0) pa_nil)) pe_int (nomark _)))))
         (pss_one (ps_ret pe_bl))
         pss_nil)
      (pss_one (ps_ret (pe_callB (cr_all rfl) (by rfl) mA (by decide +kernel) (pa_cons (pe_lc (own := [("part", 1)]) (g := gName 1) (tt := tYes) rfl scIs.nd (pi_tup (pv 0)) (blkOk_by (N := ["thing", "part"]) (sc := defScope sIsBlock) (by decide +kernel)) (fun _ _ _ _ _ => pg_name (i := 1) scIs.nd rfl (Or.inl rfl)) (fun _ _ _ _ _ => pts_nil) (fun _ _ _ _ _ => (pe_and (pe_callB (id := "isinstance") (r := rIsi K) call_isi (by rfl) mI (by decide +kernel) (pa_cons (pv 1) (pa_cons (pe_bltn (v := .ty "int") (by rfl) mi (by decide +kernel) rfl) pa_nil))) (pe_and (pe_not (pe_callB (id := "isinstance") (r := rIsi K) call_isi (by rfl) mI (by decide +kernel) (pa_cons (pv 1) (pa_cons (pe_bltn (v := .ty "bool") (by rfl) mb (by decide +kernel) rfl) pa_nil)))) (pe_one (pe_cmpR op_ge (pv 1) pe_int (nomark _))))))) pa_nil))))), ?_⟩
    refine ⟨_, rfl, _, _, _, _, _, rfl, .ty _, .base (.tup ht), kit_t.1, true, rfl, iteF ?_⟩
    refine ⟨_, rfl, t, _, rfl, .inr (.of ht), rfl, _, rfl, iteNS rfl ?_⟩
    refine ⟨_, rfl, t, rfl, ⟨_, .of ht⟩, fun D hD => ?_⟩
    have ntD : t ≠ D := ne_of_none ht hD
    refine lc_tup (K := K) (a := t) (xs := [.int (k.1 : Int), .int (k.2 : Int)]) (fun i H' => Same H H' ∧ H' D = some (.lst ((List.replicate i true).map V.bl))) ⟨same_upd hD, upd_same⟩ (fun i H' _ p => .of (p.1 _ _ ht)) ?_ ?_
    · rintro i x H1 hx ⟨s1, hd⟩
      obtain ⟨z, rfl, hz⟩ : ∃ z : Int, x = V.int z ∧ 0 ≤ z := by
        have := List.mem_of_getElem? hx
        rcases List.mem_cons.mp this with rfl | this
        · exact ⟨_, rfl, by omega⟩
        · rcases List.mem_cons.mp this with rfl | this
          · exact ⟨_, rfl, by omega⟩
          · cases this
      have hi : i < 2 := (List.getElem?_eq_some_iff.mp hx).1
      refine ⟨rfl, _, rfl, _, _, _, _, _, rfl, .ty _, .base (.int _), kit_t.2.2.1, true, rfl, iteT ?_⟩
      refine ⟨_, rfl, _, _, _, _, _, rfl, .ty _, .base (.int _), kit_t.2.2.2, false, rfl, true, rfl, iteT ?_⟩
      refine ⟨_, rfl, _, _, rfl, rfl, _, hd, ?_, fun b o e => ?_, ?_⟩
      · rw [List.length_map, List.length_replicate]
        exact small1000 (by omega)
      · rw [upd_ne (ne_of_none e hD)]
        exact s1 _ _ e
      · rw [upd_same, List.replicate_succ', List.map_append]
        show some (HO.lst (_ ++ [V.bl (decide (0 ≤ z))])) = _
        rw [decide_eq_true hz]
        rfl
    · rintro H1 ⟨s1, hd⟩
      exact ⟨D, List.replicate 2 true, rfl, .of hd, q _ s1⟩
end
end P14

namespace P14
open PySem PySem.Spec PyProof.Rows L2 HG HB
def rgN (a b : Nat) : List Int := (List.range (b - a)).map fun i => ((a + i : Nat) : Int)
theorem rgV_eq (a b : Nat) : rgV (a : Int) (b : Int) = (rgN a b).map V.int := by
  unfold rgV rgN
  rw [List.map_map, show ((b : Int) - (a : Int)).toNat = b - a by omega]
  rfl
theorem rgN_app {a b c : Nat} (h1 : a ≤ b) (h2 : b ≤ c) : rgN a b ++ rgN b c = rgN a c := by
  unfold rgN
  rw [show c - a = (b - a) + (c - b) by omega, List.range_add, List.map_append, List.map_map]
  congr 1
  apply List.map_congr_left
  intro i _
  show ((b + i : Nat) : Int) = ((a + ((b - a) + i) : Nat) : Int)
  congr 1
  omega
theorem rgN_len (a b : Nat) : (rgN a b).length = b - a := by
  unfold rgN
  rw [List.length_map, List.length_range]
theorem bag_other {H : Hp} {p q t : Addr} {ts : List V} {o : HO} (B : Bag H p) (h : H q = some (.lst (V.ref t :: ts))) : Bag (upd H q o) p := by
  obtain ⟨c, b0, b1, b2, cs, hp, hc, z⟩ := B
  have n1 : p ≠ q := fun e => by
    rw [← e, hp] at h
    have := HO.lst.inj (Option.some.inj h)
    simp at this
  have n2 : c ≠ q := fun e => by
    rw [← e, hc] at h
    have := HO.lst.inj (Option.some.inj h)
    cases cs <;> simp at this
  exact ⟨c, b0, b1, b2, cs, by rw [upd_ne n1]; exact hp, by rw [upd_ne n2]; exact hc, z⟩
def spLaw (K : PySem.W.Frag) : Sp := fun vs H Q _ => ∃ (a : Addr) (ns : List Int), vs = [.ref a] ∧ SqL K H a (ns.map V.int) ∧ ns.length ≤ 63 ∧ ∀ H', Q (.bl true) H'
theorem at2 {xs : List V} {a b : V} {r : Int} (h0 : 0 ≤ r) (h1 : r < 2) (e : xs = [a, b]) : ∃ v, atI xs r = some v ∧ (v = a ∨ v = b) := by
  subst e
  have : r = 0 ∨ r = 1 := by omega
  rcases this with rfl | rfl
  · exact ⟨a, rfl, .inl rfl⟩
  · exact ⟨b, rfl, .inr rfl⟩
section
variable {P : Program} {w : World} {K : PySem.W.Frag} {mg : Str → Option Value} {base : Heap}
theorem scL : FnScope ["script", "bag", "turn", "pace", "first", "last", "told", "found", "number", "level", "kept", "some", "one"] ["script"] (defScope sLaw) := ⟨rfl, rfl, rfl, by decide +kernel, rfl, by decide +kernel, by decide +kernel⟩
theorem ok_law {f fG fT fI fS fB : Addr} {fd fdG fdT fdI fdS fdB : FuncData} (F : Fun K "law" "law" sLaw f fd)
    (FG : Fun K "_law_bag" "_law_bag" sBag fG fdG) (bG : Binds K fdG ["script"] []) (gG : mg "_law_bag" = some (.ref fG))
    (FT : Fun K "_law_take" "_law_take" sTake fT fdT) (bT : Binds K fdT ["bag", "many"] []) (gT : mg "_law_take" = some (.ref fT))
    (FI : Fun K "_law_in_block" "_law_in_block" sInBlock fI fdI) (bI : Binds K fdI ["number", "level", "pace"] []) (gI : mg "_law_in_block" = some (.ref fI))
    (FS : Fun K "_law_is_block" "_law_is_block" sIsBlock fS fdS) (bS : Binds K fdS ["thing"] []) (gS : mg "_law_is_block" = some (.ref fS))
    (FB : Fun K "blocks" "blocks" sBlocks fB fdB) (bB : Binds K fdB ["first", "last", "pace"] []) (gB : mg "blocks" = some (.ref fB))
    (ma : mg "abs" = none) (ml : mg "len" = none) (mr : mg "range" = none) (mL : mg "list" = none) (mI : mg "isinstance" = none) (mT : mg "tuple" = none) (mi : mg "int" = none) (mb : mg "bool" = none) (mA : mg "all" = none) : FnOk P w K mg base CX0 2 f fd ["script"] (spLaw K) := by
  have GG : FnOk P w K mg base CX0 1 fG fdG ["script"] (spBag K) := ok_bag FG ma
  have GT : FnOk P w K mg base CX0 1 fT fdT ["bag", "many"] spTake := ok_take FT ml
  have GI : FnOk P w K mg base CX0 1 fI fdI ["number", "level", "pace"] spIn := ok_in FI mr mL
  have GS : FnOk P w K mg base CX0 1 fS fdS ["thing"] spIs := ok_is FS mI mT mi mb ml mA
  have GB : FnOk P w K mg base CX0 1 fB fdB ["first", "last", "pace"] spBlocks := ok_blocks FB
  refine F.ok scL (fun vs H Q E h => ?_) (fun cdv A outer s H vs Q E hr h => ?_)
  · obtain ⟨a, ns, rfl, _⟩ := h
    rfl
  · obtain ⟨a, ns, rfl, hS, hl, k⟩ := h
    refine ⟨_, (pss_cons (ps_set (i := 1) scL.nd rfl (.inl rfl) (pe_call GG hr (by rfl) gG FG.kp bG .nil pass0 (pa_cons (pv 0) pa_nil)))
      (pss_cons (ps_for PassesOwn.never rfl (pi_range1 rfl mr (pa_cons pe_int pa_nil)) (pg_name (i := 2) scL.nd rfl (.inl rfl))
         (pss_cons (ps_par (i := 3) (j := 4) (by rfl) scL.nd rfl rfl (by decide) rfl rfl (pa_cons (pe_op op_add pe_int (pe_call GT hr (by rfl) gT FT.kp bT .nil pass0 (pa_cons (pv 1) (pa_cons pe_int pa_nil)))) (pa_cons (pe_call GT hr (by rfl) gT FT.kp bT .nil pass0 (pa_cons (pv 1) (pa_cons (pe_ix ix_list (pe_lst (pa_cons pe_int (pa_cons pe_int pa_nil))) (pe_call GT hr (by rfl) gT FT.kp bT .nil pass0 (pa_cons (pv 1) (pa_cons pe_int pa_nil))) (fun _ _ => rfl)) pa_nil))) pa_nil)) (by rfl))
         (Evl.pss_cut (ps_set (i := 5) scL.nd rfl (.inl rfl) (pe_op op_add (pv 4) (pe_call GT hr (by rfl) gT FT.kp bT .nil pass0 (pa_cons (pv 1) (pa_cons (pe_ix ix_list (pe_lst (pa_cons pe_int (pa_cons pe_int pa_nil))) (pe_call GT hr (by rfl) gT FT.kp bT .nil pass0 (pa_cons (pv 1) (pa_cons pe_int pa_nil))) (fun _ _ => rfl)) pa_nil)))))
         (Evl.pss_cut (ps_set (i := 6) scL.nd rfl (.inl rfl) (pe_call GB hr (by rfl) gB FB.kp bB .nil pass0 (pa_cons (pv 4) (pa_cons (pv 5) (pa_cons (pv 3) pa_nil)))))
         (Evl.pss_cut (ps_if (PW.pt (pw_or (pt_not (pt_val (pe_callB (id := "isinstance") (r := rIsi K) call_isi (by rfl) mI (by decide +kernel) (pa_cons (pv 6) (pa_cons (pe_bltn (v := .ty "list") (by rfl) mL (by decide +kernel) rfl) pa_nil))))) (pw_or1 (pt_not (pt_val (pe_callB (cr_all rfl) (by rfl) mA (by decide +kernel) (pa_cons (pe_lc (own := [("one", 12)]) (g := gName 12) (tt := tYes) rfl scL.nd (pi_list (pv 6)) (blkOk_by (N := ["script", "bag", "turn", "pace", "first", "last", "told", "found", "number", "level", "kept", "some", "one"]) (sc := defScope sLaw) (by decide +kernel)) (fun _ _ _ _ _ => pg_name (i := 12) scL.nd rfl (Or.inl rfl)) (fun _ _ _ _ _ => pts_nil) (fun _ _ _ _ _ => (pe_and (pe_call (sp := spIs) (k := 1) (CX := CX0) (E := E0) (dvs := []) (ds := []) GS hr (by rfl) gS FS.kp bS .nil pass0 (pa_cons (pv 12) pa_nil)) (pe_one (pe_cmpR op_lt (pe_ix (r := rIxT K) ix_tup (pv 12) pe_int (fun _ _ => rfl)) pe_int (nomark _)))))) pa_nil)))))))
            (pss_one (ps_ret pe_bl))
            pss_nil)
         (pss_cons (ps_set (i := 7) scL.nd rfl (.inl rfl) (pe_lst pa_nil))
         (Evl.pss_cut (ps_for PassesOwn.never rfl (pi_list (pv 6)) (pg_tup rfl (pgs_cons (pg_name (i := 8) scL.nd rfl (.inl rfl)) (pgs_cons (pg_name (i := 9) scL.nd rfl (.inl rfl)) pgs_nil)))
            (pss_one (ps_set (i := 7) scL.nd rfl (.inl rfl) (pe_op op_cat (pv 7) (pe_call GI hr (by rfl) gI FI.kp bI .nil pass0 (pa_cons (pv 8) (pa_cons (pv 9) (pa_cons (pv 3) pa_nil))))))))
         (Evl.pss_cut (ps_if (pt_cmpR (op_neD hr.units) (pv 7) (pe_listRg rfl (by rfl) mL (prg_2 (by rfl) mr (pv 4) (pe_op op_add (pv 5) pe_int))) (nomark _))
            (pss_one (ps_ret pe_bl))
            pss_nil)
         (pss_cons (ps_set (i := 10) scL.nd rfl (.inl rfl) (pe_callTy call_list_of (by rfl) mL (by decide +kernel) (pa_cons (pv 6) pa_nil)))
         (pss_cons (ps_expr (pe_bm PySem.F.plainAttrs_list PySem.F.slot_list_append PySem.F.type_list_append mt_append (pv 6) (pa_cons (pe_tup (pa_cons pe_int (pa_cons pe_int pa_nil))) pa_nil)))
         (pss_one (ps_if (pt_cmpR (op_neD hr.units) (pe_call GB hr (by rfl) gB FB.kp bB .nil pass0 (pa_cons (pv 4) (pa_cons (pv 5) (pa_cons (pv 3) pa_nil)))) (pv 10) (nomark _))
            (pss_one (ps_ret pe_bl))
            pss_nil))))))))))))
      (pss_cons (ps_set (i := 11) scL.nd rfl (.inl rfl) (pe_lst (pa_cons (pe_call GB hr (by rfl) gB FB.kp bB .nil pass0 (pa_cons pe_int (pa_cons pe_int (pa_cons pe_int pa_nil)))) (pa_cons (pe_call GB hr (by rfl) gB FB.kp bB .nil pass0 (pa_cons pe_int (pa_cons pe_int (pa_cons pe_int pa_nil)))) (pa_cons (pe_call GB hr (by rfl) gB FB.kp bB .nil pass0 (pa_cons pe_int (pa_cons pe_int (pa_cons pe_int pa_nil)))) pa_nil)))))
      (pss_one (ps_ret (pe_cmpR (op_eqD hr.units) (pv 11) (pe_lst (pa_cons (pe_lst (pa_cons (pe_tup (pa_cons pe_int (pa_cons pe_int pa_nil))) pa_nil)) (pa_cons (pe_lst (pa_cons (pe_tup (pa_cons pe_int (pa_cons pe_int pa_nil))) pa_nil)) (pa_cons (pe_lst (pa_cons (pe_tup (pa_cons pe_int (pa_cons pe_int pa_nil))) (pa_cons (pe_tup (pa_cons pe_int (pa_cons pe_int pa_nil))) (pa_cons (pe_tup (pa_cons pe_int (pa_cons pe_int pa_nil))) (pa_cons (pe_tup (pa_cons pe_int (pa_cons pe_int pa_nil))) pa_nil))))) pa_nil)))) (nomark _))))))), ?_⟩
    refine ⟨_, rfl, a, ns, rfl, hS, hl, fun p H1 s1 np hB => ?_⟩
    refine ⟨5, rfl, by decide, by decide, ?_⟩
    refine for_range (n := 5) (fun i σ H' => ∃ o2 o3 o4 o5 o6 o7 o8 o9 o10 o11 o12 : Option V, σ = [some (.ref a), some (.ref p), o2, o3, o4, o5, o6, o7, o8, o9, o10, o11, o12] ∧ Bag H' p) ⟨_, _, _, _, _, _, _, _, _, _, _, rfl, hB⟩ ?_ ?_
    · rintro i σ H2 hi ⟨o2, o3, o4, o5, o6, o7, o8, o9, o10, o11, o12, rfl, hB⟩
      -- pace, first
      refine ⟨_, rfl, p, 3, rfl, hB, by decide, by decide, fun r xs r0 r1 hB => ?_⟩
      refine ⟨_, _, rfl, rfl, ?_⟩
      obtain ⟨c, hc⟩ : ∃ c : Nat, (2 : Int) + r = (c : Int) := ⟨(2 + r).toNat, by omega⟩
      have hc2 : 2 ≤ c := by omega
      have hc4 : c ≤ 4 := by omega
      generalize upd H2 p (.lst xs) = H3 at *
      refine ⟨_, rfl, by show 2 ≤ sizeLine; decide, fun L nL => ?_⟩
      have hB3 : Bag (upd H3 L (.lst [.int 5, .int 400])) p := hB.same (same_upd nL)
      have nLp : L ≠ p := by
        obtain ⟨ys, hy⟩ := hB.lst
        exact fun z => by rw [z, hy] at nL; cases nL
      refine ⟨_, rfl, p, 2, rfl, hB3, by decide, by decide, fun r' xs' r0' r1' hB4 => ?_⟩
      obtain ⟨v, hv, hv2⟩ := at2 r0' r1' rfl
      refine ⟨L, _, r', v, rfl, rfl, .of (by rw [upd_ne nLp, upd_same]), hv, ?_⟩
      obtain ⟨m1, rfl, hm0, hm1⟩ : ∃ m : Int, v = V.int m ∧ 0 < m ∧ m ≤ 400 := by
        rcases hv2 with rfl | rfl
        · exact ⟨5, rfl, by decide, by decide⟩
        · exact ⟨400, rfl, by decide, by decide⟩
      refine ⟨p, m1, rfl, hB4, hm0, Nat.lt_of_le_of_lt (show m1.natAbs ≤ 400 by omega) (by decide +kernel), fun r2 xs2 r20 r21 hB5 => ?_⟩
      obtain ⟨fi, rfl⟩ := Int.eq_ofNat_of_zero_le r20
      refine ⟨_, _, rfl, ?_⟩
      generalize upd (upd (upd H3 L (.lst [.int 5, .int 400])) p (.lst xs')) p (.lst xs2) = H5 at *
      -- last
      refine ⟨fun σ H' => Bag H' p ∧ ∃ la : Nat, fi ≤ la ∧ la ≤ 700 ∧ σ = [some (.ref a), some (.ref p), some (.int (0 + (i : Int))), some (.int (c : Int)), some (.int (fi : Int)), some (.int (la : Int)), o6, o7, o8, o9, o10, o11, o12], ?_, ?_⟩
      · refine ⟨_, rfl, _, rfl, by show 2 ≤ sizeLine; decide, fun L2 nL2 => ?_⟩
        have hB6 : Bag (upd H5 L2 (.lst [.int 4, .int 300])) p := hB5.same (same_upd nL2)
        have nL2p : L2 ≠ p := by
          obtain ⟨ys, hy⟩ := hB5.lst
          exact fun z => by rw [z, hy] at nL2; cases nL2
        refine ⟨_, rfl, p, 2, rfl, hB6, by decide, by decide, fun r3 xs3 r30 r31 hB7 => ?_⟩
        obtain ⟨v2, hv', hv2'⟩ := at2 r30 r31 rfl
        refine ⟨L2, _, r3, v2, rfl, rfl, .of (by rw [upd_ne nL2p, upd_same]), hv', ?_⟩
        obtain ⟨m2, rfl, hm20, hm21⟩ : ∃ m : Int, v2 = V.int m ∧ 0 < m ∧ m ≤ 300 := by
          rcases hv2' with rfl | rfl
          · exact ⟨4, rfl, by decide, by decide⟩
          · exact ⟨300, rfl, by decide, by decide⟩
        refine ⟨p, m2, rfl, hB7, hm20, Nat.lt_of_le_of_lt (show m2.natAbs ≤ 400 by omega) (by decide +kernel), fun r4 xs4 r40 r41 hB8 => ?_⟩
        refine ⟨_, _, rfl, rfl, hB8, fi + r4.toNat, by omega, by omega, ?_⟩
        show _ = [some (V.ref a), some (V.ref p), some (V.int (0 + (i : Int))), some (V.int (c : Int)), some (V.int (fi : Int)), some (V.int ((fi + r4.toNat : Nat) : Int)), o6, o7, o8, o9, o10, o11, o12]
        rw [show ((fi + r4.toNat : Nat) : Int) = (fi : Int) + r4 by omega, ← hc]
        rfl
      rintro σ H6 ⟨hB6, la, hfl, hla, rfl⟩
      have hlen : (B c 0 fi (la + 1)).length ≤ 1000 := by
        have h2 : 2 ^ 10 ≤ c ^ (9 + 1) := Nat.pow_le_pow_left hc2 10
        have := B_len' hc2 (v := 0) (l := fi) (h := la + 1) 9 (by omega) (by omega)
        have q : c = 2 ∨ c = 3 ∨ c = 4 := by omega
        rcases q with rfl | rfl | rfl <;> omega
      have hch : Chain c (B c 0 fi (la + 1)) fi (la + 1) := by
        have := B_chain hc2 (v := 0) (show fi ≤ la + 1 by omega)
        simpa using this
      have hbig := hch.le
      have hkk : ∀ x ∈ B c 0 fi (la + 1), x.2 < 12 := by
        intro x hx
        have hb := (hbig.2 x hx).2
        apply Nat.lt_of_not_le
        intro z
        have h1 : 2 ^ 12 ≤ 2 ^ x.2 := Nat.pow_le_pow_right (by decide) z
        have h2 : 2 ^ x.2 ≤ c ^ x.2 := Nat.pow_le_pow_left hc2 x.2
        omega
      let fm : Option V → Option V → Option V → Option V → Option V → L2.St := fun o6 o7 o8 o9 o10 => [some (.ref a), some (.ref p), some (.int (0 + (i : Int))), some (.int (c : Int)), some (.int (fi : Int)), some (.int (la : Int)), o6, o7, o8, o9, o10, o11, o12]
      -- told
      refine ⟨fun σ H7 => ∃ (q : Addr) (ts : List Addr), Bag H7 p ∧ H7 q = some (.lst (ts.map V.ref)) ∧ Tups H7 ts (B c 0 fi (la + 1)) ∧ σ = fm (some (.ref q)) o7 o8 o9 o10, ?_, ?_⟩
      · refine ⟨_, rfl, _, rfl, _, rfl, fi, la, c, rfl, hfl, hc2, hc4, hlen, fun q ts H7 s7 nq hq ht => ?_⟩
        exact ⟨q, ts, hB6.same s7, hq, ht, rfl⟩
      rintro σ H7 ⟨q, ts, hB7, hq, ht, rfl⟩
      generalize hks : B c 0 fi (la + 1) = ks at *
      -- if not isinstance(told, list) or not all([..])
      refine ⟨fun σ H8 => Same H7 H8 ∧ σ = fm (some (.ref q)) o7 o8 o9 o10, ?_, ?_⟩
      · refine ⟨_, rfl, _, _, _, _, _, rfl, .ty _, .base (.lst hq), kit_t.2.1, true, rfl, iteF ?_⟩
        refine ⟨_, rfl, q, rfl, ⟨_, .of hq⟩, fun D hD => ?_⟩
        refine lc_list (K := K) (a := q) (xs := ts.map V.ref) (fun j H' => Same H7 H' ∧ H' D = some (.lst ((List.replicate j true).map V.bl))) ⟨same_upd hD, upd_same⟩ (fun j H' _ z => .of (z.1 _ _ hq)) ?_ ?_
        · rintro j x H8 hx ⟨s1, hd⟩
          obtain ⟨t, ht1, rfl⟩ : ∃ t, ts[j]? = some t ∧ x = V.ref t := by
            rw [List.getElem?_map] at hx
            cases e : ts[j]? with
            | none => rw [e] at hx; cases hx
            | some t => rw [e] at hx; exact ⟨t, rfl, (Option.some.inj hx).symm⟩
          obtain ⟨kk, hk1, hk2⟩ := ht.get ht1
          have hjl : j < ks.length := (List.getElem?_eq_some_iff.mp hk1).1
          have h12 := hkk _ (List.mem_of_getElem? hk1)
          refine ⟨rfl, _, rfl, t, kk, rfl, s1 _ _ hk2, fun H9 s9 => ⟨true, rfl, iteT ?_⟩⟩
          refine ⟨_, rfl, t, [.int (kk.1 : Int), .int (kk.2 : Int)], 1, .int (kk.2 : Int), rfl, rfl, .of (s9 _ _ (s1 _ _ hk2)), rfl, _, _, rfl, rfl, _, s9 _ _ hd, ?_, fun b o e => ?_, ?_⟩
          · rw [List.length_map, List.length_replicate]
            exact small1000 (by omega)
          · rw [upd_ne (ne_of_none e hD)]
            exact s9 _ _ (s1 _ _ e)
          · rw [upd_same, List.replicate_succ', List.map_append]
            show some (HO.lst (_ ++ [V.bl (decide ((kk.2 : Int) < 12))])) = _
            rw [decide_eq_true (show (kk.2 : Int) < 12 by omega)]
            rfl
        · rintro H8 ⟨s1, hd⟩
          have hall : ∀ n, (List.replicate n true).all id = true := fun n => by simp
          refine ⟨D, _, rfl, .of hd, _, rfl, ?_⟩
          rw [hall]
          exact ⟨s1, rfl⟩
      rintro σ H8 ⟨s8, rfl⟩
      have hB8 := hB7.same s8
      have hq8 := s8 _ _ hq
      have ht8 : Tups H8 ts ks := ht.mono fun b k z => s8 _ _ z
      clear hB7 hq ht s8
      -- found = []
      refine ⟨Nat.zero_le _, fun fo nfo => ?_⟩
      -- the loop
      refine ⟨fun σ H' => ∃ (fo : Addr) (o8 o9 : Option V), σ = fm (some (.ref q)) (some (.ref fo)) o8 o9 o10 ∧ Same H8 H' ∧ H' fo = some (.lst ((rgN fi (la + 1)).map V.int)), ?_, ?_⟩
      · have hq9 : (upd H8 fo (.lst [])) q = some (.lst (ts.map V.ref)) := same_upd nfo _ _ hq8
        refine ⟨_, rfl, q, rfl, ⟨_, .of hq9⟩, ?_⟩
        refine for_list (K := K) (a := q) (xs := ts.map V.ref) (fun j σ H' => ∃ (x : Nat) (fo : Addr) (o8 o9 : Option V), σ = fm (some (.ref q)) (some (.ref fo)) o8 o9 o10 ∧ Same H8 H' ∧ H' fo = some (.lst ((rgN fi x).map V.int)) ∧ fi ≤ x ∧ x ≤ la + 1 ∧ Chain c (ks.drop j) x (la + 1)) ?_ ?_ ?_ ?_
        · refine ⟨fi, fo, o8, o9, rfl, same_upd nfo, ?_, Nat.le_refl _, by omega, ?_⟩
          · rw [upd_same]
            unfold rgN
            rw [Nat.sub_self]
            rfl
          · rw [List.drop_zero]
            exact hch
        · rintro j σ H' _ ⟨x, fo, o8, o9, rfl, s9, _⟩
          exact .of (s9 _ _ hq8)
        · rintro j v σ H9 hj ⟨x, fo, o8, o9, rfl, s9, hfo, hx1, hx2, hcx⟩
          obtain ⟨t, ht1, rfl⟩ : ∃ t, ts[j]? = some t ∧ v = V.ref t := by
            rw [List.getElem?_map] at hj
            cases e : ts[j]? with
            | none => rw [e] at hj; cases hj
            | some t => rw [e] at hj; exact ⟨t, rfl, (Option.some.inj hj).symm⟩
          obtain ⟨⟨aa, kk⟩, hk1, hk2⟩ := ht8.get ht1
          have hmem := List.mem_of_getElem? hk1
          have hb : aa * c ^ kk + c ^ kk ≤ la + 1 := (hbig.2 _ hmem).2
          have h12 : kk < 12 := hkk _ hmem
          have hdrop : ks.drop j = (aa, kk) :: ks.drop (j + 1) := by
            have hjl := (List.getElem?_eq_some_iff.mp hk1).1
            rw [List.drop_eq_getElem_cons hjl]
            congr 1
            exact (List.getElem?_eq_some_iff.mp hk1).2
          rw [hdrop] at hcx
          obtain ⟨ex, hcx⟩ : x = aa * c ^ kk ∧ Chain c (ks.drop (j + 1)) (x + c ^ kk) (la + 1) := by
            cases hcx with
            | cons h => exact ⟨rfl, h⟩
          have hpos : 0 < c ^ kk := Nat.pow_pos (by omega)
          refine ⟨t, _, rfl, .of (s9 _ _ hk2), rfl, _, _, rfl, _, _, rfl, rfl, ?_⟩
          refine ⟨_, rfl, _, rfl, _, rfl, _, rfl, aa, kk, c, rfl, hc2, by omega, by omega, by rw [Nat.succ_mul]; omega, fun q2 nq2 => ?_⟩
          rw [Nat.succ_mul, ← ex, rgV_eq]
          have nfq : fo ≠ q2 := ne_of_none hfo nq2
          refine ⟨fo, q2, _, _, rfl, rfl, by rw [upd_ne nfq]; exact hfo, upd_same, ?_, fun q3 nq3 => ?_⟩
          · rw [List.length_map, List.length_map, rgN_len, rgN_len]
            exact Nat.le_of_lt (small1000 (by omega))
          · refine ⟨x + c ^ kk, q3, _, _, rfl, (s9.trans (same_upd nq2)).trans (same_upd nq3), ?_, by omega, by omega, hcx⟩
            rw [upd_same, ← List.map_append, rgN_app hx1 (by omega)]
        · rintro σ H9 ⟨x, fo, o8, o9, rfl, s9, hfo, hx1, hx2, hcx⟩
          rw [List.length_map, ht8.len, List.drop_length] at hcx
          cases hcx
          exact ⟨fo, o8, o9, rfl, s9, hfo⟩
      rintro σ H9 ⟨fo, o8, o9, rfl, s9, hfo⟩
      have hB9 := hB8.same s9
      have hq9 := s9 _ _ hq8
      have ht9 : Tups H9 ts ks := ht8.mono fun b k z => s9 _ _ z
      -- if found != list(range(first, last + 1))
      refine ⟨fun σ H' => Same H9 H' ∧ σ = fm (some (.ref q)) (some (.ref fo)) o8 o9 o10, ?_, ?_⟩
      · refine ⟨_, rfl, _, rfl, _, rfl, _, _, rfl, rfl, _, _, rfl, rfl, RgOk.of_le (by omega) (by omega) (by omega) (by omega), fun L nL => ?_⟩
        have e1 : rgV (fi : Int) ((la : Int) + 1) = (rgN fi (la + 1)).map V.int := rgV_eq fi (la + 1)
        have s10 : Same H9 (upd H9 L (.lst (rgV (fi : Int) ((la : Int) + 1)))) := same_upd nL
        have sh := shaped_ints (rgN fi (la + 1))
        refine ⟨.list ((rgN fi (la + 1)).map PyData.int), .list ((rgN fi (la + 1)).map PyData.int), .lst (.of (s10 _ _ hfo)) (dpAll_ints _), .lst (.of upd_same) (by rw [e1]; exact dpAll_ints _), sh.2, sh.2, _, rfl, ?_⟩
        rw [SeqAt.eqv_refl _ sh.1]
        exact iteF ⟨s10, rfl⟩
      rintro σ H10 ⟨s10, rfl⟩
      have hB10 := hB9.same s10
      have hq10 := s10 _ _ hq9
      have ht10 : Tups H10 ts ks := ht9.mono fun b k z => s10 _ _ z
      -- kept = list(told)
      refine ⟨_, rfl, q, _, rfl, .inl (.of hq10), fun kp nkp => ?_⟩
      have nqk : q ≠ kp := ne_of_none hq10 nkp
      -- told.append((0, 0))
      have s11 : Same H10 (upd H10 kp (.lst (ts.map V.ref))) := same_upd nkp
      refine ⟨_, rfl, .inl ⟨rfl, _, .of (s11 _ _ hq10)⟩, by show 2 ≤ sizeLine; decide, fun t nt => ?_⟩
      have s12 : Same (upd H10 kp (.lst (ts.map V.ref))) (upd (upd H10 kp (.lst (ts.map V.ref))) t (kV2 (0, 0))) := same_upd nt
      have hks3 : ks.length ≤ 1000 := hlen
      refine ⟨q, _, _, rfl, rfl, s12 _ _ (s11 _ _ hq10), by rw [List.length_map, ht10.len]; exact small1000 hks3, ?_⟩
      have hB11 : Bag (upd (upd (upd H10 kp (.lst (ts.map V.ref))) t (kV2 (0, 0))) q (.lst (ts.map V.ref ++ [.ref t]))) p := by
        have hB11 := (hB10.same s11).same s12
        cases ts with
        | nil =>
          have := ht10.len
          cases ks with
          | nil => cases hch; omega
          | cons _ _ => simp at this
        | cons t0 ts => exact bag_other hB11 (s12 _ _ (s11 _ _ hq10))
      have nqt : q ≠ t := ne_of_none (s11 _ _ hq10) nt
      have nkt : kp ≠ t := ne_of_none (upd_same) nt
      have hk11 : (upd (upd (upd H10 kp (.lst (ts.map V.ref))) t (kV2 (0, 0))) q (.lst (ts.map V.ref ++ [.ref t]))) kp = some (.lst (ts.map V.ref)) := by
        rw [upd_ne nqk.symm, upd_ne nkt, upd_same]
      have ht11 : Tups (upd (upd (upd H10 kp (.lst (ts.map V.ref))) t (kV2 (0, 0))) q (.lst (ts.map V.ref ++ [.ref t]))) ts ks := ht10.mono fun b k z => by
        have n1 : b ≠ q := ne_of z hq10 (by intro z; cases z)
        rw [upd_ne n1]
        exact s12 _ _ (s11 _ _ z)
      -- if blocks(first, last, pace) != kept
      refine ⟨_, rfl, _, rfl, _, rfl, fi, la, c, rfl, hfl, hc2, hc4, by rw [hks]; exact hlen, fun q2 ts2 H12 s13 nq2 hq2 ht2 => ?_⟩
      rw [hks] at ht2
      have sh := shaped_kD ks
      refine ⟨_, rfl, .list (ks.map kD), .list (ks.map kD), .lst (.of hq2) ht2.dp, .lst (.of (s13 _ _ hk11)) (Tups.mono (fun b k z => s13 _ _ z) ht11).dp, sh.2, sh.2, _, rfl, ?_⟩
      rw [SeqAt.eqv_refl _ sh.1]
      exact iteF ⟨_, _, _, _, _, _, _, _, _, _, _, rfl, hB11.same s13⟩
    · rintro σ H2 ⟨o2, o3, o4, o5, o6, o7, o8, o9, o10, o11, o12, rfl, hB⟩
      have b1 : B 2 0 0 (0 + 1) = [(0, 0)] := by decide
      have b2 : B 2 0 0 (7 + 1) = [(0, 3)] := by decide
      have b3 : B 2 0 1 (6 + 1) = [(1, 0), (1, 1), (2, 1), (6, 0)] := by decide
      refine ⟨0, 0, 2, rfl, by decide, by decide, by decide, by rw [b1]; decide, fun q1 t1 H3 s3 n1 h1 u1 => ?_⟩
      refine ⟨0, 7, 2, rfl, by decide, by decide, by decide, by rw [b2]; decide, fun q2 t2 H4 s4 n2 h2 u2 => ?_⟩
      refine ⟨1, 6, 2, rfl, by decide, by decide, by decide, by rw [b3]; decide, fun q3 t3 H5 s5 n3 h3 u3 => ?_⟩
      rw [b1] at u1; rw [b2] at u2; rw [b3] at u3
      have d1 : Dp K H3 (.ref q1) (.list ([(0, 0)].map kD)) := .lst (.of h1) u1.dp
      have d2 : Dp K H4 (.ref q2) (.list ([(0, 3)].map kD)) := .lst (.of h2) u2.dp
      have d3 : Dp K H5 (.ref q3) (.list ([(1, 0), (1, 1), (2, 1), (6, 0)].map kD)) := .lst (.of h3) u3.dp
      refine ⟨by show 3 ≤ sizeLine; decide, fun sm nsm => ?_⟩
      have d0 : Dp K (upd H5 sm (.lst [.ref q1, .ref q2, .ref q3])) (.ref sm) (.list [.list ([(0, 0)].map kD), .list ([(0, 3)].map kD), .list ([(1, 0), (1, 1), (2, 1), (6, 0)].map kD)]) :=
        dp_lst (.cons (dp_same (s4.trans s5) _ _ d1) (.cons (dp_same s5 _ _ d2) (.cons d3 .nil))) nsm
      generalize (upd H5 sm (.lst [.ref q1, .ref q2, .ref q3])) = H6 at *
      have tup : ∀ {H : Hp} {t : Addr} (x y : Int), H t = none → Dp K (upd H t (.tup [.int x, .int y])) (.ref t) (.tuple [.int x, .int y]) := fun x y n => dp_tup (.cons (.int x) (.cons (.int y) .nil)) n
      refine ⟨_, rfl, by show 2 ≤ sizeLine; decide, fun a1 m1 => ⟨by show 1 ≤ sizeLine; decide, fun l1 k1 => ⟨by show 2 ≤ sizeLine; decide, fun a2 m2 => ⟨by show 1 ≤ sizeLine; decide, fun l2 k2 => ⟨by show 2 ≤ sizeLine; decide, fun a3 m3 => ⟨by show 2 ≤ sizeLine; decide, fun a4 m4 => ⟨by show 2 ≤ sizeLine; decide, fun a5 m5 => ⟨by show 2 ≤ sizeLine; decide, fun a6 m6 => ⟨by show 4 ≤ sizeLine; decide, fun l3 k3 => ⟨by show 3 ≤ sizeLine; decide, fun l4 k4 => ?_⟩⟩⟩⟩⟩⟩⟩⟩⟩⟩
      have e1 := dp_lst (.cons (tup 0 0 m1) .nil) k1
      have e2 := dp_lst (.cons (tup 0 3 m2) .nil) k2
      have e3 := dp_lst (.cons (dp_same (((same_upd m4).trans (same_upd m5)).trans (same_upd m6)) _ _ (tup 1 0 m3)) (.cons (dp_same ((same_upd m5).trans (same_upd m6)) _ _ (tup 1 1 m4)) (.cons (dp_same (same_upd m6) _ _ (tup 2 1 m5)) (.cons (tup 6 0 m6) .nil)))) k3
      have s23 := ((((same_upd m3).trans (same_upd m4)).trans (same_upd m5)).trans (same_upd m6)).trans (same_upd (o := .lst [.ref a3, .ref a4, .ref a5, .ref a6]) k3)
      have e4 := dp_lst (.cons (dp_same (((same_upd m2).trans (same_upd k2)).trans s23) _ _ e1) (.cons (dp_same s23 _ _ e2) (.cons e3 .nil))) k4
      have d0' := dp_same ((((((same_upd m1).trans (same_upd k1)).trans (same_upd m2)).trans (same_upd k2)).trans s23).trans (same_upd (o := .lst [.ref l1, .ref l2, .ref l3]) k4)) _ _ d0
      refine ⟨_, _, d0', e4, rfl, rfl, ?_⟩
      exact k _
end
end P14

namespace P14
open PySem PySem.Spec PyProof.Rows L2 HG HB
theorem all_mk {l : PySem.W.OpenLaw} {w : World} {K : PySem.W.Frag} {h : Heap} {mg : Str → Option Value} {fa f1 f2 f3 f4 f5 f6 : Addr} (X : K.In h) (G : h.Ns mainGlobals mg) (hfa : mg "law" = some (.ref fa))
    {od1 an1 : Option Addr} {sl1 : Array (Option Value)} {oc1 kV1 dc1 pm1 cd1 ct1 : Value}
    {od2 an2 : Option Addr} {sl2 : Array (Option Value)} {oc2 kV2 dc2 pm2 cd2 ct2 : Value}
    {od3 an3 : Option Addr} {sl3 : Array (Option Value)} {oc3 kV3 dc3 pm3 cd3 ct3 : Value}
    {od4 an4 : Option Addr} {sl4 : Array (Option Value)} {oc4 kV4 dc4 pm4 cd4 ct4 : Value}
    {od5 an5 : Option Addr} {sl5 : Array (Option Value)} {oc5 kV5 dc5 pm5 cd5 ct5 : Value}
    {od6 an6 : Option Addr} {sl6 : Array (Option Value)} {oc6 kV6 dc6 pm6 cd6 ct6 : Value}
    (a1 : PySem.W.nsIn K mainGlobals "blocks" = some (some (.ref f1))) (l1 : K.lookup f1 = some ⟨oc1, od1, .func (PySem.W.fnOf "blocks" "blocks" (defArgs sBlocks) (defBody sBlocks) (defScope sBlocks) .none kV1 dc1 pm1 an1 cd1 ct1), sl1⟩) (c1 : PySem.W.codeIn K cd1 "blocks" = true) (k1 : PySem.W.keepIn K (.ref f1) = true)
    (a2 : PySem.W.nsIn K mainGlobals "_law_bag" = some (some (.ref f2))) (l2 : K.lookup f2 = some ⟨oc2, od2, .func (PySem.W.fnOf "_law_bag" "_law_bag" (defArgs sBag) (defBody sBag) (defScope sBag) .none kV2 dc2 pm2 an2 cd2 ct2), sl2⟩) (c2 : PySem.W.codeIn K cd2 "_law_bag" = true) (k2 : PySem.W.keepIn K (.ref f2) = true)
    (a3 : PySem.W.nsIn K mainGlobals "_law_take" = some (some (.ref f3))) (l3 : K.lookup f3 = some ⟨oc3, od3, .func (PySem.W.fnOf "_law_take" "_law_take" (defArgs sTake) (defBody sTake) (defScope sTake) .none kV3 dc3 pm3 an3 cd3 ct3), sl3⟩) (c3 : PySem.W.codeIn K cd3 "_law_take" = true) (k3 : PySem.W.keepIn K (.ref f3) = true)
    (a4 : PySem.W.nsIn K mainGlobals "_law_in_block" = some (some (.ref f4))) (l4 : K.lookup f4 = some ⟨oc4, od4, .func (PySem.W.fnOf "_law_in_block" "_law_in_block" (defArgs sInBlock) (defBody sInBlock) (defScope sInBlock) .none kV4 dc4 pm4 an4 cd4 ct4), sl4⟩) (c4 : PySem.W.codeIn K cd4 "_law_in_block" = true) (k4 : PySem.W.keepIn K (.ref f4) = true)
    (a5 : PySem.W.nsIn K mainGlobals "_law_is_block" = some (some (.ref f5))) (l5 : K.lookup f5 = some ⟨oc5, od5, .func (PySem.W.fnOf "_law_is_block" "_law_is_block" (defArgs sIsBlock) (defBody sIsBlock) (defScope sIsBlock) .none kV5 dc5 pm5 an5 cd5 ct5), sl5⟩) (c5 : PySem.W.codeIn K cd5 "_law_is_block" = true) (k5 : PySem.W.keepIn K (.ref f5) = true)
    (a6 : PySem.W.nsIn K mainGlobals "law" = some (some (.ref f6))) (l6 : K.lookup f6 = some ⟨oc6, od6, .func (PySem.W.fnOf "law" "law" (defArgs sLaw) (defBody sLaw) (defScope sLaw) .none kV6 dc6 pm6 an6 cd6 ct6), sl6⟩) (c6 : PySem.W.codeIn K cd6 "law" = true) (k6 : PySem.W.keepIn K (.ref f6) = true)
    (z1 : PySem.W.nsIn K mainGlobals "abs" = some none) (z2 : PySem.W.nsIn K mainGlobals "len" = some none) (z3 : PySem.W.nsIn K mainGlobals "range" = some none) (z4 : PySem.W.nsIn K mainGlobals "list" = some none) (z5 : PySem.W.nsIn K mainGlobals "isinstance" = some none) (z6 : PySem.W.nsIn K mainGlobals "tuple" = some none) (z7 : PySem.W.nsIn K mainGlobals "int" = some none) (z8 : PySem.W.nsIn K mainGlobals "bool" = some none) (z9 : PySem.W.nsIn K mainGlobals "all" = some none) :
    ∃ fd : FuncData, (∀ (s : Shared) (v : Value), BindsTo s fd ⟨[v], []⟩ [("script", v)]) ∧ ∀ base : Heap, K.In base → base.Ns mainGlobals mg → FnOk l.prog w K mg base CX0 2 fa fd ["script"] (spLaw K) := by
  have e := hfa.symm.trans (PySem.W.mg_of X G a6)
  cases e
  have F1 := fun_mk (st := sBlocks) l1 c1 k1
  have b1 := F1.binds (ps := ["first", "last", "pace"]) fun _ _ _ _ _ _ us hl => match us, hl with | [_, _, _], _ => rfl
  have F2 := fun_mk (st := sBag) l2 c2 k2
  have b2 := F2.binds (ps := ["script"]) fun _ _ _ _ _ _ us hl => match us, hl with | [_], _ => rfl
  have F3 := fun_mk (st := sTake) l3 c3 k3
  have b3 := F3.binds (ps := ["bag", "many"]) fun _ _ _ _ _ _ us hl => match us, hl with | [_, _], _ => rfl
  have F4 := fun_mk (st := sInBlock) l4 c4 k4
  have b4 := F4.binds (ps := ["number", "level", "pace"]) fun _ _ _ _ _ _ us hl => match us, hl with | [_, _, _], _ => rfl
  have F5 := fun_mk (st := sIsBlock) l5 c5 k5
  have b5 := F5.binds (ps := ["thing"]) fun _ _ _ _ _ _ us hl => match us, hl with | [_], _ => rfl
  have F6 := fun_mk (st := sLaw) l6 c6 k6
  exact ⟨PySem.W.fnOf "law" "law" (defArgs sLaw) (defBody sLaw) (defScope sLaw) .none kV6 dc6 pm6 an6 cd6 ct6, fun s v => .of_eq rfl, fun base _ _ => ok_law F6 F2 b2 (PySem.W.mg_of X G a2) F3 b3 (PySem.W.mg_of X G a3) F4 b4 (PySem.W.mg_of X G a4) F5 b5 (PySem.W.mg_of X G a5) F1 b1 (PySem.W.mg_of X G a1) (PySem.W.mg_none_of X G z1) (PySem.W.mg_none_of X G z2) (PySem.W.mg_none_of X G z3) (PySem.W.mg_none_of X G z4) (PySem.W.mg_none_of X G z5) (PySem.W.mg_none_of X G z6) (PySem.W.mg_none_of X G z7) (PySem.W.mg_none_of X G z8) (PySem.W.mg_none_of X G z9)⟩
end P14
open PySem PySem.W PyProof.Rows
set_option maxHeartbeats 0 in
theorem PySem.Challenge.cw_halfpace_k14_blocks_walked_holds : PySem.Challenge.rw_halfpace_k14_blocks_walked.Holds := by
  w_on; o_law; k_head; (case hw => w_witness2)
  k_fill
  refine L2.walk_of (l := PySem.Challenge.rw_halfpace_k14_blocks_walked) (n := 63) (k := 2) (x := "script") (CX := fun _ => L2.CX0) (sp := fun w => P14.spLaw _) rfl (by decide) rfl ⟨rfl, by decide, by decide⟩ (fun w h Y => PySem.W.kIn_of Y) ?F (fun _ _ a ns hl _ hS => ⟨a, ns, rfl, hS, hl, fun _ => rfl⟩) (fun _ _ _ _ _ h => h)
  case F =>
    intro w mg fa h KX G hmg
    refine' P14.all_mk KX G hmg ?a1 ?l1 ?c1 ?k1 ?a2 ?l2 ?c2 ?k2 ?a3 ?l3 ?c3 ?k3 ?a4 ?l4 ?c4 ?k4 ?a5 ?l5 ?c5 ?k5 ?a6 ?l6 ?c6 ?k6 ?z1 ?z2 ?z3 ?z4 ?z5 ?z6 ?z7 ?z8 ?z9
    (case a1 => k_is)
    (case l1 => k_is)
    (case c1 => k_is)
    (case k1 => k_is)
    (case a2 => k_is)
    (case l2 => k_is)
    (case c2 => k_is)
    (case k2 => k_is)
    (case a3 => k_is)
    (case l3 => k_is)
    (case c3 => k_is)
    (case k3 => k_is)
    (case a4 => k_is)
    (case l4 => k_is)
    (case c4 => k_is)
    (case k4 => k_is)
    (case a5 => k_is)
    (case l5 => k_is)
    (case c5 => k_is)
    (case k5 => k_is)
    (case a6 => k_is)
    (case l6 => k_is)
    (case c6 => k_is)
    (case k6 => k_is)
    (case z1 => k_is)
    (case z2 => k_is)
    (case z3 => k_is)
    (case z4 => k_is)
    (case z5 => k_is)
    (case z6 => k_is)
    (case z7 => k_is)
    (case z8 => k_is)
    (case z9 => k_is)


