import PyProof.Rows.All
import Wide.All
import OpenK.AllK
import Wide.FinOn
import HandS.ForMost
import HandS.Wide
import HandS.Style
import HandS.Evl
import HandS.Conv
import HandS.IsInst
import HandS.Codes
import HandS.WideBits
import KE.DatumOrd
import PySem.Challenge.RW_halfpace_k13_figures_put_together
set_option Elab.async false
set_option linter.all false
set_option maxRecDepth 100000
set_option maxHeartbeats 4000000
set_option autoImplicit false
namespace HB
/-! blocks: the mirror and its mathematics -/
def bl (p : Nat) : Nat → Nat → Nat → Nat → List (Nat × Nat)
  | 0, _, _, _ => []
  | f + 1, v, l, h =>
    if l < h then
      if l % p ≠ 0 then (l, v) :: bl p f v (l + 1) h
      else if h % p ≠ 0 then bl p f v l (h - 1) ++ [(h - 1, v)]
      else bl p f (v + 1) (l / p) (h / p)
    else []
/-- with fuel enough -/
def B (p v l h : Nat) : List (Nat × Nat) := bl p (h - l) v l h
theorem half {p l h : Nat} (hp : 2 ≤ p) (hl : l < h) (l0 : l % p = 0) (h0 : h % p = 0) : h / p - l / p < h - l ∧ l / p < h / p := by
  have e1 : p * (l / p) = l := by have := Nat.div_add_mod l p; omega
  have e2 : p * (h / p) = h := by have := Nat.div_add_mod h p; omega
  have lt : l / p < h / p := by
    apply Nat.lt_of_mul_lt_mul_left (a := p)
    omega
  refine ⟨?_, lt⟩
  obtain ⟨d, hd⟩ : ∃ d, h / p = l / p + d := ⟨h / p - l / p, by omega⟩
  have e3 : h = l + p * d := by
    rw [← e2, hd, Nat.mul_add, e1]
  have : 2 * d ≤ p * d := Nat.mul_le_mul_right d hp
  omega
theorem bl_fuel {p : Nat} (hp : 2 ≤ p) : ∀ (f g v l h : Nat), h - l ≤ f → h - l ≤ g → bl p f v l h = bl p g v l h := by
  intro f
  induction f with
  | zero =>
    intro g v l h hf hg
    cases g with
    | zero => rfl
    | succ g =>
      have : ¬ l < h := by omega
      simp [bl, this]
  | succ f ih =>
    intro g v l h hf hg
    cases g with
    | zero =>
      have : ¬ l < h := by omega
      simp [bl, this]
    | succ g =>
      unfold bl
      by_cases c : l < h
      · rw [if_pos c, if_pos c]
        by_cases c1 : l % p ≠ 0
        · rw [if_pos c1, if_pos c1, ih g v (l + 1) h (by omega) (by omega)]
        · rw [if_neg c1, if_neg c1]
          by_cases c2 : h % p ≠ 0
          · rw [if_pos c2, if_pos c2, ih g v l (h - 1) (by omega) (by omega)]
          · rw [if_neg c2, if_neg c2]
            have := half hp c (by omega) (by omega)
            exact ih g (v + 1) (l / p) (h / p) (by omega) (by omega)
      · rw [if_neg c, if_neg c]
theorem B_end {p v l h : Nat} (c : ¬ l < h) : B p v l h = [] := by
  unfold B
  rw [show h - l = 0 by omega]
  rfl
theorem B_low {p v l h : Nat} (c : l < h) (m : l % p ≠ 0) : B p v l h = (l, v) :: B p v (l + 1) h := by
  unfold B
  rw [show h - l = (h - (l + 1)) + 1 by omega]
  show (if l < h then _ else _) = _
  rw [if_pos c, if_pos m]
theorem B_high {p v l h : Nat} (c : l < h) (m : l % p = 0) (m2 : h % p ≠ 0) : B p v l h = B p v l (h - 1) ++ [(h - 1, v)] := by
  unfold B
  rw [show h - l = (h - 1 - l) + 1 by omega]
  show (if l < h then _ else _) = _
  rw [if_pos c, if_neg (by omega), if_pos m2]
theorem B_up {p v l h : Nat} (hp : 2 ≤ p) (c : l < h) (m : l % p = 0) (m2 : h % p = 0) : B p v l h = B p (v + 1) (l / p) (h / p) := by
  have hh := half hp c m m2
  unfold B
  rw [show h - l = (h - l - 1) + 1 by omega]
  show (if l < h then _ else _) = _
  rw [if_pos c, if_neg (by omega), if_neg (by omega)]
  exact bl_fuel hp _ _ _ _ _ (by omega) (by omega)
theorem div_eq {p l h : Nat} (c : ¬ l < h) (e : l ≤ h) : B p 0 (l / p) (h / p) = [] := by
  have : l = h := by omega
  subst this
  exact B_end (by omega)
/-- a rule of induction: one for all three ways -/
theorem B_ind {p : Nat} (hp : 2 ≤ p) {C : Nat → Nat → Nat → List (Nat × Nat) → Prop}
    (h0 : ∀ v l h, l = h → C v l h [])
    (h1 : ∀ v l h, l < h → l % p ≠ 0 → C v (l + 1) h (B p v (l + 1) h) → C v l h ((l, v) :: B p v (l + 1) h))
    (h2 : ∀ v l h, l < h → l % p = 0 → h % p ≠ 0 → C v l (h - 1) (B p v l (h - 1)) → C v l h (B p v l (h - 1) ++ [(h - 1, v)]))
    (h3 : ∀ v l h, l < h → l % p = 0 → h % p = 0 → l / p < h / p → C (v + 1) (l / p) (h / p) (B p (v + 1) (l / p) (h / p)) → C v l h (B p (v + 1) (l / p) (h / p))) :
    ∀ (n v l h : Nat), h - l ≤ n → l ≤ h → C v l h (B p v l h) := by
  intro n
  induction n with
  | zero =>
    intro v l h hn hle
    rw [B_end (by omega)]
    exact h0 v l h (by omega)
  | succ n ih =>
    intro v l h hn hle
    by_cases c : l < h
    · by_cases c1 : l % p = 0
      · by_cases c2 : h % p = 0
        · have hh := half hp c c1 c2
          rw [B_up hp c c1 c2]
          exact h3 v l h c c1 c2 hh.2 (ih _ _ _ (by omega) (by omega))
        · rw [B_high c c1 c2]
          exact h2 v l h c c1 c2 (ih _ _ _ (by omega) (by omega))
      · rw [B_low c c1]
        exact h1 v l h c c1 (ih _ _ _ (by omega) (by omega))
    · rw [B_end c]
      exact h0 v l h (by omega)
/-! side by side -/
inductive Chain (p : Nat) : List (Nat × Nat) → Nat → Nat → Prop
  | nil (x) : Chain p [] x x
  | cons {a k r y} : Chain p r (a * p ^ k + p ^ k) y → Chain p ((a, k) :: r) (a * p ^ k) y
theorem Chain.snoc {p : Nat} {ks : List (Nat × Nat)} {x a k : Nat} (h : Chain p ks x (a * p ^ k)) : Chain p (ks ++ [(a, k)]) x (a * p ^ k + p ^ k) := by
  generalize e : a * p ^ k = y at h
  induction h with
  | nil x => subst e; exact .cons (.nil _)
  | cons r ih => exact .cons (ih e)
theorem pw {p v l : Nat} (m : l % p = 0) : l / p * p ^ (v + 1) = l * p ^ v := by
  have e1 : l / p * p = l := by have := Nat.div_add_mod l p; rw [Nat.mul_comm]; omega
  rw [Nat.pow_succ, Nat.mul_comm (p ^ v) p, ← Nat.mul_assoc, e1]
theorem B_chain {p : Nat} (hp : 2 ≤ p) {v l h : Nat} (hle : l ≤ h) : Chain p (B p v l h) (l * p ^ v) (h * p ^ v) := by
  refine B_ind hp (C := fun v l h ks => Chain p ks (l * p ^ v) (h * p ^ v)) ?_ ?_ ?_ ?_ (h - l) v l h (Nat.le_refl _) hle
  · intro v l h e; subst e; exact .nil _
  · intro v l h c m ih
    rw [Nat.succ_mul] at ih
    exact .cons ih
  · intro v l h c m m2 ih
    have e : h * p ^ v = (h - 1) * p ^ v + p ^ v := by
      rw [← Nat.succ_mul]
      congr 1
      omega
    rw [e]
    exact ih.snoc
  · intro v l h c m m2 hh ih
    rw [pw m, pw m2] at ih
    exact ih
/-! at most so many -/
theorem B_len {p : Nat} (hp : 2 ≤ p) : ∀ {v l h : Nat} (n : Nat), l ≤ h → h ≤ p ^ (n + 1) → (B p v l h).length ≤ 2 * ((p - 1) * n) + 1 + (if l % p = 0 then 0 else p - l % p) + h % p := by
  intro v l h n hle hn
  refine B_ind hp (C := fun v l h ks => ∀ n, h ≤ p ^ (n + 1) → ks.length ≤ 2 * ((p - 1) * n) + 1 + (if l % p = 0 then 0 else p - l % p) + h % p) ?_ ?_ ?_ ?_ (h - l) v l h (Nat.le_refl _) hle n hn
  · intro v l h e n _
    exact Nat.zero_le _
  · intro v l h c m ih n hn
    have := ih n hn
    rw [List.length_cons, if_neg m]
    have lt := Nat.mod_lt l (show 0 < p by omega)
    have key : (if (l + 1) % p = 0 then 0 else p - (l + 1) % p) + 1 = p - l % p := by
      rw [Nat.add_mod, Nat.mod_eq_of_lt (show 1 < p by omega)]
      by_cases z : l % p + 1 = p
      · rw [z, Nat.mod_self, if_pos rfl]; omega
      · rw [Nat.mod_eq_of_lt (show l % p + 1 < p by omega), if_neg (by omega)]; omega
    omega
  · intro v l h c m m2 ih n hn
    have := ih n (by omega)
    rw [List.length_append, List.length_singleton]
    have key : (h - 1) % p + 1 = h % p := by
      have e : h % p = ((h - 1) + 1) % p := by congr 1; omega
      have lt := Nat.mod_lt (h - 1) (show 0 < p by omega)
      rw [Nat.add_mod, Nat.mod_eq_of_lt (show 1 < p by omega)] at e
      by_cases z : (h - 1) % p + 1 = p
      · rw [z, Nat.mod_self] at e; omega
      · rw [Nat.mod_eq_of_lt (show (h - 1) % p + 1 < p by omega)] at e; omega
    omega
  · intro v l h c m m2 hh ih n hn
    rw [if_pos m, m2]
    cases n with
    | zero =>
      have e2 : h / p * p = h := by have := Nat.div_add_mod h p; rw [Nat.mul_comm]; omega
      have hp1 : h ≤ p := by simpa using hn
      have q1 : h / p ≤ 1 := by
        have := Nat.div_le_div_right (c := p) hp1
        rwa [Nat.div_self (by omega)] at this
      have q2 : h / p = 1 := Nat.le_antisymm q1 (Nat.lt_of_le_of_lt (Nat.zero_le _) hh)
      have q3 : l / p = 0 := by rw [q2] at hh; exact Nat.lt_one_iff.mp hh
      rw [q2, q3]
      have z : B p (v + 1) 0 1 = [(0, v + 1)] := by
        rw [B_high (by omega) (Nat.zero_mod p) (by rw [Nat.mod_eq_of_lt (by omega)]; omega), B_end (by omega)]
        rfl
      rw [z]
      exact Nat.le_add_left _ _
    | succ n =>
      have hq : h / p ≤ p ^ (n + 1) := by
        rw [Nat.pow_succ] at hn
        exact Nat.div_le_of_le_mul (by rw [Nat.mul_comm]; exact hn)
      have := ih n hq
      have a1 : (if l / p % p = 0 then 0 else p - l / p % p) ≤ p - 1 := by split <;> omega
      have a2 : h / p % p ≤ p - 1 := by have := Nat.mod_lt (h / p) (show 0 < p by omega); omega
      rw [Nat.mul_succ]
      omega
theorem B_len' {p : Nat} (hp : 2 ≤ p) {v l h : Nat} (n : Nat) (hle : l ≤ h) (hn : h ≤ p ^ (n + 1)) : (B p v l h).length ≤ 2 * (p - 1) * (n + 1) + 1 := by
  have := B_len hp (v := v) n hle hn
  have a1 : (if l % p = 0 then 0 else p - l % p) ≤ p - 1 := by split <;> omega
  have a2 : h % p ≤ p - 1 := by have := Nat.mod_lt h (show 0 < p by omega); omega
  rw [Nat.mul_assoc, Nat.mul_succ]
  omega
/-! none can be wider -/
def LowI (p F v l : Nat) : Prop := (l % p = 0 → l * p ^ v < F + p ^ (v + 1)) ∧ (l % p ≠ 0 → l / p * p ^ (v + 1) < F)
def HighI (p L v h : Nat) : Prop := L < (h / p + 1) * p ^ (v + 1)
theorem succ_mod {p l : Nat} (hp : 2 ≤ p) (m : l % p ≠ 0) : ((l + 1) % p = 0 ∧ l + 1 = (l / p + 1) * p) ∨ ((l + 1) % p ≠ 0 ∧ (l + 1) / p = l / p) := by
  have lt := Nat.mod_lt l (show 0 < p by omega)
  have dm := Nat.div_add_mod l p
  generalize hr : l % p = r at *
  generalize hq : l / p = q at *
  have e : l + 1 = (r + 1) + q * p := by rw [Nat.mul_comm q p]; omega
  by_cases z : r + 1 = p
  · left
    rw [e, z, Nat.succ_mul, Nat.add_comm]
    refine ⟨?_, rfl⟩
    rw [Nat.add_mod, Nat.mul_mod_left, Nat.mod_self]
    simp
  · right
    rw [e, Nat.add_mul_mod_self_right, Nat.add_mul_div_right _ _ (by omega), Nat.mod_eq_of_lt (by omega), Nat.div_eq_of_lt (by omega)]
    omega
theorem pred_div {p h : Nat} (hp : 2 ≤ p) (m : h % p ≠ 0) : (h - 1) / p = h / p := by
  have lt := Nat.mod_lt h (show 0 < p by omega)
  have dm := Nat.div_add_mod h p
  generalize hr : h % p = r at *
  generalize hq : h / p = q at *
  have e : h - 1 = (r - 1) + q * p := by rw [Nat.mul_comm q p]; omega
  rw [e, Nat.add_mul_div_right _ _ (by omega), Nat.div_eq_of_lt (by omega)]
  omega
theorem LowI.step {p F v l : Nat} (hp : 2 ≤ p) (m : l % p ≠ 0) (I : LowI p F v l) : LowI p F v (l + 1) := by
  have i := I.2 m
  rcases succ_mod hp m with ⟨a, b⟩ | ⟨a, b⟩
  · refine ⟨fun _ => ?_, fun z => absurd a z⟩
    rw [b, Nat.mul_assoc, Nat.mul_comm p, ← Nat.pow_succ, Nat.succ_mul]
    show l / p * p ^ (v + 1) + p ^ (v + 1) < F + p ^ (v + 1)
    omega
  · refine ⟨fun z => absurd z a, fun _ => ?_⟩
    rw [b]
    exact i
theorem LowI.up {p F v l : Nat} (hp : 2 ≤ p) (m : l % p = 0) (I : LowI p F v l) : LowI p F (v + 1) (l / p) := by
  have i := I.1 m
  rw [← pw m] at i
  generalize l / p = u at *
  constructor
  · intro _
    have : p ^ (v + 1) ≤ p ^ (v + 1 + 1) := Nat.pow_le_pow_right (by omega) (by omega)
    omega
  · intro z
    have dm := Nat.div_add_mod u p
    have e : u / p * p ^ (v + 1 + 1) + p ^ (v + 1) ≤ u * p ^ (v + 1) := by
      rw [Nat.pow_succ p (v + 1), Nat.mul_comm (p ^ (v + 1)) p, ← Nat.mul_assoc, ← Nat.succ_mul]
      apply Nat.mul_le_mul_right
      rw [Nat.mul_comm]
      omega
    omega
theorem HighI.up {p L v h : Nat} (hp : 2 ≤ p) (I : HighI p L v h) : HighI p L (v + 1) (h / p) := by
  unfold HighI at *
  generalize h / p = u at *
  refine Nat.lt_of_lt_of_le I ?_
  rw [Nat.pow_succ p (v + 1), Nat.mul_comm (p ^ (v + 1)) p, ← Nat.mul_assoc]
  apply Nat.mul_le_mul_right
  have dm := Nat.div_add_mod u p
  have lt := Nat.mod_lt u (show 0 < p by omega)
  rw [Nat.succ_mul, Nat.mul_comm]
  omega
theorem B_wide {p : Nat} (hp : 2 ≤ p) {F L v l h : Nat} (hle : l ≤ h) (hl : LowI p F v l) (hh : HighI p L v h) : ∀ x ∈ B p v l h, x.1 / p * p ^ (x.2 + 1) < F ∨ L < (x.1 / p + 1) * p ^ (x.2 + 1) := by
  refine B_ind hp (C := fun v l h ks => LowI p F v l → HighI p L v h → ∀ x ∈ ks, x.1 / p * p ^ (x.2 + 1) < F ∨ L < (x.1 / p + 1) * p ^ (x.2 + 1)) ?_ ?_ ?_ ?_ (h - l) v l h (Nat.le_refl _) hle hl hh
  · intro v l h e _ _ x hx
    cases hx
  · intro v l h c m ih il ih2 x hx
    rcases List.mem_cons.mp hx with rfl | hx
    · exact .inl (il.2 m)
    · exact ih (il.step hp m) ih2 x hx
  · intro v l h c m m2 ih il ih2 x hx
    rcases List.mem_append.mp hx with hx | hx
    · refine ih il ?_ x hx
      unfold HighI at *
      rw [pred_div hp m2]
      exact ih2
    · rw [List.mem_singleton] at hx
      subst hx
      right
      show L < ((h - 1) / p + 1) * p ^ (v + 1)
      rw [pred_div hp m2]
      exact ih2
  · intro v l h c m m2 _ ih il ih2 x hx
    exact ih (il.up hp m) (ih2.up hp) x hx
theorem B_wide0 {p f e : Nat} (hp : 2 ≤ p) (hle : f ≤ e) : ∀ x ∈ B p 0 f e, x.1 / p * p ^ (x.2 + 1) < f ∨ e < (x.1 / p + 1) * p ^ (x.2 + 1) := by
  refine B_wide hp hle ⟨fun _ => ?_, fun m => ?_⟩ ?_
  · rw [Nat.pow_zero]
    have : 0 < p ^ (0 + 1) := Nat.pow_pos (by omega)
    omega
  · have dm := Nat.div_add_mod f p
    rw [Nat.zero_add, Nat.pow_one, Nat.mul_comm]
    omega
  · unfold HighI
    have dm := Nat.div_add_mod e p
    have lt := Nat.mod_lt e (show 0 < p by omega)
    rw [Nat.zero_add, Nat.pow_one, Nat.succ_mul, Nat.mul_comm]
    omega
/-! one block -/
theorem B_one {p : Nat} (hp : 2 ≤ p) : ∀ (n v : Nat), B p v 0 (p ^ n) = [(0, v + n)]
  | 0, v => by
    rw [B_high (by simp) (Nat.zero_mod p) (by rw [Nat.pow_zero, Nat.mod_eq_of_lt (by omega)]; omega), B_end (by simp)]
    rfl
  | n + 1, v => by
    have e : p ^ (n + 1) / p = p ^ n := by rw [Nat.pow_succ, Nat.mul_div_cancel _ (by omega)]
    rw [B_up hp (Nat.pow_pos (by omega)) (Nat.zero_mod p) (by rw [Nat.pow_succ, Nat.mul_mod_left]), e, Nat.zero_div, B_one hp n (v + 1)]
    congr 2
    omega
/-- levels are low -/
theorem Chain.le {p : Nat} {ks : List (Nat × Nat)} {x y : Nat} (h : Chain p ks x y) : x ≤ y ∧ ∀ b ∈ ks, x ≤ b.1 * p ^ b.2 ∧ b.1 * p ^ b.2 + p ^ b.2 ≤ y := by
  induction h with
  | nil x => exact ⟨Nat.le_refl _, fun b hb => nomatch hb⟩
  | cons r ih =>
    refine ⟨by omega, fun b hb => ?_⟩
    rcases List.mem_cons.mp hb with rfl | hb
    · exact ⟨Nat.le_refl _, ih.1⟩
    · have := ih.2 b hb
      omega
end HB

/-! what every law here draws on: the bag, taken from -/
namespace HG
open PySem PySem.Spec PyProof.Rows L2
/-- xs[k] read ahead of xs[k] op= e -/
def rGetL (K : PySem.W.Frag) : V → V → Hp → VK → Prop := fun o i H Q => ∃ p xs k v, o = .ref p ∧ i = .int k ∧ SqL K H p xs ∧ 0 ≤ k ∧ xs[k.toNat]? = some v ∧ Q v H
theorem get_list {X : Cx} : PGet X (rGetL X.K) := by
  intro pins s σ H o i ov iv Q I ro ri h
  obtain ⟨p, xs, k, v, rfl, rfl, hq, h0, hx, q⟩ := h
  cases ro
  obtain ⟨t, rfl⟩ := ri
  obtain ⟨its, r, pl, hz⟩ := I.list hq
  obtain ⟨w, ew, rw'⟩ := r.get hx
  have hn := line63
  have hl := r.length
  have hlt : k.toNat < xs.length := (List.getElem?_eq_some_iff.mp hx).1
  exact wpAny_getItem_list pl.isList h0 (by omega) (by simpa using ew) ⟨v, H, I, rw', q⟩
theorem atI_int {α : Type} {xs : List α} {i : Int} {v : α} (h0 : 0 ≤ i) (h : xs[i.toNat]? = some v) : atI xs i = some v := by
  obtain ⟨j, rfl⟩ := Int.eq_ofNat_of_zero_le h0
  exact atI_nat h
theorem upd_self {H : Hp} {p : Addr} {o : HO} (h : H p = some o) : upd H p o = H := by
  funext b
  unfold upd
  by_cases e : b = p
  · rw [if_pos e, e, h]
  · rw [if_neg e]
theorem same_upd {H : Hp} {p : Addr} {o : HO} (h : H p = none) : Same H (upd H p o) := fun b x e => by
  rw [upd_ne (ne_of_none e h)]
  exact e
/-- the bag: its place, what is drawn from, how far -/
def bagL (b0 b1 b2 : Int) (c : Addr) : HO := .lst [.int b0, .int b1, .int b2, .ref c]
def Bag (H : Hp) (p : Addr) : Prop := ∃ (c : Addr) (b0 b1 b2 : Int) (cs : List Int), H p = some (bagL b0 b1 b2 c) ∧ H c = some (.lst (cs.map V.int)) ∧ 0 ≤ b2
theorem Bag.lst {H : Hp} {p : Addr} (B : Bag H p) : ∃ xs, H p = some (.lst xs) := let ⟨_, _, _, _, _, h, _⟩ := B; ⟨_, h⟩
theorem bag_ne {H : Hp} {p c : Addr} {b0 b1 b2 : Int} {cs : List Int} (h : H p = some (bagL b0 b1 b2 c)) (g : H c = some (.lst (cs.map V.int))) : c ≠ p := fun e => by
  subst e
  rw [h] at g
  have g := HO.lst.inj (Option.some.inj g)
  rcases cs with _ | ⟨a, _ | ⟨b, _ | ⟨d, _ | ⟨f, r⟩⟩⟩⟩ <;> simp at g
theorem Bag.same {H H' : Hp} {p : Addr} (s : Same H H') (B : Bag H p) : Bag H' p := let ⟨c, b0, b1, b2, cs, h, g, z⟩ := B; ⟨c, b0, b1, b2, cs, s _ _ h, s _ _ g, z⟩
def spBag (K : PySem.W.Frag) : Sp := fun vs H Q _ => ∃ (a : Addr) (ns : List Int), vs = [.ref a] ∧ SqL K H a (ns.map V.int) ∧ ns.length ≤ 63 ∧ ∀ p H', Same H H' → H p = none → Bag H' p → Q (.ref p) H'
def spTake : Sp := fun vs H Q _ => ∃ (p : Addr) (m : Int), vs = [.ref p, .int m] ∧ Bag H p ∧ 0 < m ∧ m.natAbs < 2 ^ 1000 ∧ ∀ (r : Int) (xs : List V), 0 ≤ r → r < m → Bag (upd H p (.lst xs)) p → Q (.int r) (upd H p (.lst xs))
/-- the bag, and none of it at q -/
def BagOff (H : Hp) (p q : Addr) : Prop := ∃ (c : Addr) (b0 b1 b2 : Int) (cs : List Int), H p = some (bagL b0 b1 b2 c) ∧ H c = some (.lst (cs.map V.int)) ∧ 0 ≤ b2 ∧ p ≠ q ∧ c ≠ q
theorem BagOff.of {H : Hp} {p q : Addr} (B : Bag H p) (n : H q = none) : BagOff H p q := let ⟨c, b0, b1, b2, cs, h, g, z⟩ := B; ⟨c, b0, b1, b2, cs, h, g, z, ne_of_none h n, ne_of_none g n⟩
theorem BagOff.bag {H : Hp} {p q : Addr} (B : BagOff H p q) : Bag H p := let ⟨c, b0, b1, b2, cs, h, g, z, _, _⟩ := B; ⟨c, b0, b1, b2, cs, h, g, z⟩
theorem BagOff.same {H H' : Hp} {p q : Addr} (s : Same H H') (B : BagOff H p q) : BagOff H' p q := let ⟨c, b0, b1, b2, cs, h, g, z, n1, n2⟩ := B; ⟨c, b0, b1, b2, cs, s _ _ h, s _ _ g, z, n1, n2⟩
theorem BagOff.off {H : Hp} {p q : Addr} {o : HO} (B : BagOff H p q) : BagOff (upd H q o) p q := let ⟨c, b0, b1, b2, cs, h, g, z, n1, n2⟩ := B; ⟨c, b0, b1, b2, cs, by rw [upd_ne n1]; exact h, by rw [upd_ne n2]; exact g, z, n1, n2⟩
theorem BagOff.upd {H : Hp} {p q : Addr} {o : HO} (B : BagOff H p q) : Bag (upd H q o) p := B.off.bag
theorem BagOff.ne {H : Hp} {p q : Addr} (B : BagOff H p q) : p ≠ q := let ⟨_, _, _, _, _, _, _, _, n1, _⟩ := B; n1
theorem BagOff.put {H : Hp} {p q c : Addr} {b0 b1 b2 x y z : Int} (B : BagOff H p q) (h : H p = some (bagL b0 b1 b2 c)) (hz : 0 ≤ z) : BagOff (L2.upd H p (bagL x y z c)) p q := by
  obtain ⟨c', d0, d1, d2, cs, h', g, _, n1, n2⟩ := B
  have n3 := bag_ne h' g
  rw [h] at h'
  have e : c = c' := by
    have := HO.lst.inj (Option.some.inj h')
    simp at this
    exact this.2.2.2
  subst e
  exact ⟨c, x, y, z, cs, upd_same, by rw [upd_ne n3]; exact g, hz, n1, n2⟩
/-- the same promise, and what the bag doesn't reach it doesn't reach behind -/
def spTake2 : Sp := fun vs H Q _ => ∃ (p : Addr) (m : Int), vs = [.ref p, .int m] ∧ Bag H p ∧ 0 < m ∧ m.natAbs < 2 ^ 1000 ∧ ∀ (r : Int) (xs : List V), 0 ≤ r → r < m → Bag (L2.upd H p (.lst xs)) p → (∀ q, BagOff H p q → BagOff (L2.upd H p (.lst xs)) p q) → Q (.int r) (L2.upd H p (.lst xs))
theorem take_imp : ∀ (vs : List V) (H : Hp) (Q : VK) (E : XK), spTake vs H Q E → spTake2 vs H Q E := fun vs H Q E ⟨p, m, e, b, h0, h1, k⟩ => ⟨p, m, e, b, h0, h1, fun r xs r0 r1 hb _ => k r xs r0 r1 hb⟩
end HG

namespace HG
open PySem PySem.Spec PyProof.Rows L2
/-! what holds of a wish holds of a weaker one -/
def MoE (t : TE) : Prop := ∀ σ H Q Q', (∀ v H1, Q v H1 → Q' v H1) → t σ H Q → t σ H Q'
def MoT (t : TT) : Prop := ∀ σ H Q Q', (∀ b H1, Q b H1 → Q' b H1) → t σ H Q → t σ H Q'
def MoA (t : TA) : Prop := ∀ σ H Q Q', (∀ vs H1, Q vs H1 → Q' vs H1) → t σ H Q → t σ H Q'
def MoR (r : R2) : Prop := ∀ x y H Q Q', (∀ v H1, Q v H1 → Q' v H1) → r x y H Q → r x y H Q'
theorem mo_var {i : Nat} : MoE (tVar i) := fun σ H Q Q' hq ⟨v, e, q⟩ => ⟨v, e, hq _ _ q⟩
theorem mo_c {v : V} : MoE (tC v) := fun σ H Q Q' hq q => hq _ _ q
theorem mo_op {r : R2} {ta tb : TE} (hr : MoR r) (ha : MoE ta) (hb : MoE tb) : MoE (tOp r ta tb) := fun σ H Q Q' hq h => ha σ H _ _ (fun x H1 h1 => hb σ H1 _ _ (fun y H2 h2 => hr x y H2 _ _ hq h2) h1) h
theorem mo_rI {C : Int → Int → Prop} {g : Int → Int → V} : MoR (rI C g) := fun x y H Q Q' hq ⟨i, j, e1, e2, c, q⟩ => ⟨i, j, e1, e2, c, hq _ _ q⟩
theorem mo_rI0 {g : Int → Int → V} : MoR (rI0 g) := fun x y H Q Q' hq ⟨i, j, e1, e2, q⟩ => ⟨i, j, e1, e2, hq _ _ q⟩
theorem mo_rEq : MoR rEq := fun x y H Q Q' hq ⟨c, q⟩ => ⟨c, hq _ _ q⟩
theorem mo_rNe : MoR rNe := fun x y H Q Q' hq ⟨c, q⟩ => ⟨c, hq _ _ q⟩
theorem mo_rIxL {K : PySem.W.Frag} : MoR (rIxL K) := fun x y H Q Q' hq ⟨p, xs, i, v, e1, e2, s, a, q⟩ => ⟨p, xs, i, v, e1, e2, s, a, hq _ _ q⟩
theorem mo_test {t : TE} (h : MoE t) : MoT (tTest t) := fun σ H Q Q' hq q => h σ H _ _ (fun v H1 ⟨k, e, q⟩ => ⟨k, e, hq _ _ q⟩) q
theorem mo_and {t u : TT} (ht : MoT t) (hu : MoT u) : MoT (tAnd t u) := fun σ H Q Q' hq q => ht σ H _ _ (fun c H1 q => by
  cases c with
  | true => exact iteT (hu σ H1 _ _ hq (by simpa using q))
  | false => exact iteF (hq _ _ (by simpa using q))) q
def MoC (r : List V → Hp → VK → Prop) : Prop := ∀ xs H Q Q', (∀ v H1, Q v H1 → Q' v H1) → r xs H Q → r xs H Q'
theorem mo_nil : MoA tNil := fun σ H Q Q' hq q => hq _ _ q
theorem mo_cons {t : TE} {u : TA} (ht : MoE t) (hu : MoA u) : MoA (tCons t u) := fun σ H Q Q' hq q => ht σ H _ _ (fun x H1 q1 => hu σ H1 _ _ (fun xs H2 q2 => hq _ _ q2) q1) q
theorem mo_cb {r : List V → Hp → VK → Prop} {t : TA} (hr : MoC r) (ht : MoA t) : MoE (tCB r t) := fun σ H Q Q' hq q => ht σ H _ _ (fun vs H1 q1 => hr vs H1 _ _ hq q1) q
end HG

namespace HG
open PySem PySem.Spec PyProof.Rows L2 HB
def kV2 (k : Nat × Nat) : HO := .tup [.int (k.1 : Int), .int (k.2 : Int)]
/-- at these places stand these pairs -/
def Tups (H : Hp) : List Addr → List (Nat × Nat) → Prop
  | [], [] => True
  | t :: ts, k :: ks => H t = some (kV2 k) ∧ Tups H ts ks
  | _, _ => False
theorem Tups.len {H : Hp} : ∀ {ts : List Addr} {ks : List (Nat × Nat)}, Tups H ts ks → ts.length = ks.length
  | [], [], _ => rfl
  | _ :: _, _ :: _, h => congrArg (· + 1) (Tups.len h.2)
  | [], _ :: _, h => h.elim
  | _ :: _, [], h => h.elim
theorem Tups.mono {H H' : Hp} (s : ∀ t k, H t = some (kV2 k) → H' t = some (kV2 k)) : ∀ {ts : List Addr} {ks : List (Nat × Nat)}, Tups H ts ks → Tups H' ts ks
  | [], [], _ => trivial
  | _ :: _, _ :: _, h => ⟨s _ _ h.1, Tups.mono s h.2⟩
  | [], _ :: _, h => h.elim
  | _ :: _, [], h => h.elim
theorem Tups.app {H : Hp} {us : List Addr} {ms : List (Nat × Nat)} (g : Tups H us ms) : ∀ {ts : List Addr} {ks : List (Nat × Nat)}, Tups H ts ks → Tups H (ts ++ us) (ks ++ ms)
  | [], [], _ => g
  | _ :: _, _ :: _, h => ⟨h.1, Tups.app g h.2⟩
  | [], _ :: _, h => h.elim
  | _ :: _, [], h => h.elim
theorem Tups.rev {H : Hp} : ∀ {ts : List Addr} {ks : List (Nat × Nat)}, Tups H ts ks → Tups H ts.reverse ks.reverse
  | [], [], _ => trivial
  | t :: ts, k :: ks, h => by
    rw [List.reverse_cons, List.reverse_cons]
    exact Tups.app (show Tups H [t] [k] from ⟨h.1, trivial⟩) (Tups.rev h.2)
  | [], _ :: _, h => h.elim
  | _ :: _, [], h => h.elim
theorem Tups.get {H : Hp} : ∀ {ts : List Addr} {ks : List (Nat × Nat)} {i : Nat} {t : Addr}, Tups H ts ks → ts[i]? = some t → ∃ k, ks[i]? = some k ∧ H t = some (kV2 k)
  | [], [], _, _, _, h => by cases h
  | t :: ts, k :: ks, 0, _, h, e => by
    cases e
    exact ⟨k, rfl, h.1⟩
  | t :: ts, k :: ks, i + 1, _, h, e => Tups.get (i := i) h.2 e
  | [], _ :: _, _, _, h, _ => h.elim
  | _ :: _, [], _, _, h, _ => h.elim
def kD (k : Nat × Nat) : PyData := .tuple [.int (k.1 : Int), .int (k.2 : Int)]
theorem Tups.dp {K : PySem.W.Frag} {H : Hp} : ∀ {ts : List Addr} {ks : List (Nat × Nat)}, Tups H ts ks → DpAll K H (ts.map V.ref) (ks.map kD)
  | [], [], _ => .nil
  | _ :: _, _ :: _, h => .cons (.tup (.of h.1) (.cons (.int _) (.cons (.int _) .nil))) (Tups.dp h.2)
  | [], _ :: _, h => h.elim
  | _ :: _, [], h => h.elim
/-- the state of the walk of blocks -/
def Inn (H : Hp) (fr bk : Addr) (p : Nat) (R : List (Nat × Nat)) (d v lo hi : Nat) (H' : Hp) : Prop :=
  lo ≤ hi ∧ hi - lo ≤ d ∧ Same H H' ∧ ∃ (ts us : List Addr) (ks ms : List (Nat × Nat)), H' fr = some (.lst (ts.map V.ref)) ∧ H' bk = some (.lst (us.map V.ref)) ∧ Tups H' ts ks ∧ Tups H' us ms ∧ ks ++ B p v lo hi ++ ms.reverse = R
theorem tup_stay {H' : Hp} {t fr : Addr} {xs ys : List V} {o : HO} (ht : H' t = none) (hf : H' fr = some (.lst xs)) : ∀ a k, H' a = some (kV2 k) → (upd (upd H' t o) fr (.lst ys)) a = some (kV2 k) := fun a k e => by
  have n1 : a ≠ fr := ne_of e hf (by intro z; cases z)
  rw [upd_ne n1, upd_ne (ne_of_none e ht)]
  exact e
theorem fr_same {H H' : Hp} {t fr : Addr} {o u : HO} (s : Same H H') (nf : H fr = none) (ht : H' t = none) : Same H (upd (upd H' t o) fr u) := fun b x e => by
  rw [upd_ne (ne_of_none e nf), upd_ne (ne_of_none e (s.free ht))]
  exact s b x e
theorem Inn.front {H H' : Hp} {fr bk : Addr} {p : Nat} {R : List (Nat × Nat)} {d v lo hi : Nat} (I : Inn H fr bk p R d v lo hi H') (nf : H fr = none) (nfb : fr ≠ bk) (c : lo < hi) (m : lo % p ≠ 0) {t : Addr} (ht : H' t = none) :
    ∃ xs, (upd H' t (kV2 (lo, v))) fr = some (.lst xs) ∧ xs.length ≤ R.length ∧ Inn H fr bk p R d v (lo + 1) hi (upd (upd H' t (kV2 (lo, v))) fr (.lst (xs ++ [.ref t]))) := by
  obtain ⟨i1, i2, s, ts, us, ks, ms, hf, hb, tf, tb, e⟩ := I
  have ntf : fr ≠ t := ne_of_none hf ht
  have ntb : bk ≠ t := ne_of_none hb ht
  refine ⟨ts.map V.ref, by rw [upd_ne ntf]; exact hf, ?_, by omega, by omega, fr_same s nf ht, ts ++ [t], us, ks ++ [(lo, v)], ms, ?_, ?_, ?_, ?_, ?_⟩
  · rw [List.length_map, tf.len, ← e, List.length_append, List.length_append]
    omega
  · rw [upd_same, List.map_append]
    rfl
  · rw [upd_ne nfb.symm, upd_ne ntb]
    exact hb
  · refine Tups.app (show Tups _ [t] [(lo, v)] from ⟨?_, trivial⟩) (tf.mono (tup_stay ht hf))
    rw [upd_ne ntf.symm, upd_same]
  · exact tb.mono (tup_stay ht hf)
  · rw [← e, B_low c m, List.append_assoc, List.append_assoc, List.append_assoc]
    rfl
theorem Inn.back {H H' : Hp} {fr bk : Addr} {p : Nat} {R : List (Nat × Nat)} {d v lo hi : Nat} (I : Inn H fr bk p R d v lo hi H') (nb : H bk = none) (nfb : fr ≠ bk) (c : lo < hi) (m : lo % p = 0) (m2 : hi % p ≠ 0) {t : Addr} (ht : H' t = none) :
    ∃ xs, (upd H' t (kV2 (hi - 1, v))) bk = some (.lst xs) ∧ xs.length ≤ R.length ∧ Inn H fr bk p R d v lo (hi - 1) (upd (upd H' t (kV2 (hi - 1, v))) bk (.lst (xs ++ [.ref t]))) := by
  obtain ⟨i1, i2, s, ts, us, ks, ms, hf, hb, tf, tb, e⟩ := I
  have ntf : fr ≠ t := ne_of_none hf ht
  have ntb : bk ≠ t := ne_of_none hb ht
  refine ⟨us.map V.ref, by rw [upd_ne ntb]; exact hb, ?_, by omega, by omega, fr_same s nb ht, ts, us ++ [t], ks, ms ++ [(hi - 1, v)], ?_, ?_, ?_, ?_, ?_⟩
  · rw [List.length_map, tb.len, ← e, List.length_append, List.length_append, List.length_reverse]
    omega
  · rw [upd_ne nfb, upd_ne ntf]
    exact hf
  · rw [upd_same, List.map_append]
    rfl
  · exact tf.mono (tup_stay ht hb)
  · refine Tups.app (show Tups _ [t] [(hi - 1, v)] from ⟨?_, trivial⟩) (tb.mono (tup_stay ht hb))
    rw [upd_ne ntb.symm, upd_same]
  · rw [← e, B_high c m m2, List.reverse_append]
    simp only [List.append_assoc]
    rfl
theorem Inn.up {H H' : Hp} {fr bk : Addr} {p : Nat} {R : List (Nat × Nat)} {d v lo hi : Nat} (hp : 2 ≤ p) (I : Inn H fr bk p R d v lo hi H') (m : lo = hi ∨ (lo % p = 0 ∧ hi % p = 0)) (hd : 0 < d) : ∃ d', d' < d ∧ Inn H fr bk p R d' (v + 1) (lo / p) (hi / p) H' ∧ hi / p - lo / p = d' := by
  obtain ⟨i1, i2, s, ts, us, ks, ms, hf, hb, tf, tb, e⟩ := I
  have key : hi / p - lo / p < d ∧ B p (v + 1) (lo / p) (hi / p) = B p v lo hi := by
    by_cases c : lo = hi
    · subst c
      rw [B_end (by omega), B_end (by omega)]
      exact ⟨by omega, rfl⟩
    · rcases m with m | ⟨m, m2⟩
      · exact absurd m c
      · have h1 := half hp (show lo < hi by omega) m m2
        exact ⟨by omega, (B_up hp (by omega) m m2).symm⟩
  refine ⟨_, key.1, ⟨Nat.div_le_div_right i1, Nat.le_refl _, s, ts, us, ks, ms, hf, hb, tf, tb, ?_⟩, rfl⟩
  rw [key.2]
  exact e
def spBlocks : Sp := fun vs H Q _ => ∃ (f l p : Nat), vs = [.int (f : Int), .int (l : Int), .int (p : Int)] ∧ f ≤ l ∧ 2 ≤ p ∧ p ≤ 4 ∧ (B p 0 f (l + 1)).length ≤ 1000 ∧
  ∀ (q : Addr) (ts : List Addr) (H' : Hp), Same H H' → H q = none → H' q = some (.lst (ts.map V.ref)) → Tups H' ts (B p 0 f (l + 1)) → Q (.ref q) H'
def spSize : Sp := fun vs H Q _ => ∃ (p m : Nat), vs = [.int (p : Int), .int (m : Int)] ∧ p < 1000 ∧ m < 1000 ∧ Q (.int ((p ^ m : Nat) : Int)) H
end HG

/-! data of any depth: it stays, it can be compared -/
namespace HG
open PySem PySem.Spec PyProof.Rows L2
theorem sqT_same {K : PySem.W.Frag} {H H' : Hp} {a : Addr} {xs : List V} (e : Same H H') (h : SqT K H a xs) : SqT K H' a xs := by
  rcases h with (h | ⟨o, h⟩) | h
  · exact .inl (.inl (e _ _ h))
  · exact .inl (.inr ⟨o, e _ _ h⟩)
  · exact .inr h
mutual
theorem dp_same {K : PySem.W.Frag} {H H' : Hp} (s : Same H H') : ∀ (d : PyData) (v : V), Dp K H v d → Dp K H' v d
  | .none, _, h => by cases h; exact .non
  | .bool b, _, h => by cases h; exact .bl b
  | .int i, _, h => by cases h; exact .int i
  | .str x, _, h => by cases h; exact .str x
  | .list ds, _, h => by
    cases h with
    | lst h1 h2 => exact .lst (s.seq h1) (dpAll_same s ds _ h2)
  | .tuple ds, _, h => by
    cases h with
    | tup h1 h2 => exact .tup (sqT_same s h1) (dpAll_same s ds _ h2)
  | .dict _, _, h => by cases h
theorem dpAll_same {K : PySem.W.Frag} {H H' : Hp} (s : Same H H') : ∀ (ds : List PyData) (vs : List V), DpAll K H vs ds → DpAll K H' vs ds
  | [], _, h => by cases h; exact .nil
  | d :: ds, _, h => by
    cases h with
    | cons h1 h2 => exact .cons (dp_same s d _ h1) (dpAll_same s ds _ h2)
end
theorem dp_lst {K : PySem.W.Frag} {H : Hp} {p : Addr} {xs : List V} {ds : List PyData} (h : DpAll K H xs ds) (np : H p = none) : Dp K (upd H p (.lst xs)) (.ref p) (.list ds) :=
  .lst (.of upd_same) (dpAll_same (same_upd np) _ _ h)
theorem dp_tup {K : PySem.W.Frag} {H : Hp} {p : Addr} {xs : List V} {ds : List PyData} (h : DpAll K H xs ds) (np : H p = none) : Dp K (upd H p (.tup xs)) (.ref p) (.tuple ds) :=
  .tup (.of upd_same) (dpAll_same (same_upd np) _ _ h)
theorem dpAll_ints {K : PySem.W.Frag} {H : Hp} : ∀ ns : List Int, DpAll K H (ns.map V.int) (ns.map PyData.int)
  | [] => .nil
  | n :: ns => .cons (.int n) (dpAll_ints ns)
theorem shaped_list {ds : List PyData} (h : ∀ d ∈ ds, PyData.canLay0 d = true ∧ PyData.depth d ≤ 40) : PyData.canLay0 (.list ds) = true ∧ SeqAt.shaped (.list ds) = true := by
  have key : PyData.canLayAll0 ds = true ∧ PyData.depthAll ds ≤ 40 := by
    induction ds with
    | nil => exact ⟨rfl, by show 0 ≤ 40; decide⟩
    | cons d ds ih =>
      obtain ⟨i1, i2⟩ := ih fun d' hd => h d' (List.mem_cons_of_mem _ hd)
      obtain ⟨j1, j2⟩ := h d List.mem_cons_self
      refine ⟨?_, ?_⟩
      · show (PyData.canLay0 d && PyData.canLayAll0 ds) = true
        rw [j1, i1]
        rfl
      · show max (PyData.depth d) (PyData.depthAll ds) ≤ 40
        omega
  refine ⟨key.1, ?_⟩
  show (PyData.canLayAll0 ds && decide (PyData.depthAll ds + 1 ≤ 64)) = true
  rw [key.1, decide_eq_true (by omega)]
  rfl
theorem shaped_ints (ns : List Int) : PyData.canLay0 (.list (ns.map PyData.int)) = true ∧ SeqAt.shaped (.list (ns.map PyData.int)) = true := shaped_list fun d hd => by
  obtain ⟨n, _, rfl⟩ := List.mem_map.mp hd
  exact ⟨rfl, by show 0 ≤ 40; decide⟩
theorem shaped_kD (ks : List (Nat × Nat)) : PyData.canLay0 (.list (ks.map kD)) = true ∧ SeqAt.shaped (.list (ks.map kD)) = true := shaped_list fun d hd => by
  obtain ⟨n, _, rfl⟩ := List.mem_map.mp hd
  exact ⟨rfl, by show 1 ≤ 40; decide⟩
end HG

/-! promises of defs that are called where no repr is under way; repr of data -/
namespace HG
open PySem PySem.Spec PyProof.Rows L2
section
variable {P : Program} {w : World} {K : PySem.W.Frag} {mg : Str → Option Value} {base : Heap} {CX : CXT} {k : Nat} {f : Addr} {fd : FuncData} {ps : List Str} {sp : Sp}
/-- as FnOk, but only for calls outside of every repr -/
structure FnG (P : Program) (w : World) (K : PySem.W.Frag) (mg : Str → Option Value) (base : Heap) (CX : CXT) (k : Nat) (f : Addr) (fd : FuncData) (ps : List Str) (sp : Sp) : Prop where
  many : ∀ vs H Q E, sp vs H Q E → vs.length = ps.length
  goes : ∀ (A : Around) (outer : List Env) (s : Shared) (H : Hp) (args : Args) (us : List Value) (vs : List V) (Q : VK) (E : XK), A.guards = some [] → Room k A → Env0 P w K mg base A outer s H →
    BindsTo s fd args (ps.zip us) → Vals vs us → sp vs H Q E → codeAny (model P w) A (.call (.ref f) args) (CR CX outer P w H s Q E) s
theorem FnG.of (F : FnOk P w K mg base CX k f fd ps sp) : FnG P w K mg base CX k f fd ps sp :=
  ⟨F.len, fun A outer s H args us vs Q E _ => F.run A outer s H args us vs Q E⟩
theorem FnG.up {j : Nat} (F : FnG P w K mg base CX j f fd ps sp) (h : j ≤ k) : FnG P w K mg base CX k f fd ps sp :=
  ⟨F.many, fun A outer s H args us vs Q E g r => F.goes A outer s H args us vs Q E g (r.mono h)⟩
/-- the end of a frame, as its caller sees it -/
theorem cr_of {A : Around} {outer : List Env} {s s' : Shared} {H : Hp} {Q : VK} {E : XK} {N : List Str} {qual : Str} {sc : Scope} {cdv : Value} {fl : Flow}
    (h : SP (cxOf CX P w K mg base N qual sc f cdv A outer s H E) [] { nx := fun _ H' => Q .non H', rt := Q } fl s') : ∀ r : Result, (r = match fl with | .ret u => (.ok (.ret u) : Result) | _ => (.ok (.ret .none) : Result)) → CR CX outer P w H s Q E r s' := by
  rintro _ rfl
  cases fl with
  | ret u => obtain ⟨v, _, H', J, rv, q⟩ := h; exact ⟨v, H', J.os, J.bare, J.base, J.hok, rv, q⟩
  | next => obtain ⟨_, H', J, q⟩ := h; exact ⟨.non, H', J.os, J.bare, J.base, J.hok, rfl, q⟩
  | brk => obtain ⟨_, _, _, q⟩ := h; exact q.elim
  | cont => obtain ⟨_, _, _, q⟩ := h; exact q.elim
/-- a def of the text keeps its promise, by its body, wherever no repr is under way -/
theorem okG {x qual : Str} {st : Stmt} {N : List Str} (F : Fun K x qual st f fd) (S : FnScope N ps (defScope st)) (len : ∀ vs H Q E, sp vs H Q E → vs.length = ps.length)
    (hb : ∀ (cdv : Value) (A : Around) (outer : List Env) (s : Shared) (H : Hp) (vs : List V) (Q : VK) (E : XK), A.guards = some [] → Room k (A.deeper (envOfC qual (defScope st) s.heap.objs.size f cdv)) → sp vs H Q E →
      ∃ t, PSs (cxOf CX P w K mg base N qual (defScope st) f cdv A outer s H E) (defBody st) t ∧ t { nx := fun _ H' => Q .non H', rt := Q } (start N vs) H) : FnG P w K mg base CX (k + 1) f fd ps sp := by
  obtain ⟨oc, od, kV, doc, pm, an, cdv, ct, osl, rfl, lk, hcd⟩ := F.ex
  refine ⟨len, fun A outer s H args us vs Q E hg hr e0 bt rv hs => ?_⟩
  have old : ∀ b o, base.get? b = some o → s.heap.get? b = some o := fun b o e => (e0.bs b o e).1
  have KX := e0.mod.kin.keeps old
  have kinds : ∀ y ∈ ps.zip us, (defScope st).names.lookup y.1 = some .local ∨ ((defScope st).names.lookup y.1 = some .cell ∧ ((cellsFrom (s.heap.objs.size + 1) (defScope st).names []).lookup y.1).isSome = true) := by
    rintro ⟨n, v⟩ hy
    exact (S.par n (List.of_mem_zip hy).1).imp id fun q => ⟨q, PySem.W.cellsFrom_some _ _ _ (.inl q)⟩
  apply codeAny_call_function hr.depth (KX _ _ lk) rfl S.co S.gen rfl (PySem.W.codeRec_of KX hcd)
  refine bt _ _ _ _ (wpAny_newFunctionEnv_cells S.kind kinds ?_)
  rintro _ rfl s1 x
  refine ⟨(e0.mod.nolimit.keeps old).keeps x.toInCall.keep, codeAny_func ?_⟩
  obtain ⟨t, ht, hq⟩ := hb cdv A outer s H vs Q E hg (hr.deeper _) hs
  refine wpAny_mono (ht.run [] s1 (start N vs) H _ (inv_start S hr.hd e0 (len _ _ _ _ hs) rv x) hq) ?_ ?_
  · intro fl s' h
    have z := cr_of h
    cases fl with
    | ret u => exact z _ rfl
    | next => exact z _ rfl
    | brk => obtain ⟨_, _, _, q⟩ := h; exact q.elim
    | cont => obtain ⟨_, _, _, q⟩ := h; exact q.elim
  · intro e s' h
    exact h
end
/-- the same of a def that nothing raised leaves -/
theorem okG0 {P : Program} {w : World} {K : PySem.W.Frag} {mg : Str → Option Value} {base : Heap} {k : Nat} {f : Addr} {fd : FuncData} {ps : List Str} {sp : Sp} {x qual : Str} {st : Stmt} {N : List Str} (F : Fun K x qual st f fd) (S : FnScope N ps (defScope st)) (len : ∀ vs H Q E, sp vs H Q E → vs.length = ps.length)
    (hb : ∀ (cdv : Value) (A : Around) (outer : List Env) (s : Shared) (H : Hp) (vs : List V) (Q : VK) (E : XK), A.guards = some [] → Room k (A.deeper (envOfC qual (defScope st) s.heap.objs.size f cdv)) → sp vs H Q E →
      ∃ t, PSs (cxOf CX0 P w K mg base N qual (defScope st) f cdv A outer s H E).nox (defBody st) t ∧ t { nx := fun _ H' => Q .non H', rt := Q } (start N vs) H) : FnG P w K mg base CX0 (k + 1) f fd ps sp := by
  refine okG F S len fun cdv A outer s H vs Q E g r h => ?_
  obtain ⟨t, ht, q⟩ := hb cdv A outer s H vs Q E g r h
  exact ⟨t, ht.nox, q⟩
section
variable {X : Cx} {CX : CXT} {k : Nat} {f : Addr} {fd : FuncData} {ps : List Str} {sp : Sp} {dvs : List V} {ds : List Value} {E : XK} {x : Str} {p pos : Pos} {e : Expr} {es : List Expr} {t : TA}
theorem runG {pins : List (Addr × Obj)} {σ : L2.St} {H : Hp} {s : Shared} {Q : VK} {us : List Value} {vs : List V} (F : FnG X.prog X.w X.K X.mg X.base CX k f fd ps sp) (hg : X.A.guards = some []) (hr : Room k X.A) (hb : Binds X.K fd ps ds) (hd : Vals dvs ds)
    (hx : Passes CX X E) (I : Inv X pins σ H s) (r : Vals vs us) (h : sp (vs ++ dvs) H Q E) : wpAny (model X.prog X.w) X.A (call (.ref f) us) (EP X pins σ Q) X.xe s := by
  have rr := r.append hd
  have bt := hb s us I.kIn (by rw [← rr.length]; exact F.many _ _ _ _ h)
  refine wpAny_call (codeAny_mono (F.goes X.A X.stack s H ⟨us, []⟩ _ _ Q E hg hr I.env0 bt rr h) ?_)
  rintro (e | fl) s' hq
  · exact hx pins σ H s e s' I hq
  · cases fl with
    | ret u => exact I.after hq
    | next => exact hq.elim
    | brk => exact hq.elim
    | cont => exact hq.elim
/-- f(e, ..) of such a def -/
theorem pe_callG (F : FnG X.prog X.w X.K X.mg X.base CX k f fd ps sp) (hg : X.A.guards = some []) (hr : Room k X.A) (gl : Gl X x) (hm : X.mg x = some (.ref f)) (hk : PySem.W.keepIn X.K (.ref f) = true) (hb : Binds X.K fd ps ds) (hd : Vals dvs ds)
    (hx : Passes CX X E) (ha : PA X (e :: es) t) (hdb : (x == ("__debug__" : Str)) = false := by decide) (he : starEach (e :: es) X.env = (false, eval e X.env) :: starEach es X.env := by rfl)
    (hpl : (backTo pos (starEach es X.env)).any (·.1) = false := by rfl) : PE X (.Call (.Name x p) (e :: es) [] pos) (tCall sp dvs E t) := by
  refine ⟨fun pins s σ H Q I h => wpAny_Call_Name_kw (ld_glob I gl hm ?_ hdb)⟩
  refine PySem.W.callWith_K (h₀ := X.base) I.ok.mod.kin hk (thn (ha.run pos pins s σ H _ I h) ?_) he hpl
  rintro us s1 ⟨vs, H1, I1, r, q⟩
  exact ⟨I1.kIn, runG F hg hr hb hd hx I1 r q⟩
end

/-! ### repr -/
def rRepr (K : PySem.W.Frag) : List V → Hp → VK → Prop := fun xs H Q => ∃ (x : V) (d : PyData), xs = [x] ∧ Dp K H x d ∧ d.canLay0 = true ∧ d.showable = true ∧ d.depth ≤ 40 ∧ d.shown.length ≤ sizeLine ∧ Q (.str d.shown) H
theorem call_reprG {X : Cx} {k : Nat} (hg : X.A.guards = some []) (hr : Room k X.A) : CallR X (.builtin "repr") (rRepr X.K) := by
  intro pins s σ H xs us Q I r h
  obtain ⟨x, d, rfl, hd, hc, hs, h40, hz, q⟩ := h
  obtain ⟨u, rfl, rx⟩ := vals1 r
  have un : X.A.units + 100 < cLine := by have := hr.un; omega
  obtain ⟨as, rd⟩ := Dp.reads I d x u hd rx
  have str : ∀ (y : Str) (h' : Heap) (tk tk' : Tok) (n : Nat), d.shown = y → (∀ b o, s.heap.get? b = some o → h'.get? b = some o) → EP X pins σ Q (.str y tk) { s with heap := h', toks := n } := by
    rintro _ h' tk tk' n rfl kk
    exact ⟨.str d.shown, H, I.kept kk, ⟨_, rfl⟩, q⟩
  cases rd with
  | none => exact PySem.P.repr_of_none (str _ _ _ 0 _ rfl fun _ _ z => z)
  | bool b => exact PySem.P.repr_of_bool (str _ _ _ 0 _ (by simp only [PyData.shown]) fun _ _ z => z)
  | int i t =>
    have hs2 : i.natAbs.log2 < 1920 := by simpa [PyData.showable] using hs
    exact PySem.P.repr_of_int hs2 (str _ _ _ 0 _ (by simp only [PyData.shown]) fun _ _ z => z)
  | str y t =>
    have hz2 : (reprText y).length ≤ sizeLine := by simpa only [PyData.shown] using hz
    exact PySem.P.repr_of_str (str _ _ _ 0 _ (by simp only [PyData.shown]) fun _ _ z => z) hz2
  | list h1 h2 h3 h4 => exact repr_of_reads' (.list h1 h2 h3 h4) hs (PyData.noDict_hsm (PyData.hasDict_of_canLay _ hc)) hg (by omega) (fun _ _ z => z) (fun h' u tk kk => str _ _ _ 0 _ rfl kk) hz
  | tuple h1 h2 h3 h4 => exact repr_of_reads' (.tuple h1 h2 h3 h4) hs (PyData.noDict_hsm (PyData.hasDict_of_canLay _ hc)) hg (by omega) (fun _ _ z => z) (fun h' u tk kk => str _ _ _ 0 _ rfl kk) hz
  | dict h1 h2 h3 h4 h5 => simp [PyData.canLay0] at hc
/-! ### the law's call -/
theorem lawG {P : Program} {w : World} {K : PySem.W.Frag} {mg mb : Str → Option Value} {CX : CXT} {k : Nat} {fa a : Addr} {fd : FuncData} {x : Str} {sp : Sp} {s₁ : Shared} {vs : List Value} {ns : List Int}
    (KX : K.In s₁.heap) (hM : s₁.heap.Ns mainGlobals mg) (hB : s₁.heap.Ns builtinsNs mb) (hbb : ∀ x : Str, x ≠ "__name__" → mb x = bootBuiltins x) (hlim : s₁.heap.NoLimit) (hg : s₁.gens = #[])
    (ha : s₁.heap.get? a = some { cls := .type "list", data := .seq vs.toArray }) (hi : IntsAre vs ns) (hl : ns.length ≤ sizeLine) (hr : Room k callerA)
    (F : ∀ base : Heap, K.In base → base.Ns mainGlobals mg → FnG P w K mg base CX k fa fd [x] sp) (hbind : ∀ (s : Shared) (u : Value), BindsTo s fd ⟨[u], []⟩ [(x, u)])
    (hsp : ∀ H : Hp, Only H → SqL K H a (ns.map V.int) → sp [.ref a] H (fun v _ => v = .bl true) fun _ _ _ => False)
    (hCX : ∀ H e s', CX [] H s₁ (fun _ _ _ => False) e s' → False) :
    codeAny (model P w) callerA (.call (.ref fa) ⟨[.ref a], []⟩) (fun r s' => r = .ok (.ret (.bool true)) ∧ OldK s₁.heap s'.heap ∧ s'.os = s₁.os ∧ AllBare s'.gens) s₁ := by
  -- the script's object, and what is tracked of it
  let sob : Obj := { cls := .type "list", data := .seq vs.toArray }
  have zs : (ns.map V.int).length ≤ sizeLine := by
    rw [List.length_map]
    exact hl
  have run : ∀ H : Hp, (∀ b u, H b = some u → b = a ∧ K.lookup a = none ∧ u = .frz sob (.lst (ns.map V.int))) → SqL K H a (ns.map V.int) →
      codeAny (model P w) callerA (.call (.ref fa) ⟨[.ref a], []⟩) (fun r s' => r = .ok (.ret (.bool true)) ∧ OldK s₁.heap s'.heap ∧ s'.os = s₁.os ∧ AllBare s'.gens) s₁ := by
    intro H hH hS
    have only : Only H := fun b => by
      cases q : H b with
      | none => exact .inl rfl
      | some u => exact .inr ⟨_, _, congrArg some (hH b u q).2.2⟩
    have ok : HOk P w H s₁.heap := fun b u q => by
      obtain ⟨rfl, _, rfl⟩ := hH b u q
      exact ⟨ha, zs, vs, _, vals_ints hi, ha⟩
    have dict : ∀ {b : Addr} {o : Obj} {es : Array DictEntry} {ep : Nat}, s₁.heap.get? b = some o → o.data = .dict es ep → H b = none := fun {b o es ep} e d => by
      cases q : H b with
      | none => rfl
      | some u =>
        obtain ⟨rfl, _⟩ := hH b u q
        rw [ha] at e
        cases e
        cases d
    have ns2 : ∀ {b : Addr} {m : Str → Option Value}, s₁.heap.Ns b m → (hidT s₁.heap H).Ns b m := by
      rintro b m ⟨o, es, ep, e, d, r⟩
      exact ⟨o, es, ep, hidT_get e (dict e d), d, r⟩
    have KB : K.In (hidT s₁.heap H) := fun b o e => by
      refine hidT_get (KX b o e) ?_
      cases q : H b with
      | none => rfl
      | some u =>
        obtain ⟨rfl, z, _⟩ := hH b u q
        rw [z] at e
        cases e
    obtain ⟨mc, l1, l2⟩ := hlim
    have M : Mod K mg (hidT s₁.heap H) := ⟨KB, ns2 hM, ⟨mb, ns2 hB, hbb⟩, mc, ns2 l1, l2⟩
    have G := F _ KB (ns2 hM)
    have e0 : Env0 P w K mg (hidT s₁.heap H) callerA [] s₁ H := ⟨rfl, M, fun _ _ e => of_hidT e, Nat.le_of_eq (hidT_size _ _), trivial, (fun b hb => nomatch hb), ok, .of_eq hg⟩
    refine codeAny_mono (G.goes callerA [] s₁ H _ [.ref a] [.ref a] _ _ rfl hr e0 (hbind s₁ _) (.cons rfl .nil) (hsp H only hS)) ?_
    rintro (e | fl) s' q
    · exact (hCX H e s' q).elim
    · cases fl with
      | next => exact q.elim
      | brk => exact q.elim
      | cont => exact q.elim
      | ret u =>
        obtain ⟨v, H', os, bare, un, ok', rv, rfl⟩ := q
        cases rv
        refine ⟨rfl, .of_keep fun b o e => ?_, os, bare⟩
        cases q : H b with
        | none => exact un.keep b o e q (fun z => nomatch z) (fun z => nomatch z)
        | some u =>
          obtain ⟨rfl, _, rfl⟩ := hH b u q
          rw [ha] at e
          cases e
          exact (ok' _ _ (un.frzs _ _ _ q)).1
  by_cases hk : K.lookup a = none
  · refine run (fun b => if b = a then some (.frz sob (.lst (ns.map V.int))) else none) (fun b u q => ?_) (.inl (.inr ⟨sob, if_pos rfl⟩))
    by_cases z : b = a
    · refine ⟨z, hk, ?_⟩
      rw [if_pos z] at q
      exact (Option.some.inj q).symm
    · rw [if_neg z] at q
      cases q
  · obtain ⟨o, ho⟩ := Option.ne_none_iff_exists'.mp hk
    have e := KX a o ho
    rw [ha] at e
    cases e
    refine run (fun _ => none) (fun b u q => nomatch q) (.inr ⟨_, vs.toArray, _, ho, rfl, rfl, rfl, ?_, vals_ints hi⟩)
    rw [List.size_toArray, hi.length]
    exact hl
/-- a law's goal, by such a promise -/
theorem walkG {l : PySem.W.OpenLaw} {k : Nat} {q : Program} {loose : List Str} {XP : (Str → Option Value) → Heap → Prop} {YP : World → Heap → Prop} {d : DefRec} {K : Params → PySem.W.Frag} {CX : CXT} {sp : PySem.W.Frag → Sp} {x : Str}
    (hn : l.most = some 63) (hdf : d.params.defaults = []) (hr : Room k callerA) (hY : ∀ (w : World) (h : Heap), YP w h → (K w.params).In h)
    (F : ∀ (w : World) (mg : Str → Option Value) (fa : Addr) (h : Heap), (K w.params).In h → h.Ns mainGlobals mg → mg d.name = some (.ref fa) →
      ∃ fd : FuncData, (∀ (s : Shared) (u : Value), BindsTo s fd ⟨[u], []⟩ [(x, u)]) ∧ ∀ base : Heap, (K w.params).In base → base.Ns mainGlobals mg → FnG l.prog w (K w.params) mg base CX k fa fd [x] (sp (K w.params)))
    (hsp : ∀ (K : PySem.W.Frag) (H : Hp) (a : Addr) (ns : List Int), ns.length ≤ 63 → SqL K H a (ns.map V.int) → sp K [.ref a] H (fun v _ => v = .bl true) fun _ _ _ => False)
    (hCX : ∀ (H : Hp) (s : Shared) (e : Value) (s' : Shared), CX [] H s (fun _ _ _ => False) e s' → False) : PySem.W.WalkO q loose XP YP l.row.toRowW d [] (fun f vs => PySem.call f vs) := by
  refine Att.attach_call hn hdf fun w s₀ s₁ mg mb fa o pm cd doc a vs ns G Y ho hd hcd hmg hobj hints hlen hg => ?_
  obtain ⟨fd, hb, hF⟩ := F w mg fa _ (hY w _ Y) G.T.g hmg
  have h24 : ns.length ≤ sizeLine := Nat.le_trans hlen (by decide)
  exact lawG (hY w _ Y) G.T.g G.T.b G.T.builtins G.T.nolimit hg hobj hints h24 hr hF hb (fun H _ hS => hsp _ H a ns hlen hS) fun H e s' => hCX H s₁ e s'
end HG

namespace HF
/-! figures of a number, the lowest first; the number of a list of rests, the foremost first -/
def low (p : Nat) : Nat → Nat → List Nat
  | 0, _ => []
  | f + 1, n => if n = 0 then [] else n % p :: low p f (n / p)
def L (p n : Nat) : List Nat := low p n n
/-- the figures of n, the foremost first -/
def figs (p n : Nat) : List Nat := (L p n).reverse
def num (p : Nat) (ds : List Nat) : Nat := ds.foldl (fun a d => a * p + d) 0
/-- of a list, the lowest first -/
def val (p : Nat) : List Nat → Nat
  | [] => 0
  | d :: r => d + p * val p r
theorem low_fuel {p : Nat} (hp : 2 ≤ p) : ∀ (f g n : Nat), n ≤ f → n ≤ g → low p f n = low p g n := by
  intro f
  induction f with
  | zero =>
    intro g n hf hg
    obtain rfl : n = 0 := by omega
    cases g <;> rfl
  | succ f ih =>
    intro g n hf hg
    cases g with
    | zero =>
      obtain rfl : n = 0 := by omega
      rfl
    | succ g =>
      unfold low
      by_cases h : n = 0
      · rw [if_pos h, if_pos h]
      · rw [if_neg h, if_neg h]
        have : n / p < n := Nat.div_lt_self (by omega) (by omega)
        rw [ih g (n / p) (by omega) (by omega)]
theorem L_zero (p : Nat) : L p 0 = [] := rfl
theorem L_pos {p n : Nat} (hp : 2 ≤ p) (hn : n ≠ 0) : L p n = n % p :: L p (n / p) := by
  obtain ⟨m, rfl⟩ : ∃ m, n = m + 1 := ⟨n - 1, by omega⟩
  unfold L
  show (if m + 1 = 0 then _ else _) = _
  rw [if_neg (by omega)]
  have : (m + 1) / p < m + 1 := Nat.div_lt_self (by omega) (by omega)
  rw [low_fuel hp m ((m + 1) / p) _ (by omega) (Nat.le_refl _)]
theorem L_ind {p : Nat} (hp : 2 ≤ p) {C : Nat → Prop} (h0 : C 0) (h1 : ∀ n, n ≠ 0 → C (n / p) → C n) (n : Nat) : C n := by
  induction n using Nat.strongRecOn with
  | _ n ih =>
    by_cases h : n = 0
    · subst h; exact h0
    · exact h1 n h (ih _ (Nat.div_lt_self (by omega) (by omega)))
theorem val_L {p : Nat} (hp : 2 ≤ p) (n : Nat) : val p (L p n) = n := by
  refine L_ind hp (C := fun n => val p (L p n) = n) rfl (fun n hn ih => ?_) n
  rw [L_pos hp hn]
  show n % p + p * val p (L p (n / p)) = n
  rw [ih]
  exact Nat.mod_add_div n p
theorem L_lt {p : Nat} (hp : 2 ≤ p) (n : Nat) : ∀ d ∈ L p n, d < p := by
  refine L_ind hp (C := fun n => ∀ d ∈ L p n, d < p) (by simp [L_zero]) (fun n hn ih d hd => ?_) n
  rw [L_pos hp hn] at hd
  rcases List.mem_cons.mp hd with rfl | hd
  · exact Nat.mod_lt _ (by omega)
  · exact ih d hd
/-- the last of L isn't 0 -/
theorem L_last {p : Nat} (hp : 2 ≤ p) (n : Nat) : ∀ d, (L p n).getLast? = some d → d ≠ 0 := by
  refine L_ind hp (C := fun n => ∀ d, (L p n).getLast? = some d → d ≠ 0) (by simp [L_zero]) (fun n hn ih d hd => ?_) n
  rw [L_pos hp hn] at hd
  by_cases z : n / p = 0
  · rw [z, L_zero] at hd
    simp at hd
    have : n % p = n := Nat.mod_eq_of_lt (by
      have := Nat.div_add_mod n p
      rw [z] at this
      have := Nat.mod_lt n (show 0 < p by omega)
      omega)
    omega
  · have e := L_pos hp z
    rw [e, List.getLast?_cons_cons] at hd
    rw [← e] at hd
    exact ih d hd
theorem L_len {p : Nat} (hp : 2 ≤ p) : ∀ (k n : Nat), n < p ^ k → (L p n).length ≤ k
  | 0, n, h => by
    obtain rfl : n = 0 := by simpa using h
    exact Nat.le_refl _
  | k + 1, n, h => by
    by_cases z : n = 0
    · subst z; exact Nat.zero_le _
    · rw [L_pos hp z, List.length_cons]
      have : n / p < p ^ k := by
        rw [Nat.div_lt_iff_lt_mul (by omega), ← Nat.pow_succ]
        exact h
      have := L_len hp k _ this
      omega
/-- a list of rests whose last isn't 0 is that of its number -/
theorem L_val {p : Nat} (hp : 2 ≤ p) : ∀ ds : List Nat, (∀ d ∈ ds, d < p) → (∀ d, ds.getLast? = some d → d ≠ 0) → L p (val p ds) = ds
  | [], _, _ => rfl
  | d :: r, h1, h2 => by
    have hd : d < p := h1 d List.mem_cons_self
    have ih := L_val hp r (fun x hx => h1 x (List.mem_cons_of_mem _ hx)) (fun x hx => by
      cases r with
      | nil => cases hx
      | cons y r => exact h2 x (by rw [List.getLast?_cons_cons]; exact hx))
    have em : (d + p * val p r) % p = d := by rw [Nat.add_mul_mod_self_left, Nat.mod_eq_of_lt hd]
    have ed : (d + p * val p r) / p = val p r := by rw [Nat.add_mul_div_left _ _ (by omega), Nat.div_eq_of_lt hd, Nat.zero_add]
    have nz : d + p * val p r ≠ 0 := by
      intro z
      have d0 : d = 0 := by omega
      have v0 : p * val p r = 0 := by omega
      have v1 : val p r = 0 := by
        rcases Nat.mul_eq_zero.mp v0 with q | q
        · omega
        · exact q
      rw [v1, L_zero] at ih
      subst ih
      exact h2 d rfl d0
    show L p (d + p * val p r) = d :: r
    rw [L_pos hp nz, em, ed, ih]
theorem num_app (p : Nat) (a b : List Nat) : num p (a ++ b) = b.foldl (fun x d => x * p + d) (num p a) := by
  unfold num
  rw [List.foldl_append]
theorem num_snoc (p : Nat) (a : List Nat) (d : Nat) : num p (a ++ [d]) = num p a * p + d := num_app p a [d]
theorem num_rev (p : Nat) : ∀ ds : List Nat, num p ds.reverse = val p ds
  | [] => rfl
  | d :: r => by
    rw [List.reverse_cons, num_snoc, num_rev p r, Nat.mul_comm, Nat.add_comm]
    rfl
theorem num_val (p : Nat) (ds : List Nat) : num p ds = val p ds.reverse := by
  rw [← num_rev, List.reverse_reverse]
theorem figs_zero (p : Nat) : figs p 0 = [] := rfl
theorem num_figs {p : Nat} (hp : 2 ≤ p) (n : Nat) : num p (figs p n) = n := by
  unfold figs
  rw [num_rev, val_L hp]
theorem figs_lt {p : Nat} (hp : 2 ≤ p) (n : Nat) : ∀ d ∈ figs p n, d < p := fun d hd => L_lt hp n d (List.mem_reverse.mp hd)
theorem figs_head {p : Nat} (hp : 2 ≤ p) (n : Nat) : ∀ d, (figs p n).head? = some d → d ≠ 0 := fun d hd => by
  unfold figs at hd
  rw [List.head?_reverse] at hd
  exact L_last hp n d hd
theorem figs_len {p : Nat} (hp : 2 ≤ p) {k n : Nat} (h : n < p ^ k) : (figs p n).length ≤ k := by
  unfold figs
  rw [List.length_reverse]
  exact L_len hp k n h
theorem figs_num {p : Nat} (hp : 2 ≤ p) {ds : List Nat} (h1 : ∀ d ∈ ds, d < p) (h2 : ∀ d, ds.head? = some d → d ≠ 0) : figs p (num p ds) = ds := by
  unfold figs
  rw [num_val, L_val hp _ (fun d hd => h1 d (List.mem_reverse.mp hd)) (fun d hd => h2 d (by rw [← List.getLast?_reverse]; exact hd)), List.reverse_reverse]
theorem num_zeros (p : Nat) : ∀ (k : Nat) (ds : List Nat), num p (List.replicate k 0 ++ ds) = num p ds
  | 0, _ => rfl
  | k + 1, ds => by
    rw [List.replicate_succ, List.cons_append]
    have e : num p (0 :: (List.replicate k 0 ++ ds)) = num p (List.replicate k 0 ++ ds) := by
      unfold num
      rw [List.foldl_cons]
      congr 1
      simp
    rw [e, num_zeros p k ds]
/-- the noughts ahead -/
def lead : List Nat → Nat
  | 0 :: r => lead r + 1
  | _ => 0
theorem lead_le : ∀ ds : List Nat, lead ds ≤ ds.length
  | [] => Nat.le_refl _
  | 0 :: r => by
    have := lead_le r
    show lead r + 1 ≤ r.length + 1
    omega
  | (_ + 1) :: _ => Nat.zero_le _
theorem lead_zero : ∀ (ds : List Nat) (i : Nat), i < lead ds → ds[i]? = some 0
  | [], _, h => absurd h (Nat.not_lt_zero _)
  | 0 :: r, 0, _ => rfl
  | 0 :: r, i + 1, h => by
    have h : i + 1 < lead r + 1 := h
    exact lead_zero r i (by omega)
  | (_ + 1) :: _, _, h => absurd h (Nat.not_lt_zero _)
theorem lead_stop : ∀ (ds : List Nat) (d : Nat), ds[lead ds]? = some d → d ≠ 0
  | [], _, h => by cases h
  | 0 :: r, d, h => lead_stop r d (by simpa [lead] using h)
  | (x + 1) :: r, d, h => by
    have h : some (x + 1) = some d := h
    have := Option.some.inj h
    omega
theorem lead_split : ∀ ds : List Nat, ds = List.replicate (lead ds) 0 ++ ds.drop (lead ds)
  | [] => rfl
  | 0 :: r => by
    show 0 :: r = List.replicate (lead r + 1) 0 ++ r.drop (lead r)
    rw [List.replicate_succ, List.cons_append]
    exact congrArg (0 :: ·) (lead_split r)
  | (_ + 1) :: _ => rfl
theorem figs_lead {p : Nat} (hp : 2 ≤ p) {ds : List Nat} (h1 : ∀ d ∈ ds, d < p) : figs p (num p ds) = ds.drop (lead ds) := by
  have e : num p ds = num p (ds.drop (lead ds)) := by
    have := congrArg (num p) (lead_split ds)
    rw [num_zeros] at this
    exact this
  rw [e]
  refine figs_num hp (fun d hd => h1 d (List.mem_of_mem_drop hd)) (fun d hd => lead_stop ds d ?_)
  rw [List.head?_drop] at hd
  exact hd
/-- the law's own sum -/
theorem val_app (p : Nat) : ∀ (a b : List Nat), val p (a ++ b) = val p a + p ^ a.length * val p b
  | [], b => by simp [val]
  | d :: r, b => by
    show d + p * val p (r ++ b) = d + p * val p r + p ^ (r.length + 1) * val p b
    rw [val_app p r b, Nat.mul_add, Nat.pow_succ, Nat.mul_comm (p ^ r.length) p, Nat.mul_assoc, Nat.add_assoc]
theorem val_lt {p : Nat} : ∀ ds : List Nat, (∀ d ∈ ds, d < p) → val p ds < p ^ ds.length
  | [], _ => by simp [val]
  | d :: r, h => by
    have hd : d < p := h d List.mem_cons_self
    have ih := val_lt r (fun x hx => h x (List.mem_cons_of_mem _ hx))
    show d + p * val p r < p ^ (r.length + 1)
    rw [Nat.pow_succ, Nat.mul_comm (p ^ r.length) p]
    have : p * (val p r + 1) ≤ p * p ^ r.length := Nat.mul_le_mul_left p ih
    rw [Nat.mul_add] at this
    omega
theorem num_lt {p : Nat} {ds : List Nat} (h : ∀ d ∈ ds, d < p) : num p ds < p ^ ds.length := by
  rw [num_val]
  have := val_lt ds.reverse (fun d hd => h d (List.mem_reverse.mp hd))
  rwa [List.length_reverse] at this
end HF

namespace HG
open PySem PySem.Spec PyProof.Rows L2 HF
def nV (d : Nat) : V := V.int (d : Int)
def nD (d : Nat) : PyData := .int (d : Int)
/-- data that can be compared and shown -/
structure Fine (d : PyData) : Prop where
  lay : d.canLay0 = true
  show_ : d.showable = true
  deep : d.depth ≤ 40
  size : d.shown.length ≤ sizeLine
theorem Fine.shaped {d : PyData} (f : Fine d) : SeqAt.shaped d = true := by
  show (d.canLay0 && decide (d.depth ≤ 64)) = true
  rw [f.lay, decide_eq_true (by have := f.deep; omega)]
  rfl
theorem fine_int {i : Int} (h : i.natAbs < 2 ^ 1000) : Fine (.int i) := by
  have hz : i.natAbs.log2 < 1920 := by
    have := PySem.Flt.log2_lt_of (by decide : 0 < 1000) h
    omega
  refine ⟨rfl, ?_, by show 0 ≤ 40; decide, ?_⟩
  · simpa [PyData.showable] using hz
  · simp only [PyData.shown]
    exact int_text_fits hz
theorem fine_list {ds : List PyData} (h : ∀ d ∈ ds, d.canLay0 = true ∧ d.showable = true ∧ d.depth ≤ 10 ∧ d.shown.length ≤ 1000) (hl : ds.length ≤ 1000) : Fine (.list ds) := by
  have key : PyData.canLayAll0 ds = true ∧ PyData.showableAll ds = true ∧ PyData.depthAll ds ≤ 10 ∧ ((PyData.shownAll ds).map (·.length)).sum ≤ 1000 * ds.length ∧ (PyData.shownAll ds).length = ds.length := by
    clear hl
    induction ds with
    | nil => exact ⟨rfl, rfl, by show 0 ≤ 10; decide, Nat.le_refl _, rfl⟩
    | cons d ds ih =>
      obtain ⟨i1, i2, i3, i4, i5⟩ := ih fun d' hd => h d' (List.mem_cons_of_mem _ hd)
      obtain ⟨j1, j2, j3, j4⟩ := h d List.mem_cons_self
      refine ⟨?_, ?_, ?_, ?_, ?_⟩
      · show (PyData.canLay0 d && PyData.canLayAll0 ds) = true
        rw [j1, i1]; rfl
      · show (PyData.showable d && PyData.showableAll ds) = true
        rw [j2, i2]; rfl
      · show max (PyData.depth d) (PyData.depthAll ds) ≤ 10
        omega
      · show ((PyData.shown d :: PyData.shownAll ds).map (·.length)).sum ≤ 1000 * (ds.length + 1)
        rw [List.map_cons, List.sum_cons]
        omega
      · show (PyData.shownAll ds).length + 1 = ds.length + 1
        rw [i5]
  obtain ⟨k1, k2, k3, k4, k5⟩ := key
  refine ⟨k1, k2, by show PyData.depthAll ds + 1 ≤ 40; omega, ?_⟩
  simp only [PyData.shown]
  have := listText_len_le (PyData.shownAll ds)
  rw [k5] at this
  have hm : 1000 * ds.length ≤ 1000 * 1000 := Nat.mul_le_mul_left _ hl
  have hz : 1000 * 1000 + 2 * 1000 + 3 ≤ sizeLine := by decide
  omega
theorem fine_nats {ds : List Nat} (h : ∀ d ∈ ds, d < 10 ^ 12) (hl : ds.length ≤ 1000) : Fine (.list (ds.map nD)) := by
  refine fine_list (fun d hd => ?_) (by rw [List.length_map]; exact hl)
  obtain ⟨n, hn, rfl⟩ := List.mem_map.mp hd
  have hn := h n hn
  have f : Fine (nD n) := fine_int (by
    have : (10 : Nat) ^ 12 < 2 ^ 1000 := by decide +kernel
    show ((n : Int)).natAbs < 2 ^ 1000
    omega)
  refine ⟨f.lay, f.show_, by show 0 ≤ 10; decide, ?_⟩
  have := PyData.shown_int_le (i := (n : Int)) (by omega)
  show (PyData.shown (.int (n : Int))).length ≤ 1000
  omega
theorem dpAll_nats {K : PySem.W.Frag} {H : Hp} : ∀ ns : List Nat, DpAll K H (ns.map nV) (ns.map nD)
  | [] => .nil
  | n :: ns => .cons (.int (n : Int)) (dpAll_nats ns)
def spFigs : Sp := fun vs H Q _ => ∃ (n p : Nat), vs = [.int (n : Int), .int (p : Int)] ∧ n < 2 ^ 1000 ∧ 2 ≤ p ∧ p ≤ 4 ∧ ∀ (q : Addr) (H' : Hp), Same H H' → H q = none → H' q = some (.lst ((figs p n).map nV)) → Q (.ref q) H'
def spNum (K : PySem.W.Frag) : Sp := fun vs H Q _ => ∃ (a : Addr) (p : Nat) (ds : List Nat), vs = [.ref a, .int (p : Int)] ∧ SqL K H a (ds.map nV) ∧ p ≤ 4 ∧ Q (.int ((num p ds : Nat) : Int)) H
def spSummed (K : PySem.W.Frag) : Sp := fun vs H Q _ => ∃ (a : Addr) (p : Nat) (ds : List Nat), vs = [.ref a, .int (p : Int)] ∧ SqL K H a (ds.map nV) ∧ p ≤ 4 ∧ (∀ d ∈ ds, d < 1000) ∧ ∀ H', Same H H' → Q (.int ((num p ds : Nat) : Int)) H'
def spRight (K : PySem.W.Frag) : Sp := fun vs H Q _ => ∃ (a : Addr) (n p : Nat), vs = [.ref a, .int (n : Int), .int (p : Int)] ∧ H a = some (.lst ((figs p n).map nV)) ∧ 2 ≤ p ∧ p ≤ 4 ∧ (figs p n).length ≤ 1000 ∧ ∀ H', Same H H' → Q (.bl true) H'
def spAlike (K : PySem.W.Frag) : Sp := fun vs H Q _ => ∃ (x y : V) (d : PyData), vs = [x, y] ∧ Dp K H x d ∧ Dp K H y d ∧ Fine d ∧ Q (.bl true) H
end HG

namespace HF
theorem num_cons (p d : Nat) (r : List Nat) : num p (d :: r) = d * p ^ r.length + num p r := by
  have h := num_val p (d :: r)
  rw [List.reverse_cons, val_app, List.length_reverse, ← num_val] at h
  rw [h]
  show num p r + p ^ r.length * (d + p * 0) = _
  rw [Nat.mul_zero, Nat.add_zero, Nat.mul_comm, Nat.add_comm]
def lexN : List Nat → List Nat → Bool
  | [], [] => false
  | [], _ :: _ => true
  | _ :: _, [] => false
  | x :: xs, y :: ys => if x = y then lexN xs ys else decide (x < y)
theorem lexN_num {p : Nat} : ∀ (xs ys : List Nat), xs.length = ys.length → (∀ d ∈ xs, d < p) → (∀ d ∈ ys, d < p) → lexN xs ys = decide (num p xs < num p ys)
  | [], [], _, _, _ => by simp [lexN]
  | [], _ :: _, h, _, _ => by simp at h
  | _ :: _, [], h, _, _ => by simp at h
  | x :: xs, y :: ys, h, hx, hy => by
    have hl : xs.length = ys.length := by simpa using h
    have hx' : ∀ d ∈ xs, d < p := fun d hd => hx d (List.mem_cons_of_mem _ hd)
    have hy' : ∀ d ∈ ys, d < p := fun d hd => hy d (List.mem_cons_of_mem _ hd)
    have bx := num_lt hx'
    have by' := num_lt hy'
    rw [num_cons, num_cons, hl]
    rw [hl] at bx
    show (if x = y then lexN xs ys else decide (x < y)) = _
    by_cases e : x = y
    · subst e
      rw [if_pos rfl, lexN_num xs ys hl hx' hy']
      by_cases c : num p xs < num p ys
      · rw [decide_eq_true c, decide_eq_true (by omega)]
      · rw [decide_eq_false c, decide_eq_false (by omega)]
    · rw [if_neg e]
      generalize p ^ ys.length = P at *
      by_cases c : x < y
      · rw [decide_eq_true c]
        have : (x + 1) * P ≤ y * P := Nat.mul_le_mul_right P c
        rw [Nat.succ_mul] at this
        rw [decide_eq_true (by omega)]
      · rw [decide_eq_false c]
        have : (y + 1) * P ≤ x * P := Nat.mul_le_mul_right P (by omega)
        rw [Nat.succ_mul] at this
        rw [decide_eq_false (by omega)]
theorem figs_low {p : Nat} (hp : 2 ≤ p) {n : Nat} {d : Nat} {r : List Nat} (e : figs p n = d :: r) : p ^ r.length ≤ n := by
  have h0 := figs_head hp n d (by rw [e]; rfl)
  have h1 := num_figs hp n
  rw [e, num_cons] at h1
  have : 1 * p ^ r.length ≤ d * p ^ r.length := Nat.mul_le_mul_right _ (by omega)
  omega
theorem figs_up {p : Nat} (hp : 2 ≤ p) (n : Nat) : n < p ^ (figs p n).length := by
  have := num_lt (figs_lt hp n)
  rwa [num_figs hp] at this
theorem figs_ord {p : Nat} (hp : 2 ≤ p) (a b : Nat) : decide (a < b) = if (figs p a).length = (figs p b).length then lexN (figs p a) (figs p b) else decide ((figs p a).length < (figs p b).length) := by
  have key : ∀ a b, (figs p a).length < (figs p b).length → a < b := by
    intro a b h
    cases e : figs p b with
    | nil => rw [e] at h; cases h
    | cons d r =>
      have h1 := figs_low hp e
      have h2 := figs_up hp a
      rw [e, List.length_cons] at h
      have h3 : p ^ (figs p a).length ≤ p ^ r.length := Nat.pow_le_pow_right (by omega) (by omega)
      omega
  by_cases e : (figs p a).length = (figs p b).length
  · rw [if_pos e, lexN_num _ _ e (figs_lt hp a) (figs_lt hp b), num_figs hp, num_figs hp]
  · rw [if_neg e]
    by_cases c : (figs p a).length < (figs p b).length
    · rw [decide_eq_true c, decide_eq_true (key a b c)]
    · rw [decide_eq_false c, decide_eq_false]
      have := key b a (by omega)
      omega
/-- figures put together -/
theorem figs_glue {p : Nat} (hp : 2 ≤ p) {one m other : Nat} (h1 : one ≠ 0) (h2 : other < p ^ m) : figs p one ++ List.replicate (m - (figs p other).length) 0 ++ figs p other = figs p (one * p ^ m + other) ∧ num p (figs p one ++ List.replicate (m - (figs p other).length) 0 ++ figs p other) = one * p ^ m + other := by
  have hl : (figs p other).length ≤ m := figs_len hp h2
  have hn : num p (figs p one ++ List.replicate (m - (figs p other).length) 0 ++ figs p other) = one * p ^ m + other := by
    rw [List.append_assoc, num_app, num_figs hp]
    have gen : ∀ (l : List Nat) (x : Nat), l.foldl (fun x d => x * p + d) x = x * p ^ l.length + num p l := by
      intro l
      induction l with
      | nil => intro x; simp [num]
      | cons d r ih =>
        intro x
        rw [List.foldl_cons, ih, num_cons, List.length_cons, Nat.add_mul, Nat.pow_succ, Nat.mul_comm (p ^ r.length) p, Nat.mul_assoc, Nat.add_assoc]
    rw [gen, num_zeros, num_figs hp, List.length_append, List.length_replicate, Nat.sub_add_cancel hl]
  refine ⟨?_, hn⟩
  rw [← hn, figs_num hp]
  · intro d hd
    rcases List.mem_append.mp hd with hd | hd
    · rcases List.mem_append.mp hd with hd | hd
      · exact figs_lt hp one d hd
      · have := List.eq_of_mem_replicate hd
        omega
    · exact figs_lt hp other d hd
  · intro d hd
    refine figs_head hp one d ?_
    cases e : figs p one with
    | nil =>
      have := num_figs hp one
      rw [e] at this
      exact absurd this.symm h1
    | cons x r =>
      rw [e] at hd
      exact hd
theorem num_glue0 {p : Nat} (hp : 2 ≤ p) {m other : Nat} : num p (figs p 0 ++ List.replicate (m - (figs p other).length) 0 ++ figs p other) = other := by
  show num p (List.replicate (m - (figs p other).length) 0 ++ figs p other) = other
  rw [num_zeros, num_figs hp]
theorem figs_step {p : Nat} (hp : 2 ≤ p) {n : Nat} (h : n ≠ 0) : figs p (n / p) ++ [n % p] = figs p n := by
  show (L p (n / p)).reverse ++ [n % p] = (L p n).reverse
  rw [L_pos hp h, List.reverse_cons]
end HF

namespace HG
open PySem PySem.Spec PyProof.Rows L2 HF
/-- < of data of one Lean type -/
def rLtDat (α : Type) [DecidableEq α] [PySem.W.DatumOrd α] (K : PySem.W.Frag) : R2 := fun x y H Q => ∃ a b : α, Dp K H x (PySem.W.Datum.toD a) ∧ Dp K H y (PySem.W.Datum.toD b) ∧ Q (.bl (PySem.W.DatumOrd.lt a b)) H
theorem op_ltDat {X : Cx} {k : Nat} (α : Type) [DecidableEq α] [PySem.W.DatumOrd α] (hr : Room k X.A) (hd : PySem.W.Datum.depth α ≤ 40) : OpR X (compareOp .Lt) (rLtDat α X.K) := by
  intro pins s σ H x y v u Q I rx ry h
  obtain ⟨a, b, ha, hb, q⟩ := h
  have un := hr.un
  exact PySem.W.lt_datum (Dp.reads I _ x v ha rx) (Dp.reads I _ y u hb ry) (by omega) ⟨.bl _, H, I, rfl, q⟩
theorem lexN_eq : ∀ xs ys : List Nat, PySem.W.listLt (xs.map fun n : Nat => (n : Int)) (ys.map fun n : Nat => (n : Int)) = lexN xs ys
  | [], [] => rfl
  | [], _ :: _ => rfl
  | _ :: _, [] => rfl
  | x :: xs, y :: ys => by
    show (if (x : Int) = (y : Int) then PySem.W.listLt _ _ else decide ((x : Int) < (y : Int))) = (if x = y then lexN xs ys else decide (x < y))
    by_cases e : x = y
    · subst e
      rw [if_pos rfl, if_pos rfl]
      exact lexN_eq xs ys
    · rw [if_neg e, if_neg (fun z => e (by omega))]
      by_cases c : x < y
      · rw [decide_eq_true c, decide_eq_true (by omega)]
      · rw [decide_eq_false c, decide_eq_false (by omega)]
/-- what a number's figures hold as data: how many, and they -/
def lenFigs (p n : Nat) : Int × List Int := (((figs p n).length : Int), (figs p n).map fun d : Nat => (d : Int))
theorem toD_figs (p n : Nat) : PySem.W.Datum.toD (lenFigs p n) = .tuple [.int ((figs p n).length : Int), .list ((figs p n).map nD)] := by
  show PyData.tuple [.int _, .list (((figs p n).map fun d : Nat => (d : Int)).map PyData.int)] = _
  rw [List.map_map]
  rfl
theorem lt_figs {p : Nat} (hp : 2 ≤ p) (a b : Nat) : PySem.W.DatumOrd.lt (lenFigs p a) (lenFigs p b) = decide (a < b) := by
  rw [figs_ord hp a b, ← lexN_eq]
  show (if ((figs p a).length : Int) = ((figs p b).length : Int) then PySem.W.listLt _ _ else decide (((figs p a).length : Int) < ((figs p b).length : Int))) = _
  by_cases e : (figs p a).length = (figs p b).length
  · rw [if_pos e, if_pos (by omega)]
    rfl
  · rw [if_neg e, if_neg (by omega)]
    by_cases c : (figs p a).length < (figs p b).length
    · rw [decide_eq_true c, decide_eq_true (by omega)]
    · rw [decide_eq_false c, decide_eq_false (by omega)]
end HG

namespace P13
open PySem PySem.Spec PyProof.Rows L2 HG
def topS (i : Nat) : Stmt := PySem.Challenge.pw_halfpace_k13_figures_put_together.main.body.getD i (.Pass ⟨0, 0, 0, 0⟩)
abbrev sFigs : Stmt := topS 1
abbrev sNum : Stmt := topS 2
abbrev sBag : Stmt := topS 4
abbrev sTake : Stmt := topS 5
abbrev sAlike : Stmt := topS 6
abbrev sSize : Stmt := topS 7
abbrev sLaw : Stmt := topS 8
section
variable {P : Program} {w : World} {K : PySem.W.Frag} {mg : Str → Option Value} {base : Heap}
theorem scBag : FnScope ["script", "cell"] ["script"] (defScope sBag) := ⟨rfl, rfl, rfl, by decide +kernel, rfl, by decide +kernel, by decide +kernel⟩
theorem ok_bag {f : Addr} {fd : FuncData} {k : Nat} (F : Fun K "_law_bag" "_law_bag" sBag f fd) (ma : mg "abs" = none) : FnOk P w K mg base CX0 (k + 1) f fd ["script"] (spBag K) := by
  refine F.ok scBag (fun vs H Q E h => ?_) (fun cdv A outer s H vs Q E hr h => ?_)
  · obtain ⟨a, ns, rfl, _⟩ := h
    rfl
  · obtain ⟨a, ns, rfl, hS, hl, k⟩ := h
    refine ⟨_, pss_one (ps_ret (pe_lst (pa_cons pe_int (pa_cons pe_int (pa_cons pe_int (pa_cons
      (pe_lc (own := [("cell", 1)]) (g := gName 1) (tt := tYes) rfl scBag.nd (pi_list (pe_slice sl_list (pv 0) po_none (po_some pe_int))) (blkOk_by (N := ["script", "cell"]) (sc := defScope sBag) (by decide +kernel))
        (fun _ _ _ _ _ => pg_name (i := 1) scBag.nd rfl (Or.inl rfl)) (fun _ _ _ _ _ => pts_nil)
        (fun _ _ _ _ _ => pe_callB call_abs (by rfl) ma (by decide +kernel) (pa_cons (pv 1) pa_nil))) pa_nil)))))), ?_⟩
    refine ⟨.ref a, rfl, 63, rfl, a, ns.map V.int, rfl, hS, fun c nc => ?_⟩
    have hcut : cutV (ns.map V.int) none (some 63) = ns.map V.int := by
      unfold cutV
      rw [HT.sIx_none, List.drop_zero, show HT.sIx (ns.map V.int).length (ns.map V.int).length (some 63) = min 63 (ns.map V.int).length from HT.sIx_nat _ _ 63, List.length_map]
      apply List.take_of_length_le
      rw [List.length_map]
      omega
    rw [hcut]
    have s1 : Same H (upd H c (.lst (ns.map V.int))) := same_upd nc
    refine ⟨c, rfl, ⟨_, .of upd_same⟩, fun D hD => ?_⟩
    have ncD : c ≠ D := fun e => by rw [← e, upd_same] at hD; cases hD
    refine lc_list (K := K) (a := c) (xs := ns.map V.int) (fun i H' => ∃ ms : List Int, Same H H' ∧ H' c = some (.lst (ns.map V.int)) ∧ H' D = some (.lst (ms.map V.int)) ∧ ms.length = i ∧ D ≠ c) ?_ ?_ ?_ ?_
    · refine ⟨[], ?_, ?_, upd_same, rfl, ncD.symm⟩
      · exact s1.trans (same_upd hD)
      · rw [upd_ne ncD, upd_same]
    · rintro i H' hi ⟨ms, q1, q2, q3, q4, q5⟩
      exact .of q2
    · rintro i x H' hi ⟨ms, q1, q2, q3, q4, q5⟩
      obtain ⟨z, rfl⟩ : ∃ z, x = V.int z := by
        rw [List.getElem?_map] at hi
        cases e : ns[i]? with
        | none => rw [e] at hi; cases hi
        | some z => rw [e] at hi; exact ⟨z, (Option.some.inj hi).symm⟩
      have hil : i < (ns.map V.int).length := (List.getElem?_eq_some_iff.mp hi).1
      rw [List.length_map] at hil
      have hD' : H D = none := by
        have : (upd H c (.lst (ns.map V.int))) D = H D := upd_ne ncD.symm
        rw [← this]; exact hD
      refine ⟨rfl, .int z, rfl, _, rfl, ms.map V.int, q3, ?_, ms ++ [if z < 0 then -z else z], fun b o e => ?_, ?_, ?_, ?_, q5⟩
      · rw [List.length_map]; exact small1000 (by omega)
      · rw [upd_ne (ne_of_none e hD')]
        exact q1 b o e
      · rw [upd_ne ncD]; exact q2
      · rw [upd_same, List.map_append]; rfl
      · rw [List.length_append]; simp [q4]
    · rintro H' ⟨ms, q1, q2, q3, q4, q5⟩
      refine ⟨by show 4 ≤ sizeLine; decide, fun p hp => ?_⟩
      have hpn : H p = none := q1.free hp
      have nDp : D ≠ p := ne_of_none q3 hp
      exact k p _ (q1.trans (same_upd hp)) hpn ⟨D, 0, 1234567891, 0, ms, upd_same, by rw [upd_ne nDp]; exact q3, by decide⟩
theorem scTake : FnScope ["bag", "many", "cell", "value", "first", "second"] ["bag", "many"] (defScope sTake) := ⟨rfl, rfl, rfl, by decide +kernel, rfl, by decide +kernel, by decide +kernel⟩
theorem ok_take2 {f : Addr} {fd : FuncData} {k : Nat} (F : Fun K "_law_take" "_law_take" sTake f fd) (ml : mg "len" = none) : FnOk P w K mg base CX0 (k + 1) f fd ["bag", "many"] spTake2 := by
  refine F.ok scTake (fun vs H Q E h => ?_) (fun cdv A outer s H vs Q E hr h => ?_)
  · obtain ⟨p, m, rfl, _⟩ := h
    rfl
  · obtain ⟨p, m, rfl, ⟨c, b0, b1, b2, cs, hb, hc, h2⟩, hm, hm2, k⟩ := h
    have ncp : c ≠ p := bag_ne hb hc
    refine ⟨_, Evl.pss_cut (ps_if (pt_cmpR op_eq (pe_ix ix_list (pv 0) pe_int (fun _ _ => rfl)) pe_int (nomark _))
        (pss_cons (ps_set (i := 2) scTake.nd rfl (.inl rfl) pe_int)
        (Evl.pss_cut (ps_if (pt_cmpR op_lt (pe_ix ix_list (pv 0) pe_int (fun _ _ => rfl)) (pe_callB call_len_seq (by rfl) ml PySem.boot_len (pa_cons (pe_ix ix_list (pv 0) pe_int (fun _ _ => rfl)) pa_nil)) (nomark _))
            (pss_one (ps_set (i := 2) scTake.nd rfl (.inl rfl) (pe_ix ix_list (pe_ix ix_list (pv 0) pe_int (fun _ _ => rfl)) (pe_ix ix_list (pv 0) pe_int (fun _ _ => rfl)) (fun _ _ => rfl)))) pss_nil)
        (pss_cons (ps_augS (pv 0) pe_int get_list pe_int ip_add set_list)
        (Evl.pss_cut (ps_if (pt_cmpR op_ge (pv 2) pe_int (nomark _)) (pss_one (ps_asg (pv 2) (pg_sub (pv 0) pe_int set_list))) pss_nil)
        (pss_one (ps_asg (pe_op op_mod (pe_op op_add (pe_op op_add (pe_op op_mul (pe_ix ix_list (pv 0) pe_int (fun _ _ => rfl)) pe_int) (pe_op op_mod (pv 2) pe_int)) (pe_op op_mul pe_int (pe_ix ix_list (pv 0) pe_int (fun _ _ => rfl)))) pe_int) (pg_sub (pv 0) pe_int set_list))))))) pss_nil)
      (pss_cons (ps_if (pt_cmpR op_gt (pe_ix ix_list (pv 0) pe_int (fun _ _ => rfl)) pe_int (nomark _))
        (pss_cons (ps_set (i := 3) scTake.nd rfl (.inl rfl) (pe_op op_mod (pe_ix ix_list (pv 0) pe_int (fun _ _ => rfl)) (pv 1)))
        (pss_cons (ps_asg (pe_op op_fdivW (pe_ix ix_list (pv 0) pe_int (fun _ _ => rfl)) (pv 1)) (pg_sub (pv 0) pe_int set_list))
        (pss_one (ps_ret (pv 3))))) pss_nil)
      (pss_cons (ps_set (i := 4) scTake.nd rfl (.inl rfl) (pe_op op_mod (pe_op op_mul (pe_op op_add (pe_ix ix_list (pv 0) pe_int (fun _ _ => rfl)) pe_int) pe_int) pe_int))
      (pss_cons (ps_set (i := 5) scTake.nd rfl (.inl rfl) (pe_op op_mod (pe_op op_mul (pe_op op_mod (pe_op op_mul (pv 4) (pv 4)) pe_int) pe_int) pe_int))
      (pss_cons (ps_if (pt_cmpR op_gt (pv 1) pe_int (nomark _)) (pss_one (ps_ret (pe_op op_mod (pe_op op_add (pe_op op_mul (pv 5) pe_int) (pv 4)) (pv 1)))) pss_nil)
      (pss_one (ps_ret (pe_op op_mod (pe_op op_fdiv (pv 5) pe_int) (pv 1)))))))), ?_⟩
    refine ⟨fun σ H' => ∃ (o2 : Option V) (b0 b1 b2 : Int), σ = [some (.ref p), some (.int m), o2, none, none, none] ∧ H' = upd H p (bagL b0 b1 b2 c) ∧ 0 ≤ b2, ?_, ?_⟩
    · refine ⟨_, rfl, p, _, 0, .int b0, rfl, rfl, .of hb, rfl, rfl, _, rfl, ite2 (fun _ => ?_) (fun _ => ?_)⟩
      · -- cell = 0
        refine ⟨fun σ H' => H' = H ∧ ∃ z, σ = [some (.ref p), some (.int m), some (.int z), none, none, none], ?_, ?_⟩
        · refine ⟨_, rfl, p, _, 2, .int b2, rfl, rfl, .of hb, rfl, _, rfl, p, _, 3, .ref c, rfl, rfl, .of hb, rfl, c, cs.map V.int, rfl, .inl (.of hc), _, _, rfl, rfl, _, rfl, ite2 (fun hlt => ?_) (fun _ => ?_)⟩
          · have hlt := of_decide_eq_true hlt
            have hj : b2.toNat < cs.length := by rw [List.length_map] at hlt; omega
            refine ⟨_, rfl, p, _, 3, .ref c, rfl, rfl, .of hb, rfl, _, rfl, p, _, 2, .int b2, rfl, rfl, .of hb, rfl, c, cs.map V.int, b2, .int cs[b2.toNat], rfl, rfl, .of hc, ?_, rfl, _, rfl⟩
            apply atI_int h2
            rw [List.getElem?_map, List.getElem?_eq_getElem (by simpa using hj)]
            rfl
          · exact ⟨rfl, 0, rfl⟩
        · rintro σ H1 ⟨rfl, z, rfl⟩
          refine ⟨_, rfl, p, _, 2, .int b2, rfl, rfl, .of hb, by decide, rfl, _, _, rfl, rfl, p, _, 2, 2, rfl, rfl, hb, rfl, ?_⟩
          have e1 : upd H1 p (HO.lst ([V.int b0, V.int b1, V.int b2, V.ref c].set 2 (V.int (b2 + 1)))) = upd H1 p (bagL b0 b1 (b2 + 1) c) := rfl
          refine ⟨fun σ H2 => ∃ b0, H2 = upd H1 p (bagL b0 b1 (b2 + 1) c) ∧ σ = [some (.ref p), some (.int m), some (.int z), none, none, none], ?_, ?_⟩
          · refine ⟨_, rfl, _, _, rfl, rfl, _, rfl, ite2 (fun _ => ?_) (fun _ => ?_)⟩
            · refine ⟨_, rfl, _, rfl, p, _, 0, 0, rfl, rfl, upd_same, rfl, z, ?_, rfl⟩
              rw [upd_upd]
              rfl
            · exact ⟨b0, rfl, rfl⟩
          · rintro σ _ ⟨b0', rfl, rfl⟩
            refine ⟨_, rfl, p, _, 1, .int b1, rfl, rfl, .of upd_same, rfl, _, _, rfl, rfl, .inr ⟨by decide, by decide⟩, _, rfl, _, _, rfl, rfl, (by show (0 : Int) < 2147483647; decide), _, _, rfl, rfl, _, rfl, p, _, 2, .int (b2 + 1), rfl, rfl, .of upd_same, rfl, _, _, rfl, rfl, .inl ⟨by decide, by decide⟩, _, _, rfl, rfl, _, _, rfl, rfl, (by show (0 : Int) < 2147483647; decide), _, rfl, p, _, 1, 1, rfl, rfl, upd_same, rfl, _, b0', _, b2 + 1, rfl, upd_upd, by omega⟩
      · exact ⟨none, b0, b1, b2, rfl, (upd_self hb).symm, h2⟩
    · rintro σ _ ⟨o2, d0, d1, d2, rfl, rfl, hd⟩
      have hB : ∀ x y z : Int, 0 ≤ z → Bag (upd H p (bagL x y z c)) p := fun x y z hz => ⟨c, x, y, z, cs, upd_same, by rw [upd_ne ncp]; exact hc, hz⟩
      refine ⟨_, rfl, p, _, 0, .int d0, rfl, rfl, .of upd_same, rfl, _, _, rfl, rfl, _, rfl, ite2 (fun hpos => ?_) (fun _ => ?_)⟩
      · refine ⟨_, rfl, p, _, 0, .int d0, rfl, rfl, .of upd_same, rfl, _, rfl, _, _, rfl, rfl, hm, ?_⟩
        refine ⟨_, rfl, p, _, 0, .int d0, rfl, rfl, .of upd_same, rfl, _, rfl, _, _, rfl, rfl, wide_div hm hm2 (by decide) (by decide), _, rfl, p, _, 0, 0, rfl, rfl, upd_same, rfl, _, rfl, ?_⟩
        rw [upd_upd]
        exact k _ _ (Int.emod_nonneg _ (by omega)) (Int.emod_lt_of_pos _ hm) (hB _ _ _ hd) (fun q B => B.put hb hd)
      · refine ⟨_, rfl, p, _, 1, .int d1, rfl, rfl, .of upd_same, rfl, _, _, rfl, rfl, _, _, rfl, rfl, .inr ⟨by decide, by decide⟩, _, _, rfl, rfl, (by show (0 : Int) < 1000000007; decide), ?_⟩
        have hf0 : 0 ≤ (d1 + 1) * 39373 % 1000000007 := Int.emod_nonneg _ (by decide)
        have hf1 : (d1 + 1) * 39373 % 1000000007 < 1000000007 := Int.emod_lt_of_pos _ (by decide)
        generalize (d1 + 1) * 39373 % 1000000007 = fst at *
        refine ⟨_, rfl, _, rfl, _, _, rfl, rfl, .inl ⟨by omega, by omega⟩, _, _, rfl, rfl, (by show (0 : Int) < 998244353; decide), _, _, rfl, rfl, .inr ⟨by decide, by decide⟩, _, _, rfl, rfl, (by show (0 : Int) < 998244353; decide), ?_⟩
        generalize fst * fst % 998244353 * 30011 % 998244353 = snd
        refine ⟨_, rfl, _, _, rfl, rfl, _, rfl, ite2 (fun _ => ?_) (fun _ => ?_)⟩
        · refine ⟨_, rfl, _, _, rfl, rfl, .inr ⟨by decide, by decide⟩, _, rfl, _, _, rfl, rfl, _, rfl, _, _, rfl, rfl, hm, ?_⟩
          exact k _ _ (Int.emod_nonneg _ (by omega)) (Int.emod_lt_of_pos _ hm) (hB _ _ _ hd) (fun q B => B.put hb hd)
        · refine ⟨_, rfl, _, _, rfl, rfl, ⟨by decide, by decide⟩, _, rfl, _, _, rfl, rfl, hm, ?_⟩
          exact k _ _ (Int.emod_nonneg _ (by omega)) (Int.emod_lt_of_pos _ hm) (hB _ _ _ hd) (fun q B => B.put hb hd)
theorem ok_take {f : Addr} {fd : FuncData} {k : Nat} (F : Fun K "_law_take" "_law_take" sTake f fd) (ml : mg "len" = none) : FnOk P w K mg base CX0 (k + 1) f fd ["bag", "many"] spTake := (ok_take2 F ml).imp take_imp
end
end P13

namespace P13
open PySem PySem.Spec PyProof.Rows L2 HG HF
theorem at2 {xs : List V} {a b : V} {r : Int} (h0 : 0 ≤ r) (h1 : r < 2) (e : xs = [a, b]) : ∃ v, atI xs r = some v ∧ (v = a ∨ v = b) := by
  subst e
  have : r = 0 ∨ r = 1 := by omega
  rcases this with rfl | rfl
  · exact ⟨a, rfl, .inl rfl⟩
  · exact ⟨b, rfl, .inr rfl⟩
theorem at3 {xs : List V} {a b c : V} {r : Int} (h0 : 0 ≤ r) (h1 : r < 3) (e : xs = [a, b, c]) : ∃ v, atI xs r = some v ∧ (v = a ∨ v = b ∨ v = c) := by
  subst e
  have : r = 0 ∨ r = 1 ∨ r = 2 := by omega
  rcases this with rfl | rfl | rfl
  · exact ⟨a, rfl, .inl rfl⟩
  · exact ⟨b, rfl, .inr (.inl rfl)⟩
  · exact ⟨c, rfl, .inr (.inr rfl)⟩
section
variable {P : Program} {w : World} {K : PySem.W.Frag} {mg : Str → Option Value} {base : Heap}
theorem scF : FnScope ["number", "pace", "figures", "rest"] ["number", "pace"] (defScope sFigs) := ⟨rfl, rfl, rfl, by decide +kernel, rfl, by decide +kernel, by decide +kernel⟩
theorem ok_figs {f : Addr} {fd : FuncData} {k : Nat} (F : Fun K "figures_of" "figures_of" sFigs f fd) (md : mg "divmod" = none) : FnOk P w K mg base CX0 (k + 1) f fd ["number", "pace"] spFigs := by
  refine F.ok scF (fun vs H Q E h => ?_) (fun cdv A outer s H vs Q E hr h => ?_)
  · obtain ⟨n, p, rfl, _⟩ := h
    rfl
  · obtain ⟨n, p, rfl, hn, hp, hp4, k⟩ := h
    refine ⟨_, (pss_cons (ps_set (i := 2) scF.nd rfl (.inl rfl) (pe_lst pa_nil))
      (pss_cons (ps_while PassesOwn.never (pt_cmpR op_gt (pv 0) pe_int (nomark _))
         (pss_cons (ps_asg (pe_callB call_divmodW (by rfl) md (by decide +kernel) (pa_cons (pv 0) (pa_cons (pv 1) pa_nil))) (pg_tup rfl (pgs_cons (pg_name (i := 0) scF.nd rfl (.inl rfl)) (pgs_cons (pg_name (i := 3) scF.nd rfl (.inl rfl)) pgs_nil))))
         (pss_one (ps_expr (pe_bm PySem.F.plainAttrs_list PySem.F.slot_list_append PySem.F.type_list_append mt_append (pv 2) (pa_cons (pv 3) pa_nil))))))
      (pss_one (ps_ret (pe_revL (pv 2)))))), ?_⟩
    refine ⟨Nat.zero_le _, fun fr nfr => ?_⟩
    refine while_by (fun σ H' => ∃ (m : Nat) (ds : List Nat) (o : Option V), σ = [some (.int (m : Int)), some (.int (p : Int)), some (.ref fr), o] ∧ m < 2 ^ 1000 ∧ Same H H' ∧ H' fr = some (.lst (ds.map nV)) ∧ ds ++ L p m = L p n) (fun σ _ => match σ with | some (.int m) :: _ => m.toNat | _ => 0) ?_ ?_ (mo_test (mo_op mo_rI0 mo_var mo_c))
    · exact ⟨n, [], none, rfl, hn, same_upd nfr, upd_same, rfl⟩
    · rintro σ H1 ⟨m, ds, o, rfl, hm, s1, hf, e⟩
      have hpow : (2 : Nat) ^ 1000 ≤ p ^ 1000 := Nat.pow_le_pow_left hp 1000
      have hlen : (L p n).length ≤ 1000 := L_len hp 1000 n (by omega)
      refine ⟨_, rfl, _, _, rfl, rfl, _, rfl, ite2 (fun c => ?_) (fun c => ?_)⟩
      · have c : (0 : Int) < (m : Int) := of_decide_eq_true c
        have hdv : CDivP (m : Int) (p : Int) := divp_ok (by omega) (by
          have := PyProof.Rows.intBits_le (a := (m : Int)) (k := 1000) (by omega)
          omega)
        refine ⟨_, rfl, _, rfl, _, _, rfl, hdv, fun t nt => ?_⟩
        have nft : fr ≠ t := ne_of_none hf nt
        refine ⟨t, _, rfl, .of upd_same, rfl, _, _, rfl, _, _, rfl, rfl, ?_⟩
        have e2 := L_pos hp (show m ≠ 0 by omega)
        rw [e2] at e
        have hl2 : ds.length + 1 ≤ 1000 := by
          have := congrArg List.length e
          rw [List.length_append, List.length_cons] at this
          omega
        refine ⟨_, rfl, .inl ⟨rfl, _, .of (by rw [upd_ne nft]; exact hf)⟩, _, rfl, fr, _, _, rfl, rfl, by rw [upd_ne nft]; exact hf, ?_, ?_⟩
        · rw [List.length_map]
          exact small1000 (by omega)
        · refine ⟨⟨m / p, ds ++ [m % p], some (.int ((m : Int) % (p : Int))), ?_, ?_, ?_, ?_, ?_⟩, ?_⟩
          · show _ = [some (V.int ((m / p : Nat) : Int)), some (V.int (p : Int)), some (V.ref fr), some (V.int ((m : Int) % (p : Int)))]
            rw [Int.natCast_ediv] <;> rfl
          · have := Nat.div_le_self m p
            omega
          · intro b x hb
            have n1 : b ≠ fr := ne_of_none hb nfr
            rw [upd_ne n1]
            exact same_upd nt _ _ (s1 _ _ hb)
          · rw [upd_same, List.map_append]
            show some (HO.lst (_ ++ [V.int ((m : Int) % (p : Int))])) = some (HO.lst (_ ++ [V.int ((m % p : Nat) : Int)]))
            rw [Int.natCast_emod]
          · rw [List.append_assoc]
            exact e
          · show ((m : Int) / (p : Int)).toNat < (m : Int).toNat
            have := Nat.div_lt_self (show 0 < m by omega) (show 1 < p by omega)
            rw [← Int.natCast_ediv]
            omega
      · have c : ¬ (0 : Int) < (m : Int) := fun z => c (decide_eq_true z)
        obtain rfl : m = 0 := by omega
        rw [L_zero, List.append_nil] at e
        refine ⟨_, rfl, fr, _, rfl, .of hf, fun q nq => ?_⟩
        refine k q _ (s1.trans (same_upd nq)) (s1.free nq) ?_
        rw [upd_same, e]
        unfold figs
        rw [List.map_reverse]
theorem scNu : FnScope ["figures", "pace", "number", "rest"] ["figures", "pace"] (defScope sNum) := ⟨rfl, rfl, rfl, by decide +kernel, rfl, by decide +kernel, by decide +kernel⟩
theorem ok_num {f : Addr} {fd : FuncData} {k : Nat} (F : Fun K "number_of" "number_of" sNum f fd) : FnOk P w K mg base CX0 (k + 1) f fd ["figures", "pace"] (spNum K) := by
  refine F.ok scNu (fun vs H Q E h => ?_) (fun cdv A outer s H vs Q E hr h => ?_)
  · obtain ⟨a, p, ds, rfl, _⟩ := h
    rfl
  · obtain ⟨a, p, ds, rfl, hS, hp, k⟩ := h
    refine ⟨_, (pss_cons (ps_set (i := 2) scNu.nd rfl (.inl rfl) pe_int)
      (pss_cons (ps_for PassesOwn.never rfl (pi_list (pv 0)) (pg_name (i := 3) scNu.nd rfl (.inl rfl))
         (pss_one (ps_set (i := 2) scNu.nd rfl (.inl rfl) (pe_op op_add (pe_op op_mul (pv 2) (pv 1)) (pv 3)))))
      (pss_one (ps_ret (pv 2))))), ?_⟩
    refine ⟨_, rfl, a, rfl, ⟨_, hS⟩, for_list (K := K) (a := a) (xs := ds.map nV) (fun i σ H' => H' = H ∧ ∃ o, σ = [some (.ref a), some (.int (p : Int)), some (.int ((num p (ds.take i) : Nat) : Int)), o]) ⟨rfl, none, rfl⟩ (fun i σ H' _ z => z.1 ▸ hS) ?_ ?_⟩
    · rintro i x σ H1 hx ⟨rfl, o, rfl⟩
      obtain ⟨d, hd, rfl⟩ : ∃ d, ds[i]? = some d ∧ x = nV d := by
        rw [List.getElem?_map] at hx
        cases e : ds[i]? with
        | none => rw [e] at hx; cases hx
        | some d => rw [e] at hx; exact ⟨d, rfl, (Option.some.inj hx).symm⟩
      refine ⟨_, rfl, _, rfl, _, _, rfl, rfl, .inr ⟨by omega, by omega⟩, _, rfl, _, _, rfl, rfl, rfl, some (nV d), ?_⟩
      rw [List.take_add_one, hd]
      show _ = [some (V.ref a), some (V.int (p : Int)), some (V.int ((num p (ds.take i ++ [d]) : Nat) : Int)), _]
      rw [num_snoc, Int.natCast_add, Int.natCast_mul] <;> rfl
    · rintro σ H1 ⟨rfl, o, rfl⟩
      refine ⟨_, rfl, ?_⟩
      rw [List.take_of_length_le (by rw [List.length_map]; exact Nat.le_refl _)]
      exact k
theorem scA : FnScope ["found", "due"] ["found", "due"] (defScope sAlike) := ⟨rfl, rfl, rfl, by decide +kernel, rfl, by decide +kernel, by decide +kernel⟩
theorem ok_alike {f : Addr} {fd : FuncData} {k : Nat} (F : Fun K "_law_alike" "_law_alike" sAlike f fd) (mR : mg "repr" = none) : FnG P w K mg base CX0 (k + 1) f fd ["found", "due"] (spAlike K) := by
  refine okG0 F scA (fun vs H Q E h => ?_) (fun cdv A outer s H vs Q E hg hr h => ?_)
  · obtain ⟨x, y, d, rfl, _⟩ := h
    rfl
  · obtain ⟨x, y, d, rfl, hx, hy, fd, k⟩ := h
    refine ⟨_, (pss_one (ps_ret (pe_and (pe_cmpR (op_eqD hr.units) (pv 0) (pv 1) (nomark _)) (pe_one (pe_cmpR op_eq (pe_callB (call_reprG hg hr) (by rfl) mR (by decide +kernel) (pa_cons (pv 0) pa_nil)) (pe_callB (call_reprG hg hr) (by rfl) mR (by decide +kernel) (pa_cons (pv 1) pa_nil)) (nomark _)))))), ?_⟩
    refine ⟨_, rfl, _, rfl, d, d, hx, hy, fd.shaped, fd.shaped, _, rfl, ?_⟩
    rw [SeqAt.eqv_refl _ fd.lay]
    refine iteT ⟨_, rfl, x, d, rfl, hx, fd.lay, fd.show_, fd.deep, fd.size, _, rfl, y, d, rfl, hy, fd.lay, fd.show_, fd.deep, fd.size, rfl, ?_⟩
    rw [decide_eq_true rfl]
    exact k
theorem scSize : FnScope ["pace", "many", "size", "k"] ["pace", "many"] (defScope sSize) := ⟨rfl, rfl, rfl, by decide +kernel, rfl, by decide +kernel, by decide +kernel⟩
theorem ok_size {f : Addr} {fd : FuncData} {k : Nat} (F : Fun K "_law_size" "_law_size" sSize f fd) (mr : mg "range" = none) : FnOk P w K mg base CX0 (k + 1) f fd ["pace", "many"] spSize := by
  refine F.ok scSize (fun vs H Q E h => ?_) (fun cdv A outer s H vs Q E hr h => ?_)
  · obtain ⟨p, m, rfl, _⟩ := h
    rfl
  · obtain ⟨p, m, rfl, hp, hm, k⟩ := h
    refine ⟨_, pss_cons (ps_set (i := 2) scSize.nd rfl (.inl rfl) pe_int)
      (pss_cons (ps_for PassesOwn.never rfl (pi_range1 rfl mr (pa_cons (pv 1) pa_nil)) (pg_name (i := 3) scSize.nd rfl (.inl rfl))
        (pss_one (ps_set (i := 2) scSize.nd rfl (.inl rfl) (pe_op op_mul (pv 2) (pv 0)))))
      (pss_one (ps_ret (pv 2)))), ?_⟩
    refine ⟨_, rfl, (m : Int), rfl, by omega, by omega, ?_⟩
    rw [Int.toNat_natCast]
    refine for_range (fun i σ H' => ∃ o, σ = [some (.int (p : Int)), some (.int (m : Int)), some (.int ((p ^ i : Nat) : Int)), o] ∧ H' = H) ⟨none, rfl, rfl⟩ ?_ ?_
    · rintro i σ _ hi ⟨o, rfl, rfl⟩
      refine ⟨_, rfl, _, rfl, _, _, rfl, rfl, .inr ⟨by omega, by omega⟩, some (.int (0 + (i : Int))), ?_, rfl⟩
      show ([_, _, some (V.int (((p ^ i : Nat) : Int) * (p : Int))), _] : L2.St) = _
      rw [← Int.natCast_mul, ← Nat.pow_succ]
    · rintro σ _ ⟨o, rfl, rfl⟩
      exact ⟨_, rfl, k⟩
end
end P13

namespace P13
open PySem PySem.Spec PyProof.Rows L2 HG HF
theorem at4 {xs : List V} {a b c d : V} {r : Int} (h0 : 0 ≤ r) (h1 : r < 4) (e : xs = [a, b, c, d]) : ∃ v, atI xs r = some v ∧ (v = a ∨ v = b ∨ v = c ∨ v = d) := by
  subst e
  have : r = 0 ∨ r = 1 ∨ r = 2 ∨ r = 3 := by omega
  rcases this with rfl | rfl | rfl | rfl
  · exact ⟨a, rfl, .inl rfl⟩
  · exact ⟨b, rfl, .inr (.inl rfl)⟩
  · exact ⟨c, rfl, .inr (.inr (.inl rfl))⟩
  · exact ⟨d, rfl, .inr (.inr (.inr rfl))⟩
theorem flat0 (k : Nat) : (List.replicate k [V.int 0]).flatten = (List.replicate k 0).map nV := by
  induction k with
  | zero => rfl
  | succ k ih =>
    rw [List.replicate_succ, List.flatten_cons, ih, List.replicate_succ]
    rfl
theorem new_ne {H : Hp} {p q : Addr} (B : Bag H p) (n : H q = none) : q ≠ p := by
  obtain ⟨ys, hy⟩ := B.lst
  exact fun z => by rw [z, hy] at n; cases n
theorem bag_nats {b0 b1 b2 : Int} {c : Addr} (ds : List Nat) : bagL b0 b1 b2 c ≠ HO.lst (ds.map nV) := fun e => by
  have := HO.lst.inj e
  rcases ds with _ | ⟨d1, _ | ⟨d2, _ | ⟨d3, _ | ⟨d4, r⟩⟩⟩⟩ <;> simp [nV] at this
def spLaw (K : PySem.W.Frag) : Sp := fun vs H Q _ => ∃ (a : Addr) (ns : List Int), vs = [.ref a] ∧ SqL K H a (ns.map V.int) ∧ ns.length ≤ 63 ∧ ∀ H', Q (.bl true) H'
section
variable {P : Program} {w : World} {K : PySem.W.Frag} {mg : Str → Option Value} {base : Heap}
theorem scL : FnScope ["script", "bag", "turn", "pace", "many", "one", "size", "other", "whole", "front", "rest", "due", "told", "nearby", "its"] ["script"] (defScope sLaw) := ⟨rfl, rfl, rfl, by decide +kernel, rfl, by decide +kernel, by decide +kernel⟩
theorem ok_law {f fG fT fA fS fF fM : Addr} {fd fdG fdT fdA fdS fdF fdM : FuncData} (F : Fun K "law" "law" sLaw f fd)
    (FG : Fun K "_law_bag" "_law_bag" sBag fG fdG) (bG : Binds K fdG ["script"] []) (gG : mg "_law_bag" = some (.ref fG))
    (FT : Fun K "_law_take" "_law_take" sTake fT fdT) (bT : Binds K fdT ["bag", "many"] []) (gT : mg "_law_take" = some (.ref fT))
    (FA : Fun K "_law_alike" "_law_alike" sAlike fA fdA) (bA : Binds K fdA ["found", "due"] []) (gA : mg "_law_alike" = some (.ref fA))
    (FS : Fun K "_law_size" "_law_size" sSize fS fdS) (bS : Binds K fdS ["pace", "many"] []) (gS : mg "_law_size" = some (.ref fS))
    (FF : Fun K "figures_of" "figures_of" sFigs fF fdF) (bF : Binds K fdF ["number", "pace"] []) (gF : mg "figures_of" = some (.ref fF))
    (FM : Fun K "number_of" "number_of" sNum fM fdM) (bM : Binds K fdM ["figures", "pace"] []) (gM : mg "number_of" = some (.ref fM))
    (ma : mg "abs" = none) (ml : mg "len" = none) (mr : mg "range" = none) (mx : mg "max" = none) (md : mg "divmod" = none) (mR : mg "repr" = none) : FnG P w K mg base CX0 2 f fd ["script"] (spLaw K) := by
  have GG : FnOk P w K mg base CX0 1 fG fdG ["script"] (spBag K) := ok_bag FG ma
  have GT : FnOk P w K mg base CX0 1 fT fdT ["bag", "many"] spTake := ok_take FT ml
  have GA : FnG P w K mg base CX0 1 fA fdA ["found", "due"] (spAlike K) := ok_alike FA mR
  have GS : FnOk P w K mg base CX0 1 fS fdS ["pace", "many"] spSize := ok_size FS mr
  have GF : FnOk P w K mg base CX0 1 fF fdF ["number", "pace"] spFigs := ok_figs FF md
  have GM : FnOk P w K mg base CX0 1 fM fdM ["figures", "pace"] (spNum K) := ok_num FM
  refine okG0 F scL (fun vs H Q E h => ?_) (fun cdv A outer s H vs Q E hg hr h => ?_)
  · obtain ⟨a, ns, rfl, _⟩ := h
    rfl
  · obtain ⟨a, ns, rfl, hS, hl, k⟩ := h
    refine ⟨_, (pss_cons (ps_set (i := 1) scL.nd rfl (.inl rfl) (pe_call GG hr (by rfl) gG FG.kp bG .nil pass0 (pa_cons (pv 0) pa_nil)))
      (pss_cons (ps_for PassesOwn.never rfl (pi_range1 rfl mr (pa_cons pe_int pa_nil)) (pg_name (i := 2) scL.nd rfl (.inl rfl))
         (Evl.pss_cut (ps_par (i := 3) (j := 4) (by rfl) scL.nd rfl rfl (by decide) rfl rfl (pa_cons (pe_op op_add pe_int (pe_call GT hr (by rfl) gT FT.kp bT .nil pass0 (pa_cons (pv 1) (pa_cons pe_int pa_nil)))) (pa_cons (pe_call GT hr (by rfl) gT FT.kp bT .nil pass0 (pa_cons (pv 1) (pa_cons (pe_ix ix_list (pe_lst (pa_cons pe_int (pa_cons pe_int pa_nil))) (pe_call GT hr (by rfl) gT FT.kp bT .nil pass0 (pa_cons (pv 1) (pa_cons pe_int pa_nil))) (fun _ _ => rfl)) pa_nil))) pa_nil)) (by rfl))
         (Evl.pss_cut (ps_set (i := 5) scL.nd rfl (.inl rfl) (pe_ix ix_list (pe_lst (pa_cons (pe_call GT hr (by rfl) gT FT.kp bT .nil pass0 (pa_cons (pv 1) (pa_cons pe_int pa_nil))) (pa_cons (pe_op op_add pe_int (pe_call GT hr (by rfl) gT FT.kp bT .nil pass0 (pa_cons (pv 1) (pa_cons (pe_op op_pow pe_int pe_int) pa_nil)))) pa_nil))) (pe_call GT hr (by rfl) gT FT.kp bT .nil pass0 (pa_cons (pv 1) (pa_cons pe_int pa_nil))) (fun _ _ => rfl)))
         (Evl.pss_cut (ps_set (i := 6) scL.nd rfl (.inl rfl) (pe_call GS hr (by rfl) gS FS.kp bS .nil pass0 (pa_cons (pv 3) (pa_cons (pv 4) pa_nil))))
         (Evl.pss_cut (ps_set (i := 7) scL.nd rfl (.inl rfl) (pe_ix ix_list (pe_lst (pa_cons (pe_call GT hr (by rfl) gT FT.kp bT .nil pass0 (pa_cons (pv 1) (pa_cons (pv 6) pa_nil))) (pa_cons pe_int (pa_cons (pe_op op_sub (pv 6) pe_int) pa_nil)))) (pe_call GT hr (by rfl) gT FT.kp bT .nil pass0 (pa_cons (pv 1) (pa_cons pe_int pa_nil))) (fun _ _ => rfl)))
         (Evl.pss_cut (ps_par3 (i := 8) (j := 9) (l := 10) (by rfl) scL.nd rfl rfl rfl (by decide) (by decide) (by decide) rfl rfl rfl (pa_cons (pe_op op_add (pe_op op_mulW (pv 5) (pv 6)) (pv 7)) (pa_cons (pe_call GF hr (by rfl) gF FF.kp bF .nil pass0 (pa_cons (pv 5) (pa_cons (pv 3) pa_nil))) (pa_cons (pe_call GF hr (by rfl) gF FF.kp bF .nil pass0 (pa_cons (pv 7) (pa_cons (pv 3) pa_nil))) pa_nil))) (by rfl))
         (Evl.pss_cut (ps_set (i := 11) scL.nd rfl (.inl rfl) (pe_op op_cat (pe_op op_cat (pv 9) (pe_op op_rep (pe_lst (pa_cons pe_int pa_nil)) (pe_op op_sub (pv 4) (pe_callB call_len_seq (by rfl) ml PySem.boot_len (pa_cons (pv 10) pa_nil))))) (pv 10)))
         (Evl.pss_cut (ps_if (pt_cmpR op_eq (pv 5) pe_int (nomark _))
            (pss_one (ps_set (i := 11) scL.nd rfl (.inl rfl) (pv 10)))
            pss_nil)
         (Evl.pss_cut (ps_set (i := 12) scL.nd rfl (.inl rfl) (pe_call GF hr (by rfl) gF FF.kp bF .nil pass0 (pa_cons (pv 8) (pa_cons (pv 3) pa_nil))))
         (Evl.pss_cut (ps_if (PW.pt (pw_or (pt_not (pt_val (pe_callG GA hg hr (by rfl) gA FA.kp bA .nil pass0 (pa_cons (pv 12) (pa_cons (pv 11) pa_nil))))) (pw_or1 (pt_cmpR op_ne (pe_call GM hr (by rfl) gM FM.kp bM .nil pass0 (pa_cons (pe_op op_cat (pe_op op_cat (pv 9) (pe_op op_rep (pe_lst (pa_cons pe_int pa_nil)) (pe_op op_sub (pv 4) (pe_callB call_len_seq (by rfl) ml PySem.boot_len (pa_cons (pv 10) pa_nil))))) (pv 10)) (pa_cons (pv 3) pa_nil))) (pv 8) (nomark _)))))
            (pss_one (ps_ret pe_bl))
            pss_nil)
         (Evl.pss_cut (ps_if (PW.pt (pw_and (pt_cmpR op_gt (pv 8) pe_int (nomark _)) (pw_and1 (pt_cmpR (op_neD hr.units) (pe_op op_cat (pe_call GF hr (by rfl) gF FF.kp bF .nil pass0 (pa_cons (pe_op op_fdiv (pv 8) (pv 3)) (pa_cons (pv 3) pa_nil))) (pe_lst (pa_cons (pe_op op_mod (pv 8) (pv 3)) pa_nil))) (pv 12) (nomark _)))))
            (pss_one (ps_ret pe_bl))
            pss_nil)
         (Evl.pss_cut (ps_set (i := 13) scL.nd rfl (.inl rfl) (pe_ix ix_list (pe_lst (pa_cons (pv 7) (pa_cons (pe_op op_add (pv 8) pe_int) (pa_cons (pe_callB (call_max2 rfl) (by rfl) mx (by decide +kernel) (pa_cons pe_int (pa_cons (pe_op op_sub (pv 8) pe_int) pa_nil))) (pa_cons (pe_call GT hr (by rfl) gT FT.kp bT .nil pass0 (pa_cons (pv 1) (pa_cons (pe_op op_pow pe_int pe_int) pa_nil))) pa_nil))))) (pe_call GT hr (by rfl) gT FT.kp bT .nil pass0 (pa_cons (pv 1) (pa_cons pe_int pa_nil))) (fun _ _ => rfl)))
         (Evl.pss_cut (ps_set (i := 14) scL.nd rfl (.inl rfl) (pe_call GF hr (by rfl) gF FF.kp bF .nil pass0 (pa_cons (pv 13) (pa_cons (pv 3) pa_nil))))
         (pss_one (ps_if (pt_cmpR op_ne (pe_cmpR op_lt (pv 8) (pv 13) (nomark _)) (pe_cmpR (op_ltDat (Int × List Int) hr (by decide)) (pe_tup (pa_cons (pe_callB call_len_seq (by rfl) ml PySem.boot_len (pa_cons (pv 12) pa_nil)) (pa_cons (pv 12) pa_nil))) (pe_tup (pa_cons (pe_callB call_len_seq (by rfl) ml PySem.boot_len (pa_cons (pv 14) pa_nil)) (pa_cons (pv 14) pa_nil))) (nomark _)) (nomark _))
            (pss_one (ps_ret pe_bl))
            pss_nil)))))))))))))))
      (pss_one (ps_ret pe_bl)))), ?_⟩
    have b1000 : (2 : Nat) ^ 300 ≤ 2 ^ 1000 := Nat.pow_le_pow_right (by decide) (by decide)
    have b200 : (2 : Nat) ^ 300 = 2 ^ 100 * 2 ^ 200 := by decide +kernel
    have b99 : (2 : Nat) ^ 100 = 2 * 2 ^ 99 := by decide +kernel
    have b20 : (10 : Nat) ^ 20 + 3 ≤ 2 ^ 99 := by decide +kernel
    have b1 : 8 ≤ (2 : Nat) ^ 200 := by decide +kernel
    refine ⟨_, rfl, a, ns, rfl, hS, hl, fun p H1 s1 np hB => ?_⟩
    refine ⟨6, rfl, by decide, by decide, ?_⟩
    refine for_range (n := 6) (fun i σ H' => ∃ o2 o3 o4 o5 o6 o7 o8 o9 o10 o11 o12 o13 o14 : Option V, σ = [some (.ref a), some (.ref p), o2, o3, o4, o5, o6, o7, o8, o9, o10, o11, o12, o13, o14] ∧ Bag H' p) ⟨_, _, _, _, _, _, _, _, _, _, _, _, _, rfl, hB⟩ ?_ ?_
    · rintro i σ H2 hi ⟨o2, o3, o4, o5, o6, o7, o8, o9, o10, o11, o12, o13, o14, rfl, hB⟩
      let fm : Nat → Nat → Option V → Option V → Option V → Option V → Option V → Option V → Option V → Option V → Option V → Option V → L2.St := fun c m o5 o6 o7 o8 o9 o10 o11 o12 o13 o14 => [some (.ref a), some (.ref p), some (.int (0 + (i : Int))), some (.int (c : Int)), some (.int (m : Int)), o5, o6, o7, o8, o9, o10, o11, o12, o13, o14]
      -- pace, many
      refine ⟨fun σ H' => Bag H' p ∧ ∃ c m : Nat, 2 ≤ c ∧ c ≤ 4 ∧ m ≤ 60 ∧ σ = fm c m o5 o6 o7 o8 o9 o10 o11 o12 o13 o14, ?_, ?_⟩
      · refine ⟨_, rfl, p, 3, rfl, hB, by decide, by decide, fun r xs r0 r1 hB => ?_⟩
        refine ⟨_, _, rfl, rfl, ?_⟩
        generalize upd H2 p (.lst xs) = H3 at *
        refine ⟨_, rfl, by show 2 ≤ sizeLine; decide, fun M nM => ?_⟩
        refine ⟨_, rfl, p, 2, rfl, hB.same (same_upd nM), by decide, by decide, fun r2 xs2 r20 r21 hB2 => ?_⟩
        obtain ⟨v, hv, hv2⟩ := at2 r20 r21 rfl
        refine ⟨M, _, r2, v, rfl, rfl, .of (by rw [upd_ne (new_ne hB nM), upd_same]), hv, ?_⟩
        obtain ⟨x, rfl, x0, x1⟩ : ∃ x : Int, v = V.int x ∧ 0 < x ∧ x ≤ 61 := by
          rcases hv2 with rfl | rfl
          · exact ⟨4, rfl, by decide, by decide⟩
          · exact ⟨61, rfl, by decide, by decide⟩
        refine ⟨p, x, rfl, hB2, x0, Nat.lt_of_le_of_lt (show x.natAbs ≤ 400 by omega) (by decide +kernel), fun r3 xs3 r30 r31 hB3 => ?_⟩
        refine ⟨_, _, rfl, hB3, (2 + r).toNat, r3.toNat, by omega, by omega, by omega, ?_⟩
        show _ = [some (V.ref a), some (V.ref p), some (V.int (0 + (i : Int))), some (V.int (((2 + r).toNat : Nat) : Int)), some (V.int ((r3.toNat : Nat) : Int)), o5, o6, o7, o8, o9, o10, o11, o12, o13, o14]
        rw [Int.toNat_of_nonneg (show 0 ≤ 2 + r by omega), Int.toNat_of_nonneg r30]
        rfl
      rintro σ H3 ⟨hB3, c, m, hc2, hc4, hm, rfl⟩
      -- one
      refine ⟨fun σ H' => Bag H' p ∧ ∃ u : Nat, u < 10 ^ 20 + 2 ∧ σ = fm c m (some (.int (u : Int))) o6 o7 o8 o9 o10 o11 o12 o13 o14, ?_, ?_⟩
      · refine ⟨_, rfl, p, 9, rfl, hB3, by decide, by decide, fun r xs r0 r1 hB4 => ?_⟩
        refine ⟨_, rfl, _, _, rfl, rfl, ⟨by decide, by decide, by decide⟩, p, _, rfl, hB4, by decide +kernel, by decide +kernel, fun r2 xs2 r20 r21 hB5 => ?_⟩
        have hr21 : r2 < 10 ^ 20 := r21
        refine ⟨_, _, rfl, rfl, by show 2 ≤ sizeLine; decide, fun M nM => ?_⟩
        refine ⟨_, rfl, p, 2, rfl, hB5.same (same_upd nM), by decide, by decide, fun r3 xs3 r30 r31 hB6 => ?_⟩
        obtain ⟨v, hv, hv2⟩ := at2 r30 r31 rfl
        refine ⟨M, _, r3, v, rfl, rfl, .of (by rw [upd_ne (new_ne hB5 nM), upd_same]), hv, ?_⟩
        obtain ⟨u, rfl, hu⟩ : ∃ u : Nat, v = V.int (u : Int) ∧ u < 10 ^ 20 + 2 := by
          rcases hv2 with rfl | rfl
          · exact ⟨r.toNat, by rw [Int.toNat_of_nonneg r0], by omega⟩
          · refine ⟨(1 + r2).toNat, ?_, by omega⟩
            rw [Int.toNat_of_nonneg (show 0 ≤ 1 + r2 by omega)]
        exact ⟨hB6, u, hu, rfl⟩
      rintro σ H4 ⟨hB4, u, hu, rfl⟩
      -- size
      have hcm : c ^ m ≤ 2 ^ 200 := by
        have h1 : c ^ m ≤ 4 ^ m := Nat.pow_le_pow_left hc4 m
        have h2 : 4 ^ m ≤ 4 ^ 100 := Nat.pow_le_pow_right (by decide) (by omega)
        have h3 : 4 ^ 100 = 2 ^ 200 := by decide +kernel
        omega
      have hcm0 : 0 < c ^ m := Nat.pow_pos (by omega)
      refine ⟨fun σ H' => H' = H4 ∧ σ = fm c m (some (.int (u : Int))) (some (.int ((c ^ m : Nat) : Int))) o7 o8 o9 o10 o11 o12 o13 o14, ⟨_, rfl, _, rfl, c, m, rfl, by omega, by omega, rfl, rfl⟩, ?_⟩
      rintro σ H5 ⟨rfl, rfl⟩
      -- other
      refine ⟨fun σ H' => Bag H' p ∧ ∃ v : Nat, v < c ^ m ∧ σ = fm c m (some (.int (u : Int))) (some (.int ((c ^ m : Nat) : Int))) (some (.int (v : Int))) o8 o9 o10 o11 o12 o13 o14, ?_, ?_⟩
      · have hcI : (0 : Int) < ((c ^ m : Nat) : Int) := by omega
        refine ⟨_, rfl, _, rfl, p, _, rfl, hB4, hcI, Nat.lt_of_le_of_lt (show (((c ^ m : Nat) : Int)).natAbs ≤ 2 ^ 200 by omega) (by decide +kernel), fun r xs r0 r1 hB5 => ?_⟩
        refine ⟨_, rfl, _, _, rfl, rfl, by show 3 ≤ sizeLine; decide, fun M nM => ?_⟩
        refine ⟨_, rfl, p, 3, rfl, hB5.same (same_upd nM), by decide, by decide, fun r3 xs3 r30 r31 hB6 => ?_⟩
        obtain ⟨v, hv, hv2⟩ := at3 r30 r31 rfl
        refine ⟨M, _, r3, v, rfl, rfl, .of (by rw [upd_ne (new_ne hB5 nM), upd_same]), hv, ?_⟩
        obtain ⟨x, rfl, hx⟩ : ∃ x : Nat, v = V.int (x : Int) ∧ x < c ^ m := by
          rcases hv2 with rfl | rfl | rfl
          · exact ⟨r.toNat, by rw [Int.toNat_of_nonneg r0], by omega⟩
          · exact ⟨0, rfl, hcm0⟩
          · refine ⟨c ^ m - 1, ?_, by omega⟩
            show V.int (((c ^ m : Nat) : Int) - 1) = _
            congr 1
            omega
        exact ⟨hB6, x, hx, rfl⟩
      rintro σ H6 ⟨hB6, v, hv, rfl⟩
      have hx1 : u * c ^ m ≤ 2 ^ 99 * 2 ^ 200 := Nat.mul_le_mul (by omega) hcm
      have hx2 : (2 : Nat) ^ 300 = 2 * (2 ^ 99 * 2 ^ 200) := by decide +kernel
      have hx3 : (2 : Nat) ^ 200 < 2 ^ 99 * 2 ^ 200 := by decide +kernel
      have hx4 : (2 : Nat) ^ 99 < 2 ^ 200 := by decide +kernel
      obtain ⟨W, hWe⟩ : ∃ W, W = u * c ^ m + v := ⟨_, rfl⟩
      have hW : W + 1 < 2 ^ 300 := by omega
      have hWI : (W : Int) = (u : Int) * ((c ^ m : Nat) : Int) + (v : Int) := by rw [hWe, Int.natCast_add, Int.natCast_mul]
      have hpow : (2 : Nat) ^ 1000 ≤ c ^ 1000 := Nat.pow_le_pow_left hc2 1000
      have flen : ∀ n, n < 2 ^ 300 → (figs c n).length ≤ 1000 := fun n hn => figs_len hc2 (by omega)
      let zs : List Nat := figs c u ++ List.replicate (m - (figs c v).length) 0 ++ figs c v
      have hvm : (figs c v).length ≤ m := figs_len hc2 hv
      have hum : (figs c u).length ≤ 100 := by
        have h2 : (2 : Nat) ^ 100 ≤ c ^ 100 := Nat.pow_le_pow_left hc2 100
        exact figs_len hc2 (by omega)
      have hzs : num c zs = W := by
        by_cases z : u = 0
        · subst z
          rw [hWe, Nat.zero_mul, Nat.zero_add]
          exact num_glue0 hc2
        · rw [hWe]
          exact (figs_glue hc2 z hv).2
      -- whole, front, rest
      refine ⟨fun σ H' => ∃ fq rq : Addr, Bag H' p ∧ H' fq = some (.lst ((figs c u).map nV)) ∧ H' rq = some (.lst ((figs c v).map nV)) ∧ σ = fm c m (some (.int (u : Int))) (some (.int ((c ^ m : Nat) : Int))) (some (.int (v : Int))) (some (.int (W : Int))) (some (.ref fq)) (some (.ref rq)) o11 o12 o13 o14, ?_, ?_⟩
      · refine ⟨_, rfl, _, rfl, _, _, rfl, rfl, wide_mul (a := 201) (b := 201) (by omega) (by omega) (by decide) (by decide) (by decide), _, rfl, _, _, rfl, rfl, ?_⟩
        refine ⟨_, rfl, _, rfl, u, c, rfl, by omega, hc2, hc4, fun fq H7 s7 nf hf => ?_⟩
        refine ⟨_, rfl, _, rfl, v, c, rfl, by omega, hc2, hc4, fun rq H8 s8 nr hq => ?_⟩
        refine ⟨_, _, _, rfl, fq, rq, (hB6.same s7).same s8, s8 _ _ hf, hq, ?_⟩
        show _ = [some (V.ref a), some (V.ref p), some (V.int (0 + (i : Int))), some (V.int (c : Int)), some (V.int (m : Int)), some (V.int (u : Int)), some (V.int ((c ^ m : Nat) : Int)), some (V.int (v : Int)), some (V.int (W : Int)), some (V.ref fq), some (V.ref rq), o11, o12, o13, o14]
        rw [hWI]
        rfl
      rintro σ H7 ⟨fq, rq, hB7, hf, hq, rfl⟩
      -- the list of figures put together
      have lim0 : m - (figs c v).length ≤ 60 := by omega
      -- due
      refine ⟨fun σ H' => Same H7 H' ∧ ∃ dq : Addr, H' dq = some (.lst (zs.map nV)) ∧ σ = fm c m (some (.int (u : Int))) (some (.int ((c ^ m : Nat) : Int))) (some (.int (v : Int))) (some (.int (W : Int))) (some (.ref fq)) (some (.ref rq)) (some (.ref dq)) o12 o13 o14, ?_, ?_⟩
      · refine ⟨_, rfl, by show 1 ≤ sizeLine; decide, fun Z nZ => ?_⟩
        have sZ : Same H7 (upd H7 Z (.lst [.int 0])) := same_upd nZ
        refine ⟨_, rfl, _, rfl, rq, _, rfl, .inl (.of (sZ _ _ hq)), _, _, rfl, rfl, ?_⟩
        refine ⟨Z, _, [.int 0], rfl, rfl, upd_same, ?_, ?_, ?_, fun Y nY => ?_⟩
        · rw [List.length_map]; omega
        · rw [List.length_map]; omega
        · rw [List.length_map]
          exact Nat.le_of_lt (small1000 (show 1 * ((m : Int) - ((figs c v).length : Int)).toNat ≤ 1000 by omega))
        have eY : (List.replicate ((m : Int) - (((figs c v).map nV).length : Int)).toNat [V.int 0]).flatten = (List.replicate (m - (figs c v).length) 0).map nV := by
          rw [List.length_map, show ((m : Int) - ((figs c v).length : Int)).toNat = m - (figs c v).length by omega, flat0]
        have sY : Same (upd H7 Z (.lst [.int 0])) (upd (upd H7 Z (.lst [.int 0])) Y (.lst (List.replicate ((m : Int) - (((figs c v).map nV).length : Int)).toNat [V.int 0]).flatten)) := same_upd nY
        refine ⟨fq, Y, _, _, rfl, rfl, sY _ _ (sZ _ _ hf), upd_same, ?_, fun X nX => ?_⟩
        · rw [eY, List.length_map, List.length_map, List.length_replicate]
          exact Nat.le_of_lt (small1000 (by omega))
        have sX := sZ.trans (sY.trans (same_upd (o := .lst ((figs c u).map nV ++ (List.replicate ((m : Int) - (((figs c v).map nV).length : Int)).toNat [V.int 0]).flatten)) nX))
        refine ⟨_, rfl, X, rq, _, _, rfl, rfl, upd_same, sX _ _ hq, ?_, fun dq nd => ?_⟩
        · rw [eY, ← List.map_append, List.length_map, List.length_append, List.length_replicate, List.length_map]
          exact Nat.le_of_lt (small1000 (by omega))
        · refine ⟨sX.trans (same_upd nd), dq, ?_, rfl⟩
          rw [upd_same, eY, ← List.map_append, ← List.map_append]
      rintro σ H8 ⟨s8, dq0, hd0, rfl⟩
      have hB8 := hB7.same s8
      have hf8 := s8 _ _ hf
      have hq8 := s8 _ _ hq
      let gm : Addr → Option V → Option V → Option V → L2.St := fun dq o12 o13 o14 => fm c m (some (.int (u : Int))) (some (.int ((c ^ m : Nat) : Int))) (some (.int (v : Int))) (some (.int (W : Int))) (some (.ref fq)) (some (.ref rq)) (some (.ref dq)) o12 o13 o14
      -- if one == 0
      refine ⟨fun σ H' => H' = H8 ∧ ∃ dq : Addr, H' dq = some (.lst ((figs c W).map nV)) ∧ σ = gm dq o12 o13 o14, ?_, ?_⟩
      · refine ⟨_, rfl, rfl, _, rfl, ite2 (fun h1 => ?_) (fun h1 => ?_)⟩
        · have h1 : (u : Int) = 0 := V.int.inj (of_decide_eq_true h1)
          have h2 : u = 0 := by omega
          have h3 : W = v := by rw [hWe, h2, Nat.zero_mul, Nat.zero_add]
          refine ⟨_, rfl, rfl, rq, ?_, rfl⟩
          rw [h3]
          exact hq8
        · have h2 : u ≠ 0 := fun z => h1 (decide_eq_true (by rw [z]; rfl))
          refine ⟨rfl, dq0, ?_, rfl⟩
          rw [hWe, ← (figs_glue hc2 h2 hv).1]
          exact hd0
      rintro σ H9 ⟨rfl, dq, hd, rfl⟩
      -- told
      refine ⟨fun σ H' => Same H9 H' ∧ ∃ tq : Addr, H' tq = some (.lst ((figs c W).map nV)) ∧ σ = gm dq (some (.ref tq)) o13 o14, ?_, ?_⟩
      · refine ⟨_, rfl, _, rfl, W, c, rfl, by omega, hc2, hc4, fun tq H' s' nt ht => ⟨s', tq, ht, rfl⟩⟩
      rintro σ H10 ⟨s10, tq, ht, rfl⟩
      have hB10 := hB8.same s10
      have hf10 := s10 _ _ hf8
      have hq10 := s10 _ _ hq8
      have hd10 := s10 _ _ hd
      have fine : ∀ n, n < 2 ^ 300 → Fine (.list ((figs c n).map nD)) := fun n hn => fine_nats (fun d hd => by have := figs_lt hc2 n d hd; omega) (flen n hn)
      have fW := fine W (by omega)
      -- if not _law_alike(told, due) or number_of(..) != whole
      refine ⟨fun σ H' => Same H10 H' ∧ σ = gm dq (some (.ref tq)) o13 o14, ?_, ?_⟩
      · refine ⟨_, rfl, _, rfl, _, _, .list ((figs c W).map nD), rfl, .lst (.of ht) (dpAll_nats _), .lst (.of hd10) (dpAll_nats _), fW, true, rfl, iteF ?_⟩
        refine ⟨_, rfl, by show 1 ≤ sizeLine; decide, fun Z nZ => ?_⟩
        have sZ : Same H10 (upd H10 Z (.lst [.int 0])) := same_upd nZ
        refine ⟨_, rfl, _, rfl, rq, _, rfl, .inl (.of (sZ _ _ hq10)), _, _, rfl, rfl, ?_⟩
        refine ⟨Z, _, [.int 0], rfl, rfl, upd_same, ?_, ?_, ?_, fun Y nY => ?_⟩
        · rw [List.length_map]; omega
        · rw [List.length_map]; omega
        · rw [List.length_map]
          exact Nat.le_of_lt (small1000 (show 1 * ((m : Int) - ((figs c v).length : Int)).toNat ≤ 1000 by omega))
        have eY : (List.replicate ((m : Int) - (((figs c v).map nV).length : Int)).toNat [V.int 0]).flatten = (List.replicate (m - (figs c v).length) 0).map nV := by
          rw [List.length_map, show ((m : Int) - ((figs c v).length : Int)).toNat = m - (figs c v).length by omega, flat0]
        have sY : Same (upd H10 Z (.lst [.int 0])) (upd (upd H10 Z (.lst [.int 0])) Y (.lst (List.replicate ((m : Int) - (((figs c v).map nV).length : Int)).toNat [V.int 0]).flatten)) := same_upd nY
        refine ⟨fq, Y, _, _, rfl, rfl, sY _ _ (sZ _ _ hf10), upd_same, ?_, fun X nX => ?_⟩
        · rw [eY, List.length_map, List.length_map, List.length_replicate]
          exact Nat.le_of_lt (small1000 (by omega))
        have sX := sZ.trans (sY.trans (same_upd (o := .lst ((figs c u).map nV ++ (List.replicate ((m : Int) - (((figs c v).map nV).length : Int)).toNat [V.int 0]).flatten)) nX))
        refine ⟨_, rfl, X, rq, _, _, rfl, rfl, upd_same, sX _ _ hq10, ?_, fun gq ng => ?_⟩
        · rw [eY, ← List.map_append, List.length_map, List.length_append, List.length_replicate, List.length_map]
          exact Nat.le_of_lt (small1000 (by omega))
        · refine ⟨_, rfl, gq, c, zs, rfl, .of ?_, hc4, ?_⟩
          · rw [upd_same, eY, ← List.map_append, ← List.map_append]
          rw [hzs]
          refine ⟨_, rfl, rfl, _, rfl, iteNS rfl ?_⟩
          exact ⟨sX.trans (same_upd ng), rfl⟩
      rintro σ H11 ⟨s11, rfl⟩
      have hB11 := hB10.same s11
      have ht11 := s11 _ _ ht
      -- if whole > 0 and ..
      refine ⟨fun σ H' => Same H11 H' ∧ σ = gm dq (some (.ref tq)) o13 o14, ?_, ?_⟩
      · refine ⟨_, rfl, _, _, rfl, rfl, _, rfl, ite2 (fun h1 => ?_) (fun _ => iteF ⟨Same.refl _, rfl⟩)⟩
        have h1 : (0 : Int) < (W : Int) := of_decide_eq_true h1
        have hcd : CDiv (W : Int) (c : Int) := ⟨by omega, by omega⟩
        have hcI : (0 : Int) < (c : Int) := by omega
        have hle := Nat.div_le_self W c
        have e1 : (W : Int) / (c : Int) = ((W / c : Nat) : Int) := (Int.natCast_ediv _ _).symm
        refine ⟨_, rfl, _, rfl, _, _, rfl, rfl, hcd, _, rfl, W / c, c, congrArg (fun z => [V.int z, V.int (c : Int)]) e1, by omega, hc2, hc4, fun q1 H12 s12 n1 h12 => ?_⟩
        refine ⟨_, rfl, _, rfl, _, _, rfl, rfl, hcI, by show 1 ≤ sizeLine; decide, fun q2 n2 => ?_⟩
        have s13 : Same H12 (upd H12 q2 (.lst [.int ((W : Int) % (c : Int))])) := same_upd n2
        refine ⟨q1, q2, _, _, rfl, rfl, s13 _ _ h12, upd_same, ?_, fun q3 n3 => ?_⟩
        · rw [List.length_map]
          have := flen (W / c) (by omega)
          have hz : 1001 ≤ sizeLine := by decide
          show (figs c (W / c)).length + 1 ≤ sizeLine
          omega
        · have e3 : (figs c (W / c)).map nV ++ [V.int ((W : Int) % (c : Int))] = (figs c W).map nV := by
            rw [← figs_step hc2 (show W ≠ 0 by omega), List.map_append]
            show _ ++ [V.int ((W : Int) % (c : Int))] = _ ++ [V.int ((W % c : Nat) : Int)]
            rw [Int.natCast_emod]
          have s14 := s12.trans (s13.trans (same_upd (o := .lst ((figs c (W / c)).map nV ++ [V.int ((W : Int) % (c : Int))])) n3))
          refine ⟨_, rfl, .list ((figs c W).map nD), .list ((figs c W).map nD), .lst (.of upd_same) (by rw [e3]; exact dpAll_nats _), .lst (.of (s14 _ _ ht11)) (dpAll_nats _), fW.shaped, fW.shaped, _, rfl, ?_⟩
          rw [SeqAt.eqv_refl _ fW.lay]
          exact iteF ⟨s14, rfl⟩
      rintro σ H12 ⟨s12, rfl⟩
      have hB12 := hB11.same s12
      have ht12 := s12 _ _ ht11
      -- nearby
      have ntp : tq ≠ p := by
        obtain ⟨c0, b0, b1, b2, cs, hp, _⟩ := hB12
        intro z
        rw [z, hp] at ht12
        exact bag_nats _ (Option.some.inj ht12)
      refine ⟨fun σ H' => Bag H' p ∧ H' tq = some (.lst ((figs c W).map nV)) ∧ ∃ y : Nat, y < 2 ^ 300 ∧ σ = gm dq (some (.ref tq)) (some (.int (y : Int))) o14, ?_, ?_⟩
      · refine ⟨_, rfl, _, rfl, _, _, rfl, rfl, _, rfl, _, _, rfl, rfl, _, _, rfl, ?_⟩
        refine ⟨_, rfl, _, _, rfl, rfl, ⟨by decide, by decide, by decide⟩, p, _, rfl, hB12, by decide +kernel, by decide +kernel, fun r2 xs2 r20 r21 hB13 => ?_⟩
        have hr21 : r2 < 10 ^ 20 := r21
        refine ⟨by show 4 ≤ sizeLine; decide, fun M nM => ?_⟩
        refine ⟨_, rfl, p, 4, rfl, hB13.same (same_upd nM), by decide, by decide, fun r3 xs3 r30 r31 hB14 => ?_⟩
        obtain ⟨x, hx, hx2⟩ := at4 r30 r31 rfl
        refine ⟨M, _, r3, x, rfl, rfl, .of (by rw [upd_ne (new_ne hB13 nM), upd_same]), hx, ?_⟩
        obtain ⟨y, rfl, hy⟩ : ∃ y : Nat, x = V.int (y : Int) ∧ y < 2 ^ 300 := by
          rcases hx2 with rfl | rfl | rfl | rfl
          · exact ⟨v, rfl, by omega⟩
          · exact ⟨W + 1, rfl, by omega⟩
          · refine ⟨W - 1, ?_, by omega⟩
            show V.int (if (W : Int) - 1 > 0 then (W : Int) - 1 else 0) = _
            congr 1
            split <;> omega
          · exact ⟨r2.toNat, by rw [Int.toNat_of_nonneg r20], by omega⟩
        have nMt : tq ≠ M := by
          have h0 : (upd H12 p (.lst xs2)) tq = some (.lst ((figs c W).map nV)) := by rw [upd_ne ntp]; exact ht12
          exact ne_of_none h0 nM
        refine ⟨hB14, ?_, y, hy, rfl⟩
        rw [upd_ne ntp, upd_ne nMt, upd_ne ntp]
        exact ht12
      rintro σ H13 ⟨hB13, ht13, y, hy, rfl⟩
      -- its
      refine ⟨fun σ H' => Same H13 H' ∧ ∃ iq : Addr, H' iq = some (.lst ((figs c y).map nV)) ∧ σ = gm dq (some (.ref tq)) (some (.int (y : Int))) (some (.ref iq)), ?_, ?_⟩
      · refine ⟨_, rfl, _, rfl, y, c, rfl, by omega, hc2, hc4, fun iq H' s' nq hiq => ⟨s', iq, hiq, rfl⟩⟩
      rintro σ H14 ⟨s14, iq, hiq, rfl⟩
      have ht14 := s14 _ _ ht13
      refine ⟨_, rfl, _, rfl, _, _, rfl, rfl, ?_⟩
      refine ⟨_, rfl, tq, _, rfl, .inl (.of ht14), _, rfl, by show 2 ≤ sizeLine; decide, fun t1 n1 => ?_⟩
      have s15 : Same H14 (upd H14 t1 (.tup [.int (((figs c W).map nV).length : Int), .ref tq])) := same_upd n1
      refine ⟨_, rfl, iq, _, rfl, .inl (.of (s15 _ _ hiq)), _, rfl, by show 2 ≤ sizeLine; decide, fun t2 n2 => ?_⟩
      have s16 : Same (upd H14 t1 (.tup [.int (((figs c W).map nV).length : Int), .ref tq])) (upd (upd H14 t1 (.tup [.int (((figs c W).map nV).length : Int), .ref tq])) t2 (.tup [.int (((figs c y).map nV).length : Int), .ref iq])) := same_upd n2
      have lm : ∀ n, (((figs c n).map nV).length : Int) = ((figs c n).length : Int) := fun n => by rw [List.length_map]
      refine ⟨lenFigs c W, lenFigs c y, ?_, ?_, ?_⟩
      · rw [toD_figs]
        refine .tup (.of (s16 _ _ upd_same)) (.cons ?_ (.cons (.lst (.of (s16 _ _ (s15 _ _ ht14))) (dpAll_nats _)) .nil))
        rw [lm W]
        exact .int _
      · rw [toD_figs]
        refine .tup (.of upd_same) (.cons ?_ (.cons (.lst (.of (s16 _ _ (s15 _ _ hiq))) (dpAll_nats _)) .nil))
        rw [lm y]
        exact .int _
      rw [lt_figs hc2]
      refine ⟨rfl, _, rfl, iteNS ?_ ?_⟩
      · show V.bl (decide ((W : Int) < (y : Int))) = V.bl (decide (W < y))
        congr 1
        by_cases z : W < y
        · rw [decide_eq_true z, decide_eq_true (by omega)]
        · rw [decide_eq_false z, decide_eq_false (by omega)]
      · exact ⟨_, _, _, _, _, _, _, _, _, _, _, _, _, rfl, (hB13.same s14).same (s15.trans s16)⟩
    · rintro σ H2 ⟨_, _, _, _, _, _, _, _, _, _, _, _, _, rfl, hB⟩
      exact k H2
end
end P13

namespace P13
open PySem PySem.Spec PyProof.Rows L2 HG
theorem all_mk {l : PySem.W.OpenLaw} {w : World} {K : PySem.W.Frag} {h : Heap} {mg : Str → Option Value} {fa f1 f2 f3 f4 f5 f6 f7 : Addr} (X : K.In h) (G : h.Ns mainGlobals mg) (hfa : mg "law" = some (.ref fa))
    {od1 an1 : Option Addr} {sl1 : Array (Option Value)} {oc1 kV1 dc1 pm1 cd1 ct1 : Value}
    {od2 an2 : Option Addr} {sl2 : Array (Option Value)} {oc2 kV2 dc2 pm2 cd2 ct2 : Value}
    {od3 an3 : Option Addr} {sl3 : Array (Option Value)} {oc3 kV3 dc3 pm3 cd3 ct3 : Value}
    {od4 an4 : Option Addr} {sl4 : Array (Option Value)} {oc4 kV4 dc4 pm4 cd4 ct4 : Value}
    {od5 an5 : Option Addr} {sl5 : Array (Option Value)} {oc5 kV5 dc5 pm5 cd5 ct5 : Value}
    {od6 an6 : Option Addr} {sl6 : Array (Option Value)} {oc6 kV6 dc6 pm6 cd6 ct6 : Value}
    {od7 an7 : Option Addr} {sl7 : Array (Option Value)} {oc7 kV7 dc7 pm7 cd7 ct7 : Value}
    (a1 : PySem.W.nsIn K mainGlobals "figures_of" = some (some (.ref f1))) (l1 : K.lookup f1 = some ⟨oc1, od1, .func (PySem.W.fnOf "figures_of" "figures_of" (defArgs sFigs) (defBody sFigs) (defScope sFigs) .none kV1 dc1 pm1 an1 cd1 ct1), sl1⟩) (c1 : PySem.W.codeIn K cd1 "figures_of" = true) (k1 : PySem.W.keepIn K (.ref f1) = true)
    (a2 : PySem.W.nsIn K mainGlobals "number_of" = some (some (.ref f2))) (l2 : K.lookup f2 = some ⟨oc2, od2, .func (PySem.W.fnOf "number_of" "number_of" (defArgs sNum) (defBody sNum) (defScope sNum) .none kV2 dc2 pm2 an2 cd2 ct2), sl2⟩) (c2 : PySem.W.codeIn K cd2 "number_of" = true) (k2 : PySem.W.keepIn K (.ref f2) = true)
    (a3 : PySem.W.nsIn K mainGlobals "_law_bag" = some (some (.ref f3))) (l3 : K.lookup f3 = some ⟨oc3, od3, .func (PySem.W.fnOf "_law_bag" "_law_bag" (defArgs sBag) (defBody sBag) (defScope sBag) .none kV3 dc3 pm3 an3 cd3 ct3), sl3⟩) (c3 : PySem.W.codeIn K cd3 "_law_bag" = true) (k3 : PySem.W.keepIn K (.ref f3) = true)
    (a4 : PySem.W.nsIn K mainGlobals "_law_take" = some (some (.ref f4))) (l4 : K.lookup f4 = some ⟨oc4, od4, .func (PySem.W.fnOf "_law_take" "_law_take" (defArgs sTake) (defBody sTake) (defScope sTake) .none kV4 dc4 pm4 an4 cd4 ct4), sl4⟩) (c4 : PySem.W.codeIn K cd4 "_law_take" = true) (k4 : PySem.W.keepIn K (.ref f4) = true)
    (a5 : PySem.W.nsIn K mainGlobals "_law_alike" = some (some (.ref f5))) (l5 : K.lookup f5 = some ⟨oc5, od5, .func (PySem.W.fnOf "_law_alike" "_law_alike" (defArgs sAlike) (defBody sAlike) (defScope sAlike) .none kV5 dc5 pm5 an5 cd5 ct5), sl5⟩) (c5 : PySem.W.codeIn K cd5 "_law_alike" = true) (k5 : PySem.W.keepIn K (.ref f5) = true)
    (a6 : PySem.W.nsIn K mainGlobals "_law_size" = some (some (.ref f6))) (l6 : K.lookup f6 = some ⟨oc6, od6, .func (PySem.W.fnOf "_law_size" "_law_size" (defArgs sSize) (defBody sSize) (defScope sSize) .none kV6 dc6 pm6 an6 cd6 ct6), sl6⟩) (c6 : PySem.W.codeIn K cd6 "_law_size" = true) (k6 : PySem.W.keepIn K (.ref f6) = true)
    (a7 : PySem.W.nsIn K mainGlobals "law" = some (some (.ref f7))) (l7 : K.lookup f7 = some ⟨oc7, od7, .func (PySem.W.fnOf "law" "law" (defArgs sLaw) (defBody sLaw) (defScope sLaw) .none kV7 dc7 pm7 an7 cd7 ct7), sl7⟩) (c7 : PySem.W.codeIn K cd7 "law" = true) (k7 : PySem.W.keepIn K (.ref f7) = true)
    (z1 : PySem.W.nsIn K mainGlobals "abs" = some none) (z2 : PySem.W.nsIn K mainGlobals "len" = some none) (z3 : PySem.W.nsIn K mainGlobals "range" = some none) (z4 : PySem.W.nsIn K mainGlobals "max" = some none) (z5 : PySem.W.nsIn K mainGlobals "divmod" = some none) (z6 : PySem.W.nsIn K mainGlobals "repr" = some none) :
    ∃ fd : FuncData, (∀ (s : Shared) (v : Value), BindsTo s fd ⟨[v], []⟩ [("script", v)]) ∧ ∀ base : Heap, K.In base → base.Ns mainGlobals mg → FnG l.prog w K mg base CX0 2 fa fd ["script"] (spLaw K) := by
  have e := hfa.symm.trans (PySem.W.mg_of X G a7)
  cases e
  have F1 := fun_mk (st := sFigs) l1 c1 k1
  have b1 := F1.binds (ps := ["number", "pace"]) fun _ _ _ _ _ _ us hl => match us, hl with | [_, _], _ => rfl
  have F2 := fun_mk (st := sNum) l2 c2 k2
  have b2 := F2.binds (ps := ["figures", "pace"]) fun _ _ _ _ _ _ us hl => match us, hl with | [_, _], _ => rfl
  have F3 := fun_mk (st := sBag) l3 c3 k3
  have b3 := F3.binds (ps := ["script"]) fun _ _ _ _ _ _ us hl => match us, hl with | [_], _ => rfl
  have F4 := fun_mk (st := sTake) l4 c4 k4
  have b4 := F4.binds (ps := ["bag", "many"]) fun _ _ _ _ _ _ us hl => match us, hl with | [_, _], _ => rfl
  have F5 := fun_mk (st := sAlike) l5 c5 k5
  have b5 := F5.binds (ps := ["found", "due"]) fun _ _ _ _ _ _ us hl => match us, hl with | [_, _], _ => rfl
  have F6 := fun_mk (st := sSize) l6 c6 k6
  have b6 := F6.binds (ps := ["pace", "many"]) fun _ _ _ _ _ _ us hl => match us, hl with | [_, _], _ => rfl
  have F7 := fun_mk (st := sLaw) l7 c7 k7
  exact ⟨PySem.W.fnOf "law" "law" (defArgs sLaw) (defBody sLaw) (defScope sLaw) .none kV7 dc7 pm7 an7 cd7 ct7, fun s v => .of_eq rfl, fun base _ _ => ok_law F7 F3 b3 (PySem.W.mg_of X G a3) F4 b4 (PySem.W.mg_of X G a4) F5 b5 (PySem.W.mg_of X G a5) F6 b6 (PySem.W.mg_of X G a6) F1 b1 (PySem.W.mg_of X G a1) F2 b2 (PySem.W.mg_of X G a2) (PySem.W.mg_none_of X G z1) (PySem.W.mg_none_of X G z2) (PySem.W.mg_none_of X G z3) (PySem.W.mg_none_of X G z4) (PySem.W.mg_none_of X G z5) (PySem.W.mg_none_of X G z6)⟩
end P13
open PySem PySem.W PyProof.Rows
set_option maxHeartbeats 0 in
theorem PySem.Challenge.cw_halfpace_k13_figures_put_together_holds : PySem.Challenge.rw_halfpace_k13_figures_put_together.Holds := by
  w_on; o_law; k_head; (case hw => w_witness2)
  k_fill
  refine HG.walkG (l := PySem.Challenge.rw_halfpace_k13_figures_put_together) (k := 2) (x := "script") (CX := L2.CX0) (sp := fun K => P13.spLaw K) rfl rfl ⟨rfl, by decide, by decide⟩ (fun w h Y => PySem.W.kIn_of Y) ?F (fun _ _ a ns hl hS => ⟨a, ns, rfl, hS, hl, fun _ => rfl⟩) (fun _ _ _ _ h => h)
  case F =>
    intro w mg fa h KX G hmg
    refine' P13.all_mk KX G hmg ?a1 ?l1 ?c1 ?k1 ?a2 ?l2 ?c2 ?k2 ?a3 ?l3 ?c3 ?k3 ?a4 ?l4 ?c4 ?k4 ?a5 ?l5 ?c5 ?k5 ?a6 ?l6 ?c6 ?k6 ?a7 ?l7 ?c7 ?k7 ?z1 ?z2 ?z3 ?z4 ?z5 ?z6
    (case a1 => k_is)
    (case l1 => k_is)
    (case c1 => k_is)
    (case k1 => k_is)
    (case a2 => k_is)
    (case l2 => k_is)
    (case c2 => k_is)
    (case k2 => k_is)
    (case a3 => k_is)
    (case l3 => k_is)
    (case c3 => k_is)
    (case k3 => k_is)
    (case a4 => k_is)
    (case l4 => k_is)
    (case c4 => k_is)
    (case k4 => k_is)
    (case a5 => k_is)
    (case l5 => k_is)
    (case c5 => k_is)
    (case k5 => k_is)
    (case a6 => k_is)
    (case l6 => k_is)
    (case c6 => k_is)
    (case k6 => k_is)
    (case a7 => k_is)
    (case l7 => k_is)
    (case c7 => k_is)
    (case k7 => k_is)
    (case z1 => k_is)
    (case z2 => k_is)
    (case z3 => k_is)
    (case z4 => k_is)
    (case z5 => k_is)
    (case z6 => k_is)


