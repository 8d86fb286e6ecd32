import PyProof.Rows.All
import Wide.All
import OpenK.AllK
import Wide.FinOn
import HandS.ForMost
import HandS.Wide
import HandS.Style
import HandS.Evl
import HandS.Conv
import HandS.IsInst
import HandS.Codes
import HandS.WideBits
import HandS.Walk
import PySem.Challenge.RW_halfpace_k11_kinds_known
set_option Elab.async false
set_option linter.all false
set_option maxRecDepth 100000
set_option maxHeartbeats 4000000
set_option autoImplicit false
namespace HB
/-! blocks: the mirror and its mathematics -/
def bl (p : Nat) : Nat → Nat → Nat → Nat → List (Nat × Nat)
  | 0, _, _, _ => []
  | f + 1, v, l, h =>
    if l < h then
      if l % p ≠ 0 then (l, v) :: bl p f v (l + 1) h
      else if h % p ≠ 0 then bl p f v l (h - 1) ++ [(h - 1, v)]
      else bl p f (v + 1) (l / p) (h / p)
    else []
/-- with fuel enough -/
def B (p v l h : Nat) : List (Nat × Nat) := bl p (h - l) v l h
theorem half {p l h : Nat} (hp : 2 ≤ p) (hl : l < h) (l0 : l % p = 0) (h0 : h % p = 0) : h / p - l / p < h - l ∧ l / p < h / p := by
  have e1 : p * (l / p) = l := by have := Nat.div_add_mod l p; omega
  have e2 : p * (h / p) = h := by have := Nat.div_add_mod h p; omega
  have lt : l / p < h / p := by
    apply Nat.lt_of_mul_lt_mul_left (a := p)
    omega
  refine ⟨?_, lt⟩
  obtain ⟨d, hd⟩ : ∃ d, h / p = l / p + d := ⟨h / p - l / p, by omega⟩
  have e3 : h = l + p * d := by
    rw [← e2, hd, Nat.mul_add, e1]
  have : 2 * d ≤ p * d := Nat.mul_le_mul_right d hp
  omega
theorem bl_fuel {p : Nat} (hp : 2 ≤ p) : ∀ (f g v l h : Nat), h - l ≤ f → h - l ≤ g → bl p f v l h = bl p g v l h := by
  intro f
  induction f with
  | zero =>
    intro g v l h hf hg
    cases g with
    | zero => rfl
    | succ g =>
      have : ¬ l < h := by omega
      simp [bl, this]
  | succ f ih =>
    intro g v l h hf hg
    cases g with
    | zero =>
      have : ¬ l < h := by omega
      simp [bl, this]
    | succ g =>
      unfold bl
      by_cases c : l < h
      · rw [if_pos c, if_pos c]
        by_cases c1 : l % p ≠ 0
        · rw [if_pos c1, if_pos c1, ih g v (l + 1) h (by omega) (by omega)]
        · rw [if_neg c1, if_neg c1]
          by_cases c2 : h % p ≠ 0
          · rw [if_pos c2, if_pos c2, ih g v l (h - 1) (by omega) (by omega)]
          · rw [if_neg c2, if_neg c2]
            have := half hp c (by omega) (by omega)
            exact ih g (v + 1) (l / p) (h / p) (by omega) (by omega)
      · rw [if_neg c, if_neg c]
theorem B_end {p v l h : Nat} (c : ¬ l < h) : B p v l h = [] := by
  unfold B
  rw [show h - l = 0 by omega]
  rfl
theorem B_low {p v l h : Nat} (c : l < h) (m : l % p ≠ 0) : B p v l h = (l, v) :: B p v (l + 1) h := by
  unfold B
  rw [show h - l = (h - (l + 1)) + 1 by omega]
  show (if l < h then _ else _) = _
  rw [if_pos c, if_pos m]
theorem B_high {p v l h : Nat} (c : l < h) (m : l % p = 0) (m2 : h % p ≠ 0) : B p v l h = B p v l (h - 1) ++ [(h - 1, v)] := by
  unfold B
  rw [show h - l = (h - 1 - l) + 1 by omega]
  show (if l < h then _ else _) = _
  rw [if_pos c, if_neg (by omega), if_pos m2]
theorem B_up {p v l h : Nat} (hp : 2 ≤ p) (c : l < h) (m : l % p = 0) (m2 : h % p = 0) : B p v l h = B p (v + 1) (l / p) (h / p) := by
  have hh := half hp c m m2
  unfold B
  rw [show h - l = (h - l - 1) + 1 by omega]
  show (if l < h then _ else _) = _
  rw [if_pos c, if_neg (by omega), if_neg (by omega)]
  exact bl_fuel hp _ _ _ _ _ (by omega) (by omega)
theorem div_eq {p l h : Nat} (c : ¬ l < h) (e : l ≤ h) : B p 0 (l / p) (h / p) = [] := by
  have : l = h := by omega
  subst this
  exact B_end (by omega)
/-- a rule of induction: one for all three ways -/
theorem B_ind {p : Nat} (hp : 2 ≤ p) {C : Nat → Nat → Nat → List (Nat × Nat) → Prop}
    (h0 : ∀ v l h, l = h → C v l h [])
    (h1 : ∀ v l h, l < h → l % p ≠ 0 → C v (l + 1) h (B p v (l + 1) h) → C v l h ((l, v) :: B p v (l + 1) h))
    (h2 : ∀ v l h, l < h → l % p = 0 → h % p ≠ 0 → C v l (h - 1) (B p v l (h - 1)) → C v l h (B p v l (h - 1) ++ [(h - 1, v)]))
    (h3 : ∀ v l h, l < h → l % p = 0 → h % p = 0 → l / p < h / p → C (v + 1) (l / p) (h / p) (B p (v + 1) (l / p) (h / p)) → C v l h (B p (v + 1) (l / p) (h / p))) :
    ∀ (n v l h : Nat), h - l ≤ n → l ≤ h → C v l h (B p v l h) := by
  intro n
  induction n with
  | zero =>
    intro v l h hn hle
    rw [B_end (by omega)]
    exact h0 v l h (by omega)
  | succ n ih =>
    intro v l h hn hle
    by_cases c : l < h
    · by_cases c1 : l % p = 0
      · by_cases c2 : h % p = 0
        · have hh := half hp c c1 c2
          rw [B_up hp c c1 c2]
          exact h3 v l h c c1 c2 hh.2 (ih _ _ _ (by omega) (by omega))
        · rw [B_high c c1 c2]
          exact h2 v l h c c1 c2 (ih _ _ _ (by omega) (by omega))
      · rw [B_low c c1]
        exact h1 v l h c c1 (ih _ _ _ (by omega) (by omega))
    · rw [B_end c]
      exact h0 v l h (by omega)
/-! side by side -/
inductive Chain (p : Nat) : List (Nat × Nat) → Nat → Nat → Prop
  | nil (x) : Chain p [] x x
  | cons {a k r y} : Chain p r (a * p ^ k + p ^ k) y → Chain p ((a, k) :: r) (a * p ^ k) y
theorem Chain.snoc {p : Nat} {ks : List (Nat × Nat)} {x a k : Nat} (h : Chain p ks x (a * p ^ k)) : Chain p (ks ++ [(a, k)]) x (a * p ^ k + p ^ k) := by
  generalize e : a * p ^ k = y at h
  induction h with
  | nil x => subst e; exact .cons (.nil _)
  | cons r ih => exact .cons (ih e)
theorem pw {p v l : Nat} (m : l % p = 0) : l / p * p ^ (v + 1) = l * p ^ v := by
  have e1 : l / p * p = l := by have := Nat.div_add_mod l p; rw [Nat.mul_comm]; omega
  rw [Nat.pow_succ, Nat.mul_comm (p ^ v) p, ← Nat.mul_assoc, e1]
theorem B_chain {p : Nat} (hp : 2 ≤ p) {v l h : Nat} (hle : l ≤ h) : Chain p (B p v l h) (l * p ^ v) (h * p ^ v) := by
  refine B_ind hp (C := fun v l h ks => Chain p ks (l * p ^ v) (h * p ^ v)) ?_ ?_ ?_ ?_ (h - l) v l h (Nat.le_refl _) hle
  · intro v l h e; subst e; exact .nil _
  · intro v l h c m ih
    rw [Nat.succ_mul] at ih
    exact .cons ih
  · intro v l h c m m2 ih
    have e : h * p ^ v = (h - 1) * p ^ v + p ^ v := by
      rw [← Nat.succ_mul]
      congr 1
      omega
    rw [e]
    exact ih.snoc
  · intro v l h c m m2 hh ih
    rw [pw m, pw m2] at ih
    exact ih
/-! at most so many -/
theorem B_len {p : Nat} (hp : 2 ≤ p) : ∀ {v l h : Nat} (n : Nat), l ≤ h → h ≤ p ^ (n + 1) → (B p v l h).length ≤ 2 * ((p - 1) * n) + 1 + (if l % p = 0 then 0 else p - l % p) + h % p := by
  intro v l h n hle hn
  refine B_ind hp (C := fun v l h ks => ∀ n, h ≤ p ^ (n + 1) → ks.length ≤ 2 * ((p - 1) * n) + 1 + (if l % p = 0 then 0 else p - l % p) + h % p) ?_ ?_ ?_ ?_ (h - l) v l h (Nat.le_refl _) hle n hn
  · intro v l h e n _
    exact Nat.zero_le _
  · intro v l h c m ih n hn
    have := ih n hn
    rw [List.length_cons, if_neg m]
    have lt := Nat.mod_lt l (show 0 < p by omega)
    have key : (if (l + 1) % p = 0 then 0 else p - (l + 1) % p) + 1 = p - l % p := by
      rw [Nat.add_mod, Nat.mod_eq_of_lt (show 1 < p by omega)]
      by_cases z : l % p + 1 = p
      · rw [z, Nat.mod_self, if_pos rfl]; omega
      · rw [Nat.mod_eq_of_lt (show l % p + 1 < p by omega), if_neg (by omega)]; omega
    omega
  · intro v l h c m m2 ih n hn
    have := ih n (by omega)
    rw [List.length_append, List.length_singleton]
    have key : (h - 1) % p + 1 = h % p := by
      have e : h % p = ((h - 1) + 1) % p := by congr 1; omega
      have lt := Nat.mod_lt (h - 1) (show 0 < p by omega)
      rw [Nat.add_mod, Nat.mod_eq_of_lt (show 1 < p by omega)] at e
      by_cases z : (h - 1) % p + 1 = p
      · rw [z, Nat.mod_self] at e; omega
      · rw [Nat.mod_eq_of_lt (show (h - 1) % p + 1 < p by omega)] at e; omega
    omega
  · intro v l h c m m2 hh ih n hn
    rw [if_pos m, m2]
    cases n with
    | zero =>
      have e2 : h / p * p = h := by have := Nat.div_add_mod h p; rw [Nat.mul_comm]; omega
      have hp1 : h ≤ p := by simpa using hn
      have q1 : h / p ≤ 1 := by
        have := Nat.div_le_div_right (c := p) hp1
        rwa [Nat.div_self (by omega)] at this
      have q2 : h / p = 1 := Nat.le_antisymm q1 (Nat.lt_of_le_of_lt (Nat.zero_le _) hh)
      have q3 : l / p = 0 := by rw [q2] at hh; exact Nat.lt_one_iff.mp hh
      rw [q2, q3]
      have z : B p (v + 1) 0 1 = [(0, v + 1)] := by
        rw [B_high (by omega) (Nat.zero_mod p) (by rw [Nat.mod_eq_of_lt (by omega)]; omega), B_end (by omega)]
        rfl
      rw [z]
      exact Nat.le_add_left _ _
    | succ n =>
      have hq : h / p ≤ p ^ (n + 1) := by
        rw [Nat.pow_succ] at hn
        exact Nat.div_le_of_le_mul (by rw [Nat.mul_comm]; exact hn)
      have := ih n hq
      have a1 : (if l / p % p = 0 then 0 else p - l / p % p) ≤ p - 1 := by split <;> omega
      have a2 : h / p % p ≤ p - 1 := by have := Nat.mod_lt (h / p) (show 0 < p by omega); omega
      rw [Nat.mul_succ]
      omega
theorem B_len' {p : Nat} (hp : 2 ≤ p) {v l h : Nat} (n : Nat) (hle : l ≤ h) (hn : h ≤ p ^ (n + 1)) : (B p v l h).length ≤ 2 * (p - 1) * (n + 1) + 1 := by
  have := B_len hp (v := v) n hle hn
  have a1 : (if l % p = 0 then 0 else p - l % p) ≤ p - 1 := by split <;> omega
  have a2 : h % p ≤ p - 1 := by have := Nat.mod_lt h (show 0 < p by omega); omega
  rw [Nat.mul_assoc, Nat.mul_succ]
  omega
/-! none can be wider -/
def LowI (p F v l : Nat) : Prop := (l % p = 0 → l * p ^ v < F + p ^ (v + 1)) ∧ (l % p ≠ 0 → l / p * p ^ (v + 1) < F)
def HighI (p L v h : Nat) : Prop := L < (h / p + 1) * p ^ (v + 1)
theorem succ_mod {p l : Nat} (hp : 2 ≤ p) (m : l % p ≠ 0) : ((l + 1) % p = 0 ∧ l + 1 = (l / p + 1) * p) ∨ ((l + 1) % p ≠ 0 ∧ (l + 1) / p = l / p) := by
  have lt := Nat.mod_lt l (show 0 < p by omega)
  have dm := Nat.div_add_mod l p
  generalize hr : l % p = r at *
  generalize hq : l / p = q at *
  have e : l + 1 = (r + 1) + q * p := by rw [Nat.mul_comm q p]; omega
  by_cases z : r + 1 = p
  · left
    rw [e, z, Nat.succ_mul, Nat.add_comm]
    refine ⟨?_, rfl⟩
    rw [Nat.add_mod, Nat.mul_mod_left, Nat.mod_self]
    simp
  · right
    rw [e, Nat.add_mul_mod_self_right, Nat.add_mul_div_right _ _ (by omega), Nat.mod_eq_of_lt (by omega), Nat.div_eq_of_lt (by omega)]
    omega
theorem pred_div {p h : Nat} (hp : 2 ≤ p) (m : h % p ≠ 0) : (h - 1) / p = h / p := by
  have lt := Nat.mod_lt h (show 0 < p by omega)
  have dm := Nat.div_add_mod h p
  generalize hr : h % p = r at *
  generalize hq : h / p = q at *
  have e : h - 1 = (r - 1) + q * p := by rw [Nat.mul_comm q p]; omega
  rw [e, Nat.add_mul_div_right _ _ (by omega), Nat.div_eq_of_lt (by omega)]
  omega
theorem LowI.step {p F v l : Nat} (hp : 2 ≤ p) (m : l % p ≠ 0) (I : LowI p F v l) : LowI p F v (l + 1) := by
  have i := I.2 m
  rcases succ_mod hp m with ⟨a, b⟩ | ⟨a, b⟩
  · refine ⟨fun _ => ?_, fun z => absurd a z⟩
    rw [b, Nat.mul_assoc, Nat.mul_comm p, ← Nat.pow_succ, Nat.succ_mul]
    show l / p * p ^ (v + 1) + p ^ (v + 1) < F + p ^ (v + 1)
    omega
  · refine ⟨fun z => absurd z a, fun _ => ?_⟩
    rw [b]
    exact i
theorem LowI.up {p F v l : Nat} (hp : 2 ≤ p) (m : l % p = 0) (I : LowI p F v l) : LowI p F (v + 1) (l / p) := by
  have i := I.1 m
  rw [← pw m] at i
  generalize l / p = u at *
  constructor
  · intro _
    have : p ^ (v + 1) ≤ p ^ (v + 1 + 1) := Nat.pow_le_pow_right (by omega) (by omega)
    omega
  · intro z
    have dm := Nat.div_add_mod u p
    have e : u / p * p ^ (v + 1 + 1) + p ^ (v + 1) ≤ u * p ^ (v + 1) := by
      rw [Nat.pow_succ p (v + 1), Nat.mul_comm (p ^ (v + 1)) p, ← Nat.mul_assoc, ← Nat.succ_mul]
      apply Nat.mul_le_mul_right
      rw [Nat.mul_comm]
      omega
    omega
theorem HighI.up {p L v h : Nat} (hp : 2 ≤ p) (I : HighI p L v h) : HighI p L (v + 1) (h / p) := by
  unfold HighI at *
  generalize h / p = u at *
  refine Nat.lt_of_lt_of_le I ?_
  rw [Nat.pow_succ p (v + 1), Nat.mul_comm (p ^ (v + 1)) p, ← Nat.mul_assoc]
  apply Nat.mul_le_mul_right
  have dm := Nat.div_add_mod u p
  have lt := Nat.mod_lt u (show 0 < p by omega)
  rw [Nat.succ_mul, Nat.mul_comm]
  omega
theorem B_wide {p : Nat} (hp : 2 ≤ p) {F L v l h : Nat} (hle : l ≤ h) (hl : LowI p F v l) (hh : HighI p L v h) : ∀ x ∈ B p v l h, x.1 / p * p ^ (x.2 + 1) < F ∨ L < (x.1 / p + 1) * p ^ (x.2 + 1) := by
  refine B_ind hp (C := fun v l h ks => LowI p F v l → HighI p L v h → ∀ x ∈ ks, x.1 / p * p ^ (x.2 + 1) < F ∨ L < (x.1 / p + 1) * p ^ (x.2 + 1)) ?_ ?_ ?_ ?_ (h - l) v l h (Nat.le_refl _) hle hl hh
  · intro v l h e _ _ x hx
    cases hx
  · intro v l h c m ih il ih2 x hx
    rcases List.mem_cons.mp hx with rfl | hx
    · exact .inl (il.2 m)
    · exact ih (il.step hp m) ih2 x hx
  · intro v l h c m m2 ih il ih2 x hx
    rcases List.mem_append.mp hx with hx | hx
    · refine ih il ?_ x hx
      unfold HighI at *
      rw [pred_div hp m2]
      exact ih2
    · rw [List.mem_singleton] at hx
      subst hx
      right
      show L < ((h - 1) / p + 1) * p ^ (v + 1)
      rw [pred_div hp m2]
      exact ih2
  · intro v l h c m m2 _ ih il ih2 x hx
    exact ih (il.up hp m) (ih2.up hp) x hx
theorem B_wide0 {p f e : Nat} (hp : 2 ≤ p) (hle : f ≤ e) : ∀ x ∈ B p 0 f e, x.1 / p * p ^ (x.2 + 1) < f ∨ e < (x.1 / p + 1) * p ^ (x.2 + 1) := by
  refine B_wide hp hle ⟨fun _ => ?_, fun m => ?_⟩ ?_
  · rw [Nat.pow_zero]
    have : 0 < p ^ (0 + 1) := Nat.pow_pos (by omega)
    omega
  · have dm := Nat.div_add_mod f p
    rw [Nat.zero_add, Nat.pow_one, Nat.mul_comm]
    omega
  · unfold HighI
    have dm := Nat.div_add_mod e p
    have lt := Nat.mod_lt e (show 0 < p by omega)
    rw [Nat.zero_add, Nat.pow_one, Nat.succ_mul, Nat.mul_comm]
    omega
/-! one block -/
theorem B_one {p : Nat} (hp : 2 ≤ p) : ∀ (n v : Nat), B p v 0 (p ^ n) = [(0, v + n)]
  | 0, v => by
    rw [B_high (by simp) (Nat.zero_mod p) (by rw [Nat.pow_zero, Nat.mod_eq_of_lt (by omega)]; omega), B_end (by simp)]
    rfl
  | n + 1, v => by
    have e : p ^ (n + 1) / p = p ^ n := by rw [Nat.pow_succ, Nat.mul_div_cancel _ (by omega)]
    rw [B_up hp (Nat.pow_pos (by omega)) (Nat.zero_mod p) (by rw [Nat.pow_succ, Nat.mul_mod_left]), e, Nat.zero_div, B_one hp n (v + 1)]
    congr 2
    omega
/-- levels are low -/
theorem Chain.le {p : Nat} {ks : List (Nat × Nat)} {x y : Nat} (h : Chain p ks x y) : x ≤ y ∧ ∀ b ∈ ks, x ≤ b.1 * p ^ b.2 ∧ b.1 * p ^ b.2 + p ^ b.2 ≤ y := by
  induction h with
  | nil x => exact ⟨Nat.le_refl _, fun b hb => nomatch hb⟩
  | cons r ih =>
    refine ⟨by omega, fun b hb => ?_⟩
    rcases List.mem_cons.mp hb with rfl | hb
    · exact ⟨Nat.le_refl _, ih.1⟩
    · have := ih.2 b hb
      omega
end HB

/-! what every law here draws on: the bag, taken from -/
namespace HG
open PySem PySem.Spec PyProof.Rows L2
/-- xs[k] read ahead of xs[k] op= e -/
def rGetL (K : PySem.W.Frag) : V → V → Hp → VK → Prop := fun o i H Q => ∃ p xs k v, o = .ref p ∧ i = .int k ∧ SqL K H p xs ∧ 0 ≤ k ∧ xs[k.toNat]? = some v ∧ Q v H
theorem get_list {X : Cx} : PGet X (rGetL X.K) := by
  intro pins s σ H o i ov iv Q I ro ri h
  obtain ⟨p, xs, k, v, rfl, rfl, hq, h0, hx, q⟩ := h
  cases ro
  obtain ⟨t, rfl⟩ := ri
  obtain ⟨its, r, pl, hz⟩ := I.list hq
  obtain ⟨w, ew, rw'⟩ := r.get hx
  have hn := line63
  have hl := r.length
  have hlt : k.toNat < xs.length := (List.getElem?_eq_some_iff.mp hx).1
  exact wpAny_getItem_list pl.isList h0 (by omega) (by simpa using ew) ⟨v, H, I, rw', q⟩
theorem atI_int {α : Type} {xs : List α} {i : Int} {v : α} (h0 : 0 ≤ i) (h : xs[i.toNat]? = some v) : atI xs i = some v := by
  obtain ⟨j, rfl⟩ := Int.eq_ofNat_of_zero_le h0
  exact atI_nat h
theorem upd_self {H : Hp} {p : Addr} {o : HO} (h : H p = some o) : upd H p o = H := by
  funext b
  unfold upd
  by_cases e : b = p
  · rw [if_pos e, e, h]
  · rw [if_neg e]
theorem same_upd {H : Hp} {p : Addr} {o : HO} (h : H p = none) : Same H (upd H p o) := fun b x e => by
  rw [upd_ne (ne_of_none e h)]
  exact e
/-- the bag: its place, what is drawn from, how far -/
def bagL (b0 b1 b2 : Int) (c : Addr) : HO := .lst [.int b0, .int b1, .int b2, .ref c]
def Bag (H : Hp) (p : Addr) : Prop := ∃ (c : Addr) (b0 b1 b2 : Int) (cs : List Int), H p = some (bagL b0 b1 b2 c) ∧ H c = some (.lst (cs.map V.int)) ∧ 0 ≤ b2
theorem Bag.lst {H : Hp} {p : Addr} (B : Bag H p) : ∃ xs, H p = some (.lst xs) := let ⟨_, _, _, _, _, h, _⟩ := B; ⟨_, h⟩
theorem bag_ne {H : Hp} {p c : Addr} {b0 b1 b2 : Int} {cs : List Int} (h : H p = some (bagL b0 b1 b2 c)) (g : H c = some (.lst (cs.map V.int))) : c ≠ p := fun e => by
  subst e
  rw [h] at g
  have g := HO.lst.inj (Option.some.inj g)
  rcases cs with _ | ⟨a, _ | ⟨b, _ | ⟨d, _ | ⟨f, r⟩⟩⟩⟩ <;> simp at g
theorem Bag.same {H H' : Hp} {p : Addr} (s : Same H H') (B : Bag H p) : Bag H' p := let ⟨c, b0, b1, b2, cs, h, g, z⟩ := B; ⟨c, b0, b1, b2, cs, s _ _ h, s _ _ g, z⟩
def spBag (K : PySem.W.Frag) : Sp := fun vs H Q _ => ∃ (a : Addr) (ns : List Int), vs = [.ref a] ∧ SqL K H a (ns.map V.int) ∧ ns.length ≤ 63 ∧ ∀ p H', Same H H' → H p = none → Bag H' p → Q (.ref p) H'
def spTake : Sp := fun vs H Q _ => ∃ (p : Addr) (m : Int), vs = [.ref p, .int m] ∧ Bag H p ∧ 0 < m ∧ m.natAbs < 2 ^ 1000 ∧ ∀ (r : Int) (xs : List V), 0 ≤ r → r < m → Bag (upd H p (.lst xs)) p → Q (.int r) (upd H p (.lst xs))
/-- the bag, and none of it at q -/
def BagOff (H : Hp) (p q : Addr) : Prop := ∃ (c : Addr) (b0 b1 b2 : Int) (cs : List Int), H p = some (bagL b0 b1 b2 c) ∧ H c = some (.lst (cs.map V.int)) ∧ 0 ≤ b2 ∧ p ≠ q ∧ c ≠ q
theorem BagOff.of {H : Hp} {p q : Addr} (B : Bag H p) (n : H q = none) : BagOff H p q := let ⟨c, b0, b1, b2, cs, h, g, z⟩ := B; ⟨c, b0, b1, b2, cs, h, g, z, ne_of_none h n, ne_of_none g n⟩
theorem BagOff.bag {H : Hp} {p q : Addr} (B : BagOff H p q) : Bag H p := let ⟨c, b0, b1, b2, cs, h, g, z, _, _⟩ := B; ⟨c, b0, b1, b2, cs, h, g, z⟩
theorem BagOff.same {H H' : Hp} {p q : Addr} (s : Same H H') (B : BagOff H p q) : BagOff H' p q := let ⟨c, b0, b1, b2, cs, h, g, z, n1, n2⟩ := B; ⟨c, b0, b1, b2, cs, s _ _ h, s _ _ g, z, n1, n2⟩
theorem BagOff.off {H : Hp} {p q : Addr} {o : HO} (B : BagOff H p q) : BagOff (upd H q o) p q := let ⟨c, b0, b1, b2, cs, h, g, z, n1, n2⟩ := B; ⟨c, b0, b1, b2, cs, by rw [upd_ne n1]; exact h, by rw [upd_ne n2]; exact g, z, n1, n2⟩
theorem BagOff.upd {H : Hp} {p q : Addr} {o : HO} (B : BagOff H p q) : Bag (upd H q o) p := B.off.bag
theorem BagOff.ne {H : Hp} {p q : Addr} (B : BagOff H p q) : p ≠ q := let ⟨_, _, _, _, _, _, _, _, n1, _⟩ := B; n1
theorem BagOff.put {H : Hp} {p q c : Addr} {b0 b1 b2 x y z : Int} (B : BagOff H p q) (h : H p = some (bagL b0 b1 b2 c)) (hz : 0 ≤ z) : BagOff (L2.upd H p (bagL x y z c)) p q := by
  obtain ⟨c', d0, d1, d2, cs, h', g, _, n1, n2⟩ := B
  have n3 := bag_ne h' g
  rw [h] at h'
  have e : c = c' := by
    have := HO.lst.inj (Option.some.inj h')
    simp at this
    exact this.2.2.2
  subst e
  exact ⟨c, x, y, z, cs, upd_same, by rw [upd_ne n3]; exact g, hz, n1, n2⟩
/-- the same promise, and what the bag doesn't reach it doesn't reach behind -/
def spTake2 : Sp := fun vs H Q _ => ∃ (p : Addr) (m : Int), vs = [.ref p, .int m] ∧ Bag H p ∧ 0 < m ∧ m.natAbs < 2 ^ 1000 ∧ ∀ (r : Int) (xs : List V), 0 ≤ r → r < m → Bag (L2.upd H p (.lst xs)) p → (∀ q, BagOff H p q → BagOff (L2.upd H p (.lst xs)) p q) → Q (.int r) (L2.upd H p (.lst xs))
theorem take_imp : ∀ (vs : List V) (H : Hp) (Q : VK) (E : XK), spTake vs H Q E → spTake2 vs H Q E := fun vs H Q E ⟨p, m, e, b, h0, h1, k⟩ => ⟨p, m, e, b, h0, h1, fun r xs r0 r1 hb _ => k r xs r0 r1 hb⟩
end HG

namespace HG
open PySem PySem.Spec PyProof.Rows L2
/-! what holds of a wish holds of a weaker one -/
def MoE (t : TE) : Prop := ∀ σ H Q Q', (∀ v H1, Q v H1 → Q' v H1) → t σ H Q → t σ H Q'
def MoT (t : TT) : Prop := ∀ σ H Q Q', (∀ b H1, Q b H1 → Q' b H1) → t σ H Q → t σ H Q'
def MoA (t : TA) : Prop := ∀ σ H Q Q', (∀ vs H1, Q vs H1 → Q' vs H1) → t σ H Q → t σ H Q'
def MoR (r : R2) : Prop := ∀ x y H Q Q', (∀ v H1, Q v H1 → Q' v H1) → r x y H Q → r x y H Q'
theorem mo_var {i : Nat} : MoE (tVar i) := fun σ H Q Q' hq ⟨v, e, q⟩ => ⟨v, e, hq _ _ q⟩
theorem mo_c {v : V} : MoE (tC v) := fun σ H Q Q' hq q => hq _ _ q
theorem mo_op {r : R2} {ta tb : TE} (hr : MoR r) (ha : MoE ta) (hb : MoE tb) : MoE (tOp r ta tb) := fun σ H Q Q' hq h => ha σ H _ _ (fun x H1 h1 => hb σ H1 _ _ (fun y H2 h2 => hr x y H2 _ _ hq h2) h1) h
theorem mo_rI {C : Int → Int → Prop} {g : Int → Int → V} : MoR (rI C g) := fun x y H Q Q' hq ⟨i, j, e1, e2, c, q⟩ => ⟨i, j, e1, e2, c, hq _ _ q⟩
theorem mo_rI0 {g : Int → Int → V} : MoR (rI0 g) := fun x y H Q Q' hq ⟨i, j, e1, e2, q⟩ => ⟨i, j, e1, e2, hq _ _ q⟩
theorem mo_rEq : MoR rEq := fun x y H Q Q' hq ⟨c, q⟩ => ⟨c, hq _ _ q⟩
theorem mo_rNe : MoR rNe := fun x y H Q Q' hq ⟨c, q⟩ => ⟨c, hq _ _ q⟩
theorem mo_rIxL {K : PySem.W.Frag} : MoR (rIxL K) := fun x y H Q Q' hq ⟨p, xs, i, v, e1, e2, s, a, q⟩ => ⟨p, xs, i, v, e1, e2, s, a, hq _ _ q⟩
theorem mo_test {t : TE} (h : MoE t) : MoT (tTest t) := fun σ H Q Q' hq q => h σ H _ _ (fun v H1 ⟨k, e, q⟩ => ⟨k, e, hq _ _ q⟩) q
theorem mo_and {t u : TT} (ht : MoT t) (hu : MoT u) : MoT (tAnd t u) := fun σ H Q Q' hq q => ht σ H _ _ (fun c H1 q => by
  cases c with
  | true => exact iteT (hu σ H1 _ _ hq (by simpa using q))
  | false => exact iteF (hq _ _ (by simpa using q))) q
def MoC (r : List V → Hp → VK → Prop) : Prop := ∀ xs H Q Q', (∀ v H1, Q v H1 → Q' v H1) → r xs H Q → r xs H Q'
theorem mo_nil : MoA tNil := fun σ H Q Q' hq q => hq _ _ q
theorem mo_cons {t : TE} {u : TA} (ht : MoE t) (hu : MoA u) : MoA (tCons t u) := fun σ H Q Q' hq q => ht σ H _ _ (fun x H1 q1 => hu σ H1 _ _ (fun xs H2 q2 => hq _ _ q2) q1) q
theorem mo_cb {r : List V → Hp → VK → Prop} {t : TA} (hr : MoC r) (ht : MoA t) : MoE (tCB r t) := fun σ H Q Q' hq q => ht σ H _ _ (fun vs H1 q1 => hr vs H1 _ _ hq q1) q
end HG

namespace HG
open PySem PySem.Spec PyProof.Rows L2 HB
def kV2 (k : Nat × Nat) : HO := .tup [.int (k.1 : Int), .int (k.2 : Int)]
/-- at these places stand these pairs -/
def Tups (H : Hp) : List Addr → List (Nat × Nat) → Prop
  | [], [] => True
  | t :: ts, k :: ks => H t = some (kV2 k) ∧ Tups H ts ks
  | _, _ => False
theorem Tups.len {H : Hp} : ∀ {ts : List Addr} {ks : List (Nat × Nat)}, Tups H ts ks → ts.length = ks.length
  | [], [], _ => rfl
  | _ :: _, _ :: _, h => congrArg (· + 1) (Tups.len h.2)
  | [], _ :: _, h => h.elim
  | _ :: _, [], h => h.elim
theorem Tups.mono {H H' : Hp} (s : ∀ t k, H t = some (kV2 k) → H' t = some (kV2 k)) : ∀ {ts : List Addr} {ks : List (Nat × Nat)}, Tups H ts ks → Tups H' ts ks
  | [], [], _ => trivial
  | _ :: _, _ :: _, h => ⟨s _ _ h.1, Tups.mono s h.2⟩
  | [], _ :: _, h => h.elim
  | _ :: _, [], h => h.elim
theorem Tups.app {H : Hp} {us : List Addr} {ms : List (Nat × Nat)} (g : Tups H us ms) : ∀ {ts : List Addr} {ks : List (Nat × Nat)}, Tups H ts ks → Tups H (ts ++ us) (ks ++ ms)
  | [], [], _ => g
  | _ :: _, _ :: _, h => ⟨h.1, Tups.app g h.2⟩
  | [], _ :: _, h => h.elim
  | _ :: _, [], h => h.elim
theorem Tups.rev {H : Hp} : ∀ {ts : List Addr} {ks : List (Nat × Nat)}, Tups H ts ks → Tups H ts.reverse ks.reverse
  | [], [], _ => trivial
  | t :: ts, k :: ks, h => by
    rw [List.reverse_cons, List.reverse_cons]
    exact Tups.app (show Tups H [t] [k] from ⟨h.1, trivial⟩) (Tups.rev h.2)
  | [], _ :: _, h => h.elim
  | _ :: _, [], h => h.elim
theorem Tups.get {H : Hp} : ∀ {ts : List Addr} {ks : List (Nat × Nat)} {i : Nat} {t : Addr}, Tups H ts ks → ts[i]? = some t → ∃ k, ks[i]? = some k ∧ H t = some (kV2 k)
  | [], [], _, _, _, h => by cases h
  | t :: ts, k :: ks, 0, _, h, e => by
    cases e
    exact ⟨k, rfl, h.1⟩
  | t :: ts, k :: ks, i + 1, _, h, e => Tups.get (i := i) h.2 e
  | [], _ :: _, _, _, h, _ => h.elim
  | _ :: _, [], _, _, h, _ => h.elim
def kD (k : Nat × Nat) : PyData := .tuple [.int (k.1 : Int), .int (k.2 : Int)]
theorem Tups.dp {K : PySem.W.Frag} {H : Hp} : ∀ {ts : List Addr} {ks : List (Nat × Nat)}, Tups H ts ks → DpAll K H (ts.map V.ref) (ks.map kD)
  | [], [], _ => .nil
  | _ :: _, _ :: _, h => .cons (.tup (.of h.1) (.cons (.int _) (.cons (.int _) .nil))) (Tups.dp h.2)
  | [], _ :: _, h => h.elim
  | _ :: _, [], h => h.elim
/-- the state of the walk of blocks -/
def Inn (H : Hp) (fr bk : Addr) (p : Nat) (R : List (Nat × Nat)) (d v lo hi : Nat) (H' : Hp) : Prop :=
  lo ≤ hi ∧ hi - lo ≤ d ∧ Same H H' ∧ ∃ (ts us : List Addr) (ks ms : List (Nat × Nat)), H' fr = some (.lst (ts.map V.ref)) ∧ H' bk = some (.lst (us.map V.ref)) ∧ Tups H' ts ks ∧ Tups H' us ms ∧ ks ++ B p v lo hi ++ ms.reverse = R
theorem tup_stay {H' : Hp} {t fr : Addr} {xs ys : List V} {o : HO} (ht : H' t = none) (hf : H' fr = some (.lst xs)) : ∀ a k, H' a = some (kV2 k) → (upd (upd H' t o) fr (.lst ys)) a = some (kV2 k) := fun a k e => by
  have n1 : a ≠ fr := ne_of e hf (by intro z; cases z)
  rw [upd_ne n1, upd_ne (ne_of_none e ht)]
  exact e
theorem fr_same {H H' : Hp} {t fr : Addr} {o u : HO} (s : Same H H') (nf : H fr = none) (ht : H' t = none) : Same H (upd (upd H' t o) fr u) := fun b x e => by
  rw [upd_ne (ne_of_none e nf), upd_ne (ne_of_none e (s.free ht))]
  exact s b x e
theorem Inn.front {H H' : Hp} {fr bk : Addr} {p : Nat} {R : List (Nat × Nat)} {d v lo hi : Nat} (I : Inn H fr bk p R d v lo hi H') (nf : H fr = none) (nfb : fr ≠ bk) (c : lo < hi) (m : lo % p ≠ 0) {t : Addr} (ht : H' t = none) :
    ∃ xs, (upd H' t (kV2 (lo, v))) fr = some (.lst xs) ∧ xs.length ≤ R.length ∧ Inn H fr bk p R d v (lo + 1) hi (upd (upd H' t (kV2 (lo, v))) fr (.lst (xs ++ [.ref t]))) := by
  obtain ⟨i1, i2, s, ts, us, ks, ms, hf, hb, tf, tb, e⟩ := I
  have ntf : fr ≠ t := ne_of_none hf ht
  have ntb : bk ≠ t := ne_of_none hb ht
  refine ⟨ts.map V.ref, by rw [upd_ne ntf]; exact hf, ?_, by omega, by omega, fr_same s nf ht, ts ++ [t], us, ks ++ [(lo, v)], ms, ?_, ?_, ?_, ?_, ?_⟩
  · rw [List.length_map, tf.len, ← e, List.length_append, List.length_append]
    omega
  · rw [upd_same, List.map_append]
    rfl
  · rw [upd_ne nfb.symm, upd_ne ntb]
    exact hb
  · refine Tups.app (show Tups _ [t] [(lo, v)] from ⟨?_, trivial⟩) (tf.mono (tup_stay ht hf))
    rw [upd_ne ntf.symm, upd_same]
  · exact tb.mono (tup_stay ht hf)
  · rw [← e, B_low c m, List.append_assoc, List.append_assoc, List.append_assoc]
    rfl
theorem Inn.back {H H' : Hp} {fr bk : Addr} {p : Nat} {R : List (Nat × Nat)} {d v lo hi : Nat} (I : Inn H fr bk p R d v lo hi H') (nb : H bk = none) (nfb : fr ≠ bk) (c : lo < hi) (m : lo % p = 0) (m2 : hi % p ≠ 0) {t : Addr} (ht : H' t = none) :
    ∃ xs, (upd H' t (kV2 (hi - 1, v))) bk = some (.lst xs) ∧ xs.length ≤ R.length ∧ Inn H fr bk p R d v lo (hi - 1) (upd (upd H' t (kV2 (hi - 1, v))) bk (.lst (xs ++ [.ref t]))) := by
  obtain ⟨i1, i2, s, ts, us, ks, ms, hf, hb, tf, tb, e⟩ := I
  have ntf : fr ≠ t := ne_of_none hf ht
  have ntb : bk ≠ t := ne_of_none hb ht
  refine ⟨us.map V.ref, by rw [upd_ne ntb]; exact hb, ?_, by omega, by omega, fr_same s nb ht, ts, us ++ [t], ks, ms ++ [(hi - 1, v)], ?_, ?_, ?_, ?_, ?_⟩
  · rw [List.length_map, tb.len, ← e, List.length_append, List.length_append, List.length_reverse]
    omega
  · rw [upd_ne nfb, upd_ne ntf]
    exact hf
  · rw [upd_same, List.map_append]
    rfl
  · exact tf.mono (tup_stay ht hb)
  · refine Tups.app (show Tups _ [t] [(hi - 1, v)] from ⟨?_, trivial⟩) (tb.mono (tup_stay ht hb))
    rw [upd_ne ntb.symm, upd_same]
  · rw [← e, B_high c m m2, List.reverse_append]
    simp only [List.append_assoc]
    rfl
theorem Inn.up {H H' : Hp} {fr bk : Addr} {p : Nat} {R : List (Nat × Nat)} {d v lo hi : Nat} (hp : 2 ≤ p) (I : Inn H fr bk p R d v lo hi H') (m : lo = hi ∨ (lo % p = 0 ∧ hi % p = 0)) (hd : 0 < d) : ∃ d', d' < d ∧ Inn H fr bk p R d' (v + 1) (lo / p) (hi / p) H' ∧ hi / p - lo / p = d' := by
  obtain ⟨i1, i2, s, ts, us, ks, ms, hf, hb, tf, tb, e⟩ := I
  have key : hi / p - lo / p < d ∧ B p (v + 1) (lo / p) (hi / p) = B p v lo hi := by
    by_cases c : lo = hi
    · subst c
      rw [B_end (by omega), B_end (by omega)]
      exact ⟨by omega, rfl⟩
    · rcases m with m | ⟨m, m2⟩
      · exact absurd m c
      · have h1 := half hp (show lo < hi by omega) m m2
        exact ⟨by omega, (B_up hp (by omega) m m2).symm⟩
  refine ⟨_, key.1, ⟨Nat.div_le_div_right i1, Nat.le_refl _, s, ts, us, ks, ms, hf, hb, tf, tb, ?_⟩, rfl⟩
  rw [key.2]
  exact e
def spBlocks : Sp := fun vs H Q _ => ∃ (f l p : Nat), vs = [.int (f : Int), .int (l : Int), .int (p : Int)] ∧ f ≤ l ∧ 2 ≤ p ∧ p ≤ 4 ∧ (B p 0 f (l + 1)).length ≤ 1000 ∧
  ∀ (q : Addr) (ts : List Addr) (H' : Hp), Same H H' → H q = none → H' q = some (.lst (ts.map V.ref)) → Tups H' ts (B p 0 f (l + 1)) → Q (.ref q) H'
def spSize : Sp := fun vs H Q _ => ∃ (p m : Nat), vs = [.int (p : Int), .int (m : Int)] ∧ p < 1000 ∧ m < 1000 ∧ Q (.int ((p ^ m : Nat) : Int)) H
end HG

/-! data of any depth: it stays, it can be compared -/
namespace HG
open PySem PySem.Spec PyProof.Rows L2
theorem sqT_same {K : PySem.W.Frag} {H H' : Hp} {a : Addr} {xs : List V} (e : Same H H') (h : SqT K H a xs) : SqT K H' a xs := by
  rcases h with (h | ⟨o, h⟩) | h
  · exact .inl (.inl (e _ _ h))
  · exact .inl (.inr ⟨o, e _ _ h⟩)
  · exact .inr h
mutual
theorem dp_same {K : PySem.W.Frag} {H H' : Hp} (s : Same H H') : ∀ (d : PyData) (v : V), Dp K H v d → Dp K H' v d
  | .none, _, h => by cases h; exact .non
  | .bool b, _, h => by cases h; exact .bl b
  | .int i, _, h => by cases h; exact .int i
  | .str x, _, h => by cases h; exact .str x
  | .list ds, _, h => by
    cases h with
    | lst h1 h2 => exact .lst (s.seq h1) (dpAll_same s ds _ h2)
  | .tuple ds, _, h => by
    cases h with
    | tup h1 h2 => exact .tup (sqT_same s h1) (dpAll_same s ds _ h2)
  | .dict _, _, h => by cases h
theorem dpAll_same {K : PySem.W.Frag} {H H' : Hp} (s : Same H H') : ∀ (ds : List PyData) (vs : List V), DpAll K H vs ds → DpAll K H' vs ds
  | [], _, h => by cases h; exact .nil
  | d :: ds, _, h => by
    cases h with
    | cons h1 h2 => exact .cons (dp_same s d _ h1) (dpAll_same s ds _ h2)
end
theorem dp_lst {K : PySem.W.Frag} {H : Hp} {p : Addr} {xs : List V} {ds : List PyData} (h : DpAll K H xs ds) (np : H p = none) : Dp K (upd H p (.lst xs)) (.ref p) (.list ds) :=
  .lst (.of upd_same) (dpAll_same (same_upd np) _ _ h)
theorem dp_tup {K : PySem.W.Frag} {H : Hp} {p : Addr} {xs : List V} {ds : List PyData} (h : DpAll K H xs ds) (np : H p = none) : Dp K (upd H p (.tup xs)) (.ref p) (.tuple ds) :=
  .tup (.of upd_same) (dpAll_same (same_upd np) _ _ h)
theorem dpAll_ints {K : PySem.W.Frag} {H : Hp} : ∀ ns : List Int, DpAll K H (ns.map V.int) (ns.map PyData.int)
  | [] => .nil
  | n :: ns => .cons (.int n) (dpAll_ints ns)
theorem shaped_list {ds : List PyData} (h : ∀ d ∈ ds, PyData.canLay0 d = true ∧ PyData.depth d ≤ 40) : PyData.canLay0 (.list ds) = true ∧ SeqAt.shaped (.list ds) = true := by
  have key : PyData.canLayAll0 ds = true ∧ PyData.depthAll ds ≤ 40 := by
    induction ds with
    | nil => exact ⟨rfl, by show 0 ≤ 40; decide⟩
    | cons d ds ih =>
      obtain ⟨i1, i2⟩ := ih fun d' hd => h d' (List.mem_cons_of_mem _ hd)
      obtain ⟨j1, j2⟩ := h d List.mem_cons_self
      refine ⟨?_, ?_⟩
      · show (PyData.canLay0 d && PyData.canLayAll0 ds) = true
        rw [j1, i1]
        rfl
      · show max (PyData.depth d) (PyData.depthAll ds) ≤ 40
        omega
  refine ⟨key.1, ?_⟩
  show (PyData.canLayAll0 ds && decide (PyData.depthAll ds + 1 ≤ 64)) = true
  rw [key.1, decide_eq_true (by omega)]
  rfl
theorem shaped_ints (ns : List Int) : PyData.canLay0 (.list (ns.map PyData.int)) = true ∧ SeqAt.shaped (.list (ns.map PyData.int)) = true := shaped_list fun d hd => by
  obtain ⟨n, _, rfl⟩ := List.mem_map.mp hd
  exact ⟨rfl, by show 0 ≤ 40; decide⟩
theorem shaped_kD (ks : List (Nat × Nat)) : PyData.canLay0 (.list (ks.map kD)) = true ∧ SeqAt.shaped (.list (ks.map kD)) = true := shaped_list fun d hd => by
  obtain ⟨n, _, rfl⟩ := List.mem_map.mp hd
  exact ⟨rfl, by show 1 ≤ 40; decide⟩
end HG

/-! promises of defs that are called where no repr is under way; repr of data -/
namespace HG
open PySem PySem.Spec PyProof.Rows L2
section
variable {P : Program} {w : World} {K : PySem.W.Frag} {mg : Str → Option Value} {base : Heap} {CX : CXT} {k : Nat} {f : Addr} {fd : FuncData} {ps : List Str} {sp : Sp}
/-- as FnOk, but only for calls outside of every repr -/
structure FnG (P : Program) (w : World) (K : PySem.W.Frag) (mg : Str → Option Value) (base : Heap) (CX : CXT) (k : Nat) (f : Addr) (fd : FuncData) (ps : List Str) (sp : Sp) : Prop where
  many : ∀ vs H Q E, sp vs H Q E → vs.length = ps.length
  goes : ∀ (A : Around) (outer : List Env) (s : Shared) (H : Hp) (args : Args) (us : List Value) (vs : List V) (Q : VK) (E : XK), A.guards = some [] → Room k A → Env0 P w K mg base A outer s H →
    BindsTo s fd args (ps.zip us) → Vals vs us → sp vs H Q E → codeAny (model P w) A (.call (.ref f) args) (CR CX outer P w H s Q E) s
theorem FnG.of (F : FnOk P w K mg base CX k f fd ps sp) : FnG P w K mg base CX k f fd ps sp :=
  ⟨F.len, fun A outer s H args us vs Q E _ => F.run A outer s H args us vs Q E⟩
theorem FnG.up {j : Nat} (F : FnG P w K mg base CX j f fd ps sp) (h : j ≤ k) : FnG P w K mg base CX k f fd ps sp :=
  ⟨F.many, fun A outer s H args us vs Q E g r => F.goes A outer s H args us vs Q E g (r.mono h)⟩
/-- the end of a frame, as its caller sees it -/
theorem cr_of {A : Around} {outer : List Env} {s s' : Shared} {H : Hp} {Q : VK} {E : XK} {N : List Str} {qual : Str} {sc : Scope} {cdv : Value} {fl : Flow}
    (h : SP (cxOf CX P w K mg base N qual sc f cdv A outer s H E) [] { nx := fun _ H' => Q .non H', rt := Q } fl s') : ∀ r : Result, (r = match fl with | .ret u => (.ok (.ret u) : Result) | _ => (.ok (.ret .none) : Result)) → CR CX outer P w H s Q E r s' := by
  rintro _ rfl
  cases fl with
  | ret u => obtain ⟨v, _, H', J, rv, q⟩ := h; exact ⟨v, H', J.os, J.bare, J.base, J.hok, rv, q⟩
  | next => obtain ⟨_, H', J, q⟩ := h; exact ⟨.non, H', J.os, J.bare, J.base, J.hok, rfl, q⟩
  | brk => obtain ⟨_, _, _, q⟩ := h; exact q.elim
  | cont => obtain ⟨_, _, _, q⟩ := h; exact q.elim
/-- a def of the text keeps its promise, by its body, wherever no repr is under way -/
theorem okG {x qual : Str} {st : Stmt} {N : List Str} (F : Fun K x qual st f fd) (S : FnScope N ps (defScope st)) (len : ∀ vs H Q E, sp vs H Q E → vs.length = ps.length)
    (hb : ∀ (cdv : Value) (A : Around) (outer : List Env) (s : Shared) (H : Hp) (vs : List V) (Q : VK) (E : XK), A.guards = some [] → Room k (A.deeper (envOfC qual (defScope st) s.heap.objs.size f cdv)) → sp vs H Q E →
      ∃ t, PSs (cxOf CX P w K mg base N qual (defScope st) f cdv A outer s H E) (defBody st) t ∧ t { nx := fun _ H' => Q .non H', rt := Q } (start N vs) H) : FnG P w K mg base CX (k + 1) f fd ps sp := by
  obtain ⟨oc, od, kV, doc, pm, an, cdv, ct, osl, rfl, lk, hcd⟩ := F.ex
  refine ⟨len, fun A outer s H args us vs Q E hg hr e0 bt rv hs => ?_⟩
  have old : ∀ b o, base.get? b = some o → s.heap.get? b = some o := fun b o e => (e0.bs b o e).1
  have KX := e0.mod.kin.keeps old
  have kinds : ∀ y ∈ ps.zip us, (defScope st).names.lookup y.1 = some .local ∨ ((defScope st).names.lookup y.1 = some .cell ∧ ((cellsFrom (s.heap.objs.size + 1) (defScope st).names []).lookup y.1).isSome = true) := by
    rintro ⟨n, v⟩ hy
    exact (S.par n (List.of_mem_zip hy).1).imp id fun q => ⟨q, PySem.W.cellsFrom_some _ _ _ (.inl q)⟩
  apply codeAny_call_function hr.depth (KX _ _ lk) rfl S.co S.gen rfl (PySem.W.codeRec_of KX hcd)
  refine bt _ _ _ _ (wpAny_newFunctionEnv_cells S.kind kinds ?_)
  rintro _ rfl s1 x
  refine ⟨(e0.mod.nolimit.keeps old).keeps x.toInCall.keep, codeAny_func ?_⟩
  obtain ⟨t, ht, hq⟩ := hb cdv A outer s H vs Q E hg (hr.deeper _) hs
  refine wpAny_mono (ht.run [] s1 (start N vs) H _ (inv_start S hr.hd e0 (len _ _ _ _ hs) rv x) hq) ?_ ?_
  · intro fl s' h
    have z := cr_of h
    cases fl with
    | ret u => exact z _ rfl
    | next => exact z _ rfl
    | brk => obtain ⟨_, _, _, q⟩ := h; exact q.elim
    | cont => obtain ⟨_, _, _, q⟩ := h; exact q.elim
  · intro e s' h
    exact h
end
/-- the same of a def that nothing raised leaves -/
theorem okG0 {P : Program} {w : World} {K : PySem.W.Frag} {mg : Str → Option Value} {base : Heap} {k : Nat} {f : Addr} {fd : FuncData} {ps : List Str} {sp : Sp} {x qual : Str} {st : Stmt} {N : List Str} (F : Fun K x qual st f fd) (S : FnScope N ps (defScope st)) (len : ∀ vs H Q E, sp vs H Q E → vs.length = ps.length)
    (hb : ∀ (cdv : Value) (A : Around) (outer : List Env) (s : Shared) (H : Hp) (vs : List V) (Q : VK) (E : XK), A.guards = some [] → Room k (A.deeper (envOfC qual (defScope st) s.heap.objs.size f cdv)) → sp vs H Q E →
      ∃ t, PSs (cxOf CX0 P w K mg base N qual (defScope st) f cdv A outer s H E).nox (defBody st) t ∧ t { nx := fun _ H' => Q .non H', rt := Q } (start N vs) H) : FnG P w K mg base CX0 (k + 1) f fd ps sp := by
  refine okG F S len fun cdv A outer s H vs Q E g r h => ?_
  obtain ⟨t, ht, q⟩ := hb cdv A outer s H vs Q E g r h
  exact ⟨t, ht.nox, q⟩
section
variable {X : Cx} {CX : CXT} {k : Nat} {f : Addr} {fd : FuncData} {ps : List Str} {sp : Sp} {dvs : List V} {ds : List Value} {E : XK} {x : Str} {p pos : Pos} {e : Expr} {es : List Expr} {t : TA}
theorem runG {pins : List (Addr × Obj)} {σ : L2.St} {H : Hp} {s : Shared} {Q : VK} {us : List Value} {vs : List V} (F : FnG X.prog X.w X.K X.mg X.base CX k f fd ps sp) (hg : X.A.guards = some []) (hr : Room k X.A) (hb : Binds X.K fd ps ds) (hd : Vals dvs ds)
    (hx : Passes CX X E) (I : Inv X pins σ H s) (r : Vals vs us) (h : sp (vs ++ dvs) H Q E) : wpAny (model X.prog X.w) X.A (call (.ref f) us) (EP X pins σ Q) X.xe s := by
  have rr := r.append hd
  have bt := hb s us I.kIn (by rw [← rr.length]; exact F.many _ _ _ _ h)
  refine wpAny_call (codeAny_mono (F.goes X.A X.stack s H ⟨us, []⟩ _ _ Q E hg hr I.env0 bt rr h) ?_)
  rintro (e | fl) s' hq
  · exact hx pins σ H s e s' I hq
  · cases fl with
    | ret u => exact I.after hq
    | next => exact hq.elim
    | brk => exact hq.elim
    | cont => exact hq.elim
/-- f(e, ..) of such a def -/
theorem pe_callG (F : FnG X.prog X.w X.K X.mg X.base CX k f fd ps sp) (hg : X.A.guards = some []) (hr : Room k X.A) (gl : Gl X x) (hm : X.mg x = some (.ref f)) (hk : PySem.W.keepIn X.K (.ref f) = true) (hb : Binds X.K fd ps ds) (hd : Vals dvs ds)
    (hx : Passes CX X E) (ha : PA X (e :: es) t) (hdb : (x == ("__debug__" : Str)) = false := by decide) (he : starEach (e :: es) X.env = (false, eval e X.env) :: starEach es X.env := by rfl)
    (hpl : (backTo pos (starEach es X.env)).any (·.1) = false := by rfl) : PE X (.Call (.Name x p) (e :: es) [] pos) (tCall sp dvs E t) := by
  refine ⟨fun pins s σ H Q I h => wpAny_Call_Name_kw (ld_glob I gl hm ?_ hdb)⟩
  refine PySem.W.callWith_K (h₀ := X.base) I.ok.mod.kin hk (thn (ha.run pos pins s σ H _ I h) ?_) he hpl
  rintro us s1 ⟨vs, H1, I1, r, q⟩
  exact ⟨I1.kIn, runG F hg hr hb hd hx I1 r q⟩
end

/-! ### repr -/
def rRepr (K : PySem.W.Frag) : List V → Hp → VK → Prop := fun xs H Q => ∃ (x : V) (d : PyData), xs = [x] ∧ Dp K H x d ∧ d.canLay0 = true ∧ d.showable = true ∧ d.depth ≤ 40 ∧ d.shown.length ≤ sizeLine ∧ Q (.str d.shown) H
theorem call_reprG {X : Cx} {k : Nat} (hg : X.A.guards = some []) (hr : Room k X.A) : CallR X (.builtin "repr") (rRepr X.K) := by
  intro pins s σ H xs us Q I r h
  obtain ⟨x, d, rfl, hd, hc, hs, h40, hz, q⟩ := h
  obtain ⟨u, rfl, rx⟩ := vals1 r
  have un : X.A.units + 100 < cLine := by have := hr.un; omega
  obtain ⟨as, rd⟩ := Dp.reads I d x u hd rx
  have str : ∀ (y : Str) (h' : Heap) (tk tk' : Tok) (n : Nat), d.shown = y → (∀ b o, s.heap.get? b = some o → h'.get? b = some o) → EP X pins σ Q (.str y tk) { s with heap := h', toks := n } := by
    rintro _ h' tk tk' n rfl kk
    exact ⟨.str d.shown, H, I.kept kk, ⟨_, rfl⟩, q⟩
  cases rd with
  | none => exact PySem.P.repr_of_none (str _ _ _ 0 _ rfl fun _ _ z => z)
  | bool b => exact PySem.P.repr_of_bool (str _ _ _ 0 _ (by simp only [PyData.shown]) fun _ _ z => z)
  | int i t =>
    have hs2 : i.natAbs.log2 < 1920 := by simpa [PyData.showable] using hs
    exact PySem.P.repr_of_int hs2 (str _ _ _ 0 _ (by simp only [PyData.shown]) fun _ _ z => z)
  | str y t =>
    have hz2 : (reprText y).length ≤ sizeLine := by simpa only [PyData.shown] using hz
    exact PySem.P.repr_of_str (str _ _ _ 0 _ (by simp only [PyData.shown]) fun _ _ z => z) hz2
  | list h1 h2 h3 h4 => exact repr_of_reads' (.list h1 h2 h3 h4) hs (PyData.noDict_hsm (PyData.hasDict_of_canLay _ hc)) hg (by omega) (fun _ _ z => z) (fun h' u tk kk => str _ _ _ 0 _ rfl kk) hz
  | tuple h1 h2 h3 h4 => exact repr_of_reads' (.tuple h1 h2 h3 h4) hs (PyData.noDict_hsm (PyData.hasDict_of_canLay _ hc)) hg (by omega) (fun _ _ z => z) (fun h' u tk kk => str _ _ _ 0 _ rfl kk) hz
  | dict h1 h2 h3 h4 h5 => simp [PyData.canLay0] at hc
/-! ### the law's call -/
theorem lawG {P : Program} {w : World} {K : PySem.W.Frag} {mg mb : Str → Option Value} {CX : CXT} {k : Nat} {fa a : Addr} {fd : FuncData} {x : Str} {sp : Sp} {s₁ : Shared} {vs : List Value} {ns : List Int}
    (KX : K.In s₁.heap) (hM : s₁.heap.Ns mainGlobals mg) (hB : s₁.heap.Ns builtinsNs mb) (hbb : ∀ x : Str, x ≠ "__name__" → mb x = bootBuiltins x) (hlim : s₁.heap.NoLimit) (hg : s₁.gens = #[])
    (ha : s₁.heap.get? a = some { cls := .type "list", data := .seq vs.toArray }) (hi : IntsAre vs ns) (hl : ns.length ≤ sizeLine) (hr : Room k callerA)
    (F : ∀ base : Heap, K.In base → base.Ns mainGlobals mg → FnG P w K mg base CX k fa fd [x] sp) (hbind : ∀ (s : Shared) (u : Value), BindsTo s fd ⟨[u], []⟩ [(x, u)])
    (hsp : ∀ H : Hp, Only H → SqL K H a (ns.map V.int) → sp [.ref a] H (fun v _ => v = .bl true) fun _ _ _ => False)
    (hCX : ∀ H e s', CX [] H s₁ (fun _ _ _ => False) e s' → False) :
    codeAny (model P w) callerA (.call (.ref fa) ⟨[.ref a], []⟩) (fun r s' => r = .ok (.ret (.bool true)) ∧ OldK s₁.heap s'.heap ∧ s'.os = s₁.os ∧ AllBare s'.gens) s₁ := by
  -- the script's object, and what is tracked of it
  let sob : Obj := { cls := .type "list", data := .seq vs.toArray }
  have zs : (ns.map V.int).length ≤ sizeLine := by
    rw [List.length_map]
    exact hl
  have run : ∀ H : Hp, (∀ b u, H b = some u → b = a ∧ K.lookup a = none ∧ u = .frz sob (.lst (ns.map V.int))) → SqL K H a (ns.map V.int) →
      codeAny (model P w) callerA (.call (.ref fa) ⟨[.ref a], []⟩) (fun r s' => r = .ok (.ret (.bool true)) ∧ OldK s₁.heap s'.heap ∧ s'.os = s₁.os ∧ AllBare s'.gens) s₁ := by
    intro H hH hS
    have only : Only H := fun b => by
      cases q : H b with
      | none => exact .inl rfl
      | some u => exact .inr ⟨_, _, congrArg some (hH b u q).2.2⟩
    have ok : HOk P w H s₁.heap := fun b u q => by
      obtain ⟨rfl, _, rfl⟩ := hH b u q
      exact ⟨ha, zs, vs, _, vals_ints hi, ha⟩
    have dict : ∀ {b : Addr} {o : Obj} {es : Array DictEntry} {ep : Nat}, s₁.heap.get? b = some o → o.data = .dict es ep → H b = none := fun {b o es ep} e d => by
      cases q : H b with
      | none => rfl
      | some u =>
        obtain ⟨rfl, _⟩ := hH b u q
        rw [ha] at e
        cases e
        cases d
    have ns2 : ∀ {b : Addr} {m : Str → Option Value}, s₁.heap.Ns b m → (hidT s₁.heap H).Ns b m := by
      rintro b m ⟨o, es, ep, e, d, r⟩
      exact ⟨o, es, ep, hidT_get e (dict e d), d, r⟩
    have KB : K.In (hidT s₁.heap H) := fun b o e => by
      refine hidT_get (KX b o e) ?_
      cases q : H b with
      | none => rfl
      | some u =>
        obtain ⟨rfl, z, _⟩ := hH b u q
        rw [z] at e
        cases e
    obtain ⟨mc, l1, l2⟩ := hlim
    have M : Mod K mg (hidT s₁.heap H) := ⟨KB, ns2 hM, ⟨mb, ns2 hB, hbb⟩, mc, ns2 l1, l2⟩
    have G := F _ KB (ns2 hM)
    have e0 : Env0 P w K mg (hidT s₁.heap H) callerA [] s₁ H := ⟨rfl, M, fun _ _ e => of_hidT e, Nat.le_of_eq (hidT_size _ _), trivial, (fun b hb => nomatch hb), ok, .of_eq hg⟩
    refine codeAny_mono (G.goes callerA [] s₁ H _ [.ref a] [.ref a] _ _ rfl hr e0 (hbind s₁ _) (.cons rfl .nil) (hsp H only hS)) ?_
    rintro (e | fl) s' q
    · exact (hCX H e s' q).elim
    · cases fl with
      | next => exact q.elim
      | brk => exact q.elim
      | cont => exact q.elim
      | ret u =>
        obtain ⟨v, H', os, bare, un, ok', rv, rfl⟩ := q
        cases rv
        refine ⟨rfl, .of_keep fun b o e => ?_, os, bare⟩
        cases q : H b with
        | none => exact un.keep b o e q (fun z => nomatch z) (fun z => nomatch z)
        | some u =>
          obtain ⟨rfl, _, rfl⟩ := hH b u q
          rw [ha] at e
          cases e
          exact (ok' _ _ (un.frzs _ _ _ q)).1
  by_cases hk : K.lookup a = none
  · refine run (fun b => if b = a then some (.frz sob (.lst (ns.map V.int))) else none) (fun b u q => ?_) (.inl (.inr ⟨sob, if_pos rfl⟩))
    by_cases z : b = a
    · refine ⟨z, hk, ?_⟩
      rw [if_pos z] at q
      exact (Option.some.inj q).symm
    · rw [if_neg z] at q
      cases q
  · obtain ⟨o, ho⟩ := Option.ne_none_iff_exists'.mp hk
    have e := KX a o ho
    rw [ha] at e
    cases e
    refine run (fun _ => none) (fun b u q => nomatch q) (.inr ⟨_, vs.toArray, _, ho, rfl, rfl, rfl, ?_, vals_ints hi⟩)
    rw [List.size_toArray, hi.length]
    exact hl
/-- a law's goal, by such a promise -/
theorem walkG {l : PySem.W.OpenLaw} {k : Nat} {q : Program} {loose : List Str} {XP : (Str → Option Value) → Heap → Prop} {YP : World → Heap → Prop} {d : DefRec} {K : Params → PySem.W.Frag} {CX : CXT} {sp : PySem.W.Frag → Sp} {x : Str}
    (hn : l.most = some 63) (hdf : d.params.defaults = []) (hr : Room k callerA) (hY : ∀ (w : World) (h : Heap), YP w h → (K w.params).In h)
    (F : ∀ (w : World) (mg : Str → Option Value) (fa : Addr) (h : Heap), (K w.params).In h → h.Ns mainGlobals mg → mg d.name = some (.ref fa) →
      ∃ fd : FuncData, (∀ (s : Shared) (u : Value), BindsTo s fd ⟨[u], []⟩ [(x, u)]) ∧ ∀ base : Heap, (K w.params).In base → base.Ns mainGlobals mg → FnG l.prog w (K w.params) mg base CX k fa fd [x] (sp (K w.params)))
    (hsp : ∀ (K : PySem.W.Frag) (H : Hp) (a : Addr) (ns : List Int), ns.length ≤ 63 → SqL K H a (ns.map V.int) → sp K [.ref a] H (fun v _ => v = .bl true) fun _ _ _ => False)
    (hCX : ∀ (H : Hp) (s : Shared) (e : Value) (s' : Shared), CX [] H s (fun _ _ _ => False) e s' → False) : PySem.W.WalkO q loose XP YP l.row.toRowW d [] (fun f vs => PySem.call f vs) := by
  refine Att.attach_call hn hdf fun w s₀ s₁ mg mb fa o pm cd doc a vs ns G Y ho hd hcd hmg hobj hints hlen hg => ?_
  obtain ⟨fd, hb, hF⟩ := F w mg fa _ (hY w _ Y) G.T.g hmg
  have h24 : ns.length ≤ sizeLine := Nat.le_trans hlen (by decide)
  exact lawG (hY w _ Y) G.T.g G.T.b G.T.builtins G.T.nolimit hg hobj hints h24 hr hF hb (fun H _ hS => hsp _ H a ns hlen hS) fun H e s' => hCX H s₁ e s'
end HG

namespace HF
/-! figures of a number, the lowest first; the number of a list of rests, the foremost first -/
def low (p : Nat) : Nat → Nat → List Nat
  | 0, _ => []
  | f + 1, n => if n = 0 then [] else n % p :: low p f (n / p)
def L (p n : Nat) : List Nat := low p n n
/-- the figures of n, the foremost first -/
def figs (p n : Nat) : List Nat := (L p n).reverse
def num (p : Nat) (ds : List Nat) : Nat := ds.foldl (fun a d => a * p + d) 0
/-- of a list, the lowest first -/
def val (p : Nat) : List Nat → Nat
  | [] => 0
  | d :: r => d + p * val p r
theorem low_fuel {p : Nat} (hp : 2 ≤ p) : ∀ (f g n : Nat), n ≤ f → n ≤ g → low p f n = low p g n := by
  intro f
  induction f with
  | zero =>
    intro g n hf hg
    obtain rfl : n = 0 := by omega
    cases g <;> rfl
  | succ f ih =>
    intro g n hf hg
    cases g with
    | zero =>
      obtain rfl : n = 0 := by omega
      rfl
    | succ g =>
      unfold low
      by_cases h : n = 0
      · rw [if_pos h, if_pos h]
      · rw [if_neg h, if_neg h]
        have : n / p < n := Nat.div_lt_self (by omega) (by omega)
        rw [ih g (n / p) (by omega) (by omega)]
theorem L_zero (p : Nat) : L p 0 = [] := rfl
theorem L_pos {p n : Nat} (hp : 2 ≤ p) (hn : n ≠ 0) : L p n = n % p :: L p (n / p) := by
  obtain ⟨m, rfl⟩ : ∃ m, n = m + 1 := ⟨n - 1, by omega⟩
  unfold L
  show (if m + 1 = 0 then _ else _) = _
  rw [if_neg (by omega)]
  have : (m + 1) / p < m + 1 := Nat.div_lt_self (by omega) (by omega)
  rw [low_fuel hp m ((m + 1) / p) _ (by omega) (Nat.le_refl _)]
theorem L_ind {p : Nat} (hp : 2 ≤ p) {C : Nat → Prop} (h0 : C 0) (h1 : ∀ n, n ≠ 0 → C (n / p) → C n) (n : Nat) : C n := by
  induction n using Nat.strongRecOn with
  | _ n ih =>
    by_cases h : n = 0
    · subst h; exact h0
    · exact h1 n h (ih _ (Nat.div_lt_self (by omega) (by omega)))
theorem val_L {p : Nat} (hp : 2 ≤ p) (n : Nat) : val p (L p n) = n := by
  refine L_ind hp (C := fun n => val p (L p n) = n) rfl (fun n hn ih => ?_) n
  rw [L_pos hp hn]
  show n % p + p * val p (L p (n / p)) = n
  rw [ih]
  exact Nat.mod_add_div n p
theorem L_lt {p : Nat} (hp : 2 ≤ p) (n : Nat) : ∀ d ∈ L p n, d < p := by
  refine L_ind hp (C := fun n => ∀ d ∈ L p n, d < p) (by simp [L_zero]) (fun n hn ih d hd => ?_) n
  rw [L_pos hp hn] at hd
  rcases List.mem_cons.mp hd with rfl | hd
  · exact Nat.mod_lt _ (by omega)
  · exact ih d hd
/-- the last of L isn't 0 -/
theorem L_last {p : Nat} (hp : 2 ≤ p) (n : Nat) : ∀ d, (L p n).getLast? = some d → d ≠ 0 := by
  refine L_ind hp (C := fun n => ∀ d, (L p n).getLast? = some d → d ≠ 0) (by simp [L_zero]) (fun n hn ih d hd => ?_) n
  rw [L_pos hp hn] at hd
  by_cases z : n / p = 0
  · rw [z, L_zero] at hd
    simp at hd
    have : n % p = n := Nat.mod_eq_of_lt (by
      have := Nat.div_add_mod n p
      rw [z] at this
      have := Nat.mod_lt n (show 0 < p by omega)
      omega)
    omega
  · have e := L_pos hp z
    rw [e, List.getLast?_cons_cons] at hd
    rw [← e] at hd
    exact ih d hd
theorem L_len {p : Nat} (hp : 2 ≤ p) : ∀ (k n : Nat), n < p ^ k → (L p n).length ≤ k
  | 0, n, h => by
    obtain rfl : n = 0 := by simpa using h
    exact Nat.le_refl _
  | k + 1, n, h => by
    by_cases z : n = 0
    · subst z; exact Nat.zero_le _
    · rw [L_pos hp z, List.length_cons]
      have : n / p < p ^ k := by
        rw [Nat.div_lt_iff_lt_mul (by omega), ← Nat.pow_succ]
        exact h
      have := L_len hp k _ this
      omega
/-- a list of rests whose last isn't 0 is that of its number -/
theorem L_val {p : Nat} (hp : 2 ≤ p) : ∀ ds : List Nat, (∀ d ∈ ds, d < p) → (∀ d, ds.getLast? = some d → d ≠ 0) → L p (val p ds) = ds
  | [], _, _ => rfl
  | d :: r, h1, h2 => by
    have hd : d < p := h1 d List.mem_cons_self
    have ih := L_val hp r (fun x hx => h1 x (List.mem_cons_of_mem _ hx)) (fun x hx => by
      cases r with
      | nil => cases hx
      | cons y r => exact h2 x (by rw [List.getLast?_cons_cons]; exact hx))
    have em : (d + p * val p r) % p = d := by rw [Nat.add_mul_mod_self_left, Nat.mod_eq_of_lt hd]
    have ed : (d + p * val p r) / p = val p r := by rw [Nat.add_mul_div_left _ _ (by omega), Nat.div_eq_of_lt hd, Nat.zero_add]
    have nz : d + p * val p r ≠ 0 := by
      intro z
      have d0 : d = 0 := by omega
      have v0 : p * val p r = 0 := by omega
      have v1 : val p r = 0 := by
        rcases Nat.mul_eq_zero.mp v0 with q | q
        · omega
        · exact q
      rw [v1, L_zero] at ih
      subst ih
      exact h2 d rfl d0
    show L p (d + p * val p r) = d :: r
    rw [L_pos hp nz, em, ed, ih]
theorem num_app (p : Nat) (a b : List Nat) : num p (a ++ b) = b.foldl (fun x d => x * p + d) (num p a) := by
  unfold num
  rw [List.foldl_append]
theorem num_snoc (p : Nat) (a : List Nat) (d : Nat) : num p (a ++ [d]) = num p a * p + d := num_app p a [d]
theorem num_rev (p : Nat) : ∀ ds : List Nat, num p ds.reverse = val p ds
  | [] => rfl
  | d :: r => by
    rw [List.reverse_cons, num_snoc, num_rev p r, Nat.mul_comm, Nat.add_comm]
    rfl
theorem num_val (p : Nat) (ds : List Nat) : num p ds = val p ds.reverse := by
  rw [← num_rev, List.reverse_reverse]
theorem figs_zero (p : Nat) : figs p 0 = [] := rfl
theorem num_figs {p : Nat} (hp : 2 ≤ p) (n : Nat) : num p (figs p n) = n := by
  unfold figs
  rw [num_rev, val_L hp]
theorem figs_lt {p : Nat} (hp : 2 ≤ p) (n : Nat) : ∀ d ∈ figs p n, d < p := fun d hd => L_lt hp n d (List.mem_reverse.mp hd)
theorem figs_head {p : Nat} (hp : 2 ≤ p) (n : Nat) : ∀ d, (figs p n).head? = some d → d ≠ 0 := fun d hd => by
  unfold figs at hd
  rw [List.head?_reverse] at hd
  exact L_last hp n d hd
theorem figs_len {p : Nat} (hp : 2 ≤ p) {k n : Nat} (h : n < p ^ k) : (figs p n).length ≤ k := by
  unfold figs
  rw [List.length_reverse]
  exact L_len hp k n h
theorem figs_num {p : Nat} (hp : 2 ≤ p) {ds : List Nat} (h1 : ∀ d ∈ ds, d < p) (h2 : ∀ d, ds.head? = some d → d ≠ 0) : figs p (num p ds) = ds := by
  unfold figs
  rw [num_val, L_val hp _ (fun d hd => h1 d (List.mem_reverse.mp hd)) (fun d hd => h2 d (by rw [← List.getLast?_reverse]; exact hd)), List.reverse_reverse]
theorem num_zeros (p : Nat) : ∀ (k : Nat) (ds : List Nat), num p (List.replicate k 0 ++ ds) = num p ds
  | 0, _ => rfl
  | k + 1, ds => by
    rw [List.replicate_succ, List.cons_append]
    have e : num p (0 :: (List.replicate k 0 ++ ds)) = num p (List.replicate k 0 ++ ds) := by
      unfold num
      rw [List.foldl_cons]
      congr 1
      simp
    rw [e, num_zeros p k ds]
/-- the noughts ahead -/
def lead : List Nat → Nat
  | 0 :: r => lead r + 1
  | _ => 0
theorem lead_le : ∀ ds : List Nat, lead ds ≤ ds.length
  | [] => Nat.le_refl _
  | 0 :: r => by
    have := lead_le r
    show lead r + 1 ≤ r.length + 1
    omega
  | (_ + 1) :: _ => Nat.zero_le _
theorem lead_zero : ∀ (ds : List Nat) (i : Nat), i < lead ds → ds[i]? = some 0
  | [], _, h => absurd h (Nat.not_lt_zero _)
  | 0 :: r, 0, _ => rfl
  | 0 :: r, i + 1, h => by
    have h : i + 1 < lead r + 1 := h
    exact lead_zero r i (by omega)
  | (_ + 1) :: _, _, h => absurd h (Nat.not_lt_zero _)
theorem lead_stop : ∀ (ds : List Nat) (d : Nat), ds[lead ds]? = some d → d ≠ 0
  | [], _, h => by cases h
  | 0 :: r, d, h => lead_stop r d (by simpa [lead] using h)
  | (x + 1) :: r, d, h => by
    have h : some (x + 1) = some d := h
    have := Option.some.inj h
    omega
theorem lead_split : ∀ ds : List Nat, ds = List.replicate (lead ds) 0 ++ ds.drop (lead ds)
  | [] => rfl
  | 0 :: r => by
    show 0 :: r = List.replicate (lead r + 1) 0 ++ r.drop (lead r)
    rw [List.replicate_succ, List.cons_append]
    exact congrArg (0 :: ·) (lead_split r)
  | (_ + 1) :: _ => rfl
theorem figs_lead {p : Nat} (hp : 2 ≤ p) {ds : List Nat} (h1 : ∀ d ∈ ds, d < p) : figs p (num p ds) = ds.drop (lead ds) := by
  have e : num p ds = num p (ds.drop (lead ds)) := by
    have := congrArg (num p) (lead_split ds)
    rw [num_zeros] at this
    exact this
  rw [e]
  refine figs_num hp (fun d hd => h1 d (List.mem_of_mem_drop hd)) (fun d hd => lead_stop ds d ?_)
  rw [List.head?_drop] at hd
  exact hd
/-- the law's own sum -/
theorem val_app (p : Nat) : ∀ (a b : List Nat), val p (a ++ b) = val p a + p ^ a.length * val p b
  | [], b => by simp [val]
  | d :: r, b => by
    show d + p * val p (r ++ b) = d + p * val p r + p ^ (r.length + 1) * val p b
    rw [val_app p r b, Nat.mul_add, Nat.pow_succ, Nat.mul_comm (p ^ r.length) p, Nat.mul_assoc, Nat.add_assoc]
theorem val_lt {p : Nat} : ∀ ds : List Nat, (∀ d ∈ ds, d < p) → val p ds < p ^ ds.length
  | [], _ => by simp [val]
  | d :: r, h => by
    have hd : d < p := h d List.mem_cons_self
    have ih := val_lt r (fun x hx => h x (List.mem_cons_of_mem _ hx))
    show d + p * val p r < p ^ (r.length + 1)
    rw [Nat.pow_succ, Nat.mul_comm (p ^ r.length) p]
    have : p * (val p r + 1) ≤ p * p ^ r.length := Nat.mul_le_mul_left p ih
    rw [Nat.mul_add] at this
    omega
theorem num_lt {p : Nat} {ds : List Nat} (h : ∀ d ∈ ds, d < p) : num p ds < p ^ ds.length := by
  rw [num_val]
  have := val_lt ds.reverse (fun d hd => h d (List.mem_reverse.mp hd))
  rwa [List.length_reverse] at this
end HF

namespace HG
open PySem PySem.Spec PyProof.Rows L2 HF
def nV (d : Nat) : V := V.int (d : Int)
def nD (d : Nat) : PyData := .int (d : Int)
/-- data that can be compared and shown -/
structure Fine (d : PyData) : Prop where
  lay : d.canLay0 = true
  show_ : d.showable = true
  deep : d.depth ≤ 40
  size : d.shown.length ≤ sizeLine
theorem Fine.shaped {d : PyData} (f : Fine d) : SeqAt.shaped d = true := by
  show (d.canLay0 && decide (d.depth ≤ 64)) = true
  rw [f.lay, decide_eq_true (by have := f.deep; omega)]
  rfl
theorem fine_int {i : Int} (h : i.natAbs < 2 ^ 1000) : Fine (.int i) := by
  have hz : i.natAbs.log2 < 1920 := by
    have := PySem.Flt.log2_lt_of (by decide : 0 < 1000) h
    omega
  refine ⟨rfl, ?_, by show 0 ≤ 40; decide, ?_⟩
  · simpa [PyData.showable] using hz
  · simp only [PyData.shown]
    exact int_text_fits hz
theorem fine_list {ds : List PyData} (h : ∀ d ∈ ds, d.canLay0 = true ∧ d.showable = true ∧ d.depth ≤ 10 ∧ d.shown.length ≤ 1000) (hl : ds.length ≤ 1000) : Fine (.list ds) := by
  have key : PyData.canLayAll0 ds = true ∧ PyData.showableAll ds = true ∧ PyData.depthAll ds ≤ 10 ∧ ((PyData.shownAll ds).map (·.length)).sum ≤ 1000 * ds.length ∧ (PyData.shownAll ds).length = ds.length := by
    clear hl
    induction ds with
    | nil => exact ⟨rfl, rfl, by show 0 ≤ 10; decide, Nat.le_refl _, rfl⟩
    | cons d ds ih =>
      obtain ⟨i1, i2, i3, i4, i5⟩ := ih fun d' hd => h d' (List.mem_cons_of_mem _ hd)
      obtain ⟨j1, j2, j3, j4⟩ := h d List.mem_cons_self
      refine ⟨?_, ?_, ?_, ?_, ?_⟩
      · show (PyData.canLay0 d && PyData.canLayAll0 ds) = true
        rw [j1, i1]; rfl
      · show (PyData.showable d && PyData.showableAll ds) = true
        rw [j2, i2]; rfl
      · show max (PyData.depth d) (PyData.depthAll ds) ≤ 10
        omega
      · show ((PyData.shown d :: PyData.shownAll ds).map (·.length)).sum ≤ 1000 * (ds.length + 1)
        rw [List.map_cons, List.sum_cons]
        omega
      · show (PyData.shownAll ds).length + 1 = ds.length + 1
        rw [i5]
  obtain ⟨k1, k2, k3, k4, k5⟩ := key
  refine ⟨k1, k2, by show PyData.depthAll ds + 1 ≤ 40; omega, ?_⟩
  simp only [PyData.shown]
  have := listText_len_le (PyData.shownAll ds)
  rw [k5] at this
  have hm : 1000 * ds.length ≤ 1000 * 1000 := Nat.mul_le_mul_left _ hl
  have hz : 1000 * 1000 + 2 * 1000 + 3 ≤ sizeLine := by decide
  omega
theorem fine_nats {ds : List Nat} (h : ∀ d ∈ ds, d < 10 ^ 12) (hl : ds.length ≤ 1000) : Fine (.list (ds.map nD)) := by
  refine fine_list (fun d hd => ?_) (by rw [List.length_map]; exact hl)
  obtain ⟨n, hn, rfl⟩ := List.mem_map.mp hd
  have hn := h n hn
  have f : Fine (nD n) := fine_int (by
    have : (10 : Nat) ^ 12 < 2 ^ 1000 := by decide +kernel
    show ((n : Int)).natAbs < 2 ^ 1000
    omega)
  refine ⟨f.lay, f.show_, by show 0 ≤ 10; decide, ?_⟩
  have := PyData.shown_int_le (i := (n : Int)) (by omega)
  show (PyData.shown (.int (n : Int))).length ≤ 1000
  omega
theorem dpAll_nats {K : PySem.W.Frag} {H : Hp} : ∀ ns : List Nat, DpAll K H (ns.map nV) (ns.map nD)
  | [] => .nil
  | n :: ns => .cons (.int (n : Int)) (dpAll_nats ns)
def spFigs : Sp := fun vs H Q _ => ∃ (n p : Nat), vs = [.int (n : Int), .int (p : Int)] ∧ n < 2 ^ 1000 ∧ 2 ≤ p ∧ p ≤ 4 ∧ ∀ (q : Addr) (H' : Hp), Same H H' → H q = none → H' q = some (.lst ((figs p n).map nV)) → Q (.ref q) H'
def spNum (K : PySem.W.Frag) : Sp := fun vs H Q _ => ∃ (a : Addr) (p : Nat) (ds : List Nat), vs = [.ref a, .int (p : Int)] ∧ SqL K H a (ds.map nV) ∧ p ≤ 4 ∧ Q (.int ((num p ds : Nat) : Int)) H
def spSummed (K : PySem.W.Frag) : Sp := fun vs H Q _ => ∃ (a : Addr) (p : Nat) (ds : List Nat), vs = [.ref a, .int (p : Int)] ∧ SqL K H a (ds.map nV) ∧ p ≤ 4 ∧ (∀ d ∈ ds, d < 1000) ∧ ∀ H', Same H H' → Q (.int ((num p ds : Nat) : Int)) H'
def spRight (K : PySem.W.Frag) : Sp := fun vs H Q _ => ∃ (a : Addr) (n p : Nat), vs = [.ref a, .int (n : Int), .int (p : Int)] ∧ H a = some (.lst ((figs p n).map nV)) ∧ 2 ≤ p ∧ p ≤ 4 ∧ (figs p n).length ≤ 1000 ∧ ∀ H', Same H H' → Q (.bl true) H'
def spAlike (K : PySem.W.Frag) : Sp := fun vs H Q _ => ∃ (x y : V) (d : PyData), vs = [x, y] ∧ Dp K H x d ∧ Dp K H y d ∧ Fine d ∧ Q (.bl true) H
end HG

namespace P11
open PySem PySem.Spec PyProof.Rows L2 HG
def topS (i : Nat) : Stmt := PySem.Challenge.pw_halfpace_k11_kinds_known.main.body.getD i (.Pass ⟨0, 0, 0, 0⟩)
abbrev sWhole : Stmt := topS 5
abbrev sBeat : Stmt := topS 6
abbrev sName : Stmt := topS 7
abbrev sSmall : Stmt := topS 8
abbrev sPace : Stmt := topS 9
abbrev sBag : Stmt := topS 11
abbrev sTake : Stmt := topS 12
abbrev sAlike : Stmt := topS 13
abbrev sText : Stmt := topS 14
abbrev sThing : Stmt := topS 15
abbrev sIsNum : Stmt := topS 16
abbrev sDue : Stmt := topS 17
abbrev sAsked : Stmt := topS 18
abbrev sLaw : Stmt := topS 19
section
variable {P : Program} {w : World} {K : PySem.W.Frag} {mg : Str → Option Value} {base : Heap}
theorem scBag : FnScope ["script", "cell"] ["script"] (defScope sBag) := ⟨rfl, rfl, rfl, by decide +kernel, rfl, by decide +kernel, by decide +kernel⟩
theorem ok_bag {f : Addr} {fd : FuncData} {k : Nat} (F : Fun K "_law_bag" "_law_bag" sBag f fd) (ma : mg "abs" = none) : FnOk P w K mg base CX0 (k + 1) f fd ["script"] (spBag K) := by
  refine F.ok scBag (fun vs H Q E h => ?_) (fun cdv A outer s H vs Q E hr h => ?_)
  · obtain ⟨a, ns, rfl, _⟩ := h
    rfl
  · obtain ⟨a, ns, rfl, hS, hl, k⟩ := h
    refine ⟨_, pss_one (ps_ret (pe_lst (pa_cons pe_int (pa_cons pe_int (pa_cons pe_int (pa_cons
      (pe_lc (own := [("cell", 1)]) (g := gName 1) (tt := tYes) rfl scBag.nd (pi_list (pe_slice sl_list (pv 0) po_none (po_some pe_int))) (blkOk_by (N := ["script", "cell"]) (sc := defScope sBag) (by decide +kernel))
        (fun _ _ _ _ _ => pg_name (i := 1) scBag.nd rfl (Or.inl rfl)) (fun _ _ _ _ _ => pts_nil)
        (fun _ _ _ _ _ => pe_callB call_abs (by rfl) ma (by decide +kernel) (pa_cons (pv 1) pa_nil))) pa_nil)))))), ?_⟩
    refine ⟨.ref a, rfl, 63, rfl, a, ns.map V.int, rfl, hS, fun c nc => ?_⟩
    have hcut : cutV (ns.map V.int) none (some 63) = ns.map V.int := by
      unfold cutV
      rw [HT.sIx_none, List.drop_zero, show HT.sIx (ns.map V.int).length (ns.map V.int).length (some 63) = min 63 (ns.map V.int).length from HT.sIx_nat _ _ 63, List.length_map]
      apply List.take_of_length_le
      rw [List.length_map]
      omega
    rw [hcut]
    have s1 : Same H (upd H c (.lst (ns.map V.int))) := same_upd nc
    refine ⟨c, rfl, ⟨_, .of upd_same⟩, fun D hD => ?_⟩
    have ncD : c ≠ D := fun e => by rw [← e, upd_same] at hD; cases hD
    refine lc_list (K := K) (a := c) (xs := ns.map V.int) (fun i H' => ∃ ms : List Int, Same H H' ∧ H' c = some (.lst (ns.map V.int)) ∧ H' D = some (.lst (ms.map V.int)) ∧ ms.length = i ∧ D ≠ c) ?_ ?_ ?_ ?_
    · refine ⟨[], ?_, ?_, upd_same, rfl, ncD.symm⟩
      · exact s1.trans (same_upd hD)
      · rw [upd_ne ncD, upd_same]
    · rintro i H' hi ⟨ms, q1, q2, q3, q4, q5⟩
      exact .of q2
    · rintro i x H' hi ⟨ms, q1, q2, q3, q4, q5⟩
      obtain ⟨z, rfl⟩ : ∃ z, x = V.int z := by
        rw [List.getElem?_map] at hi
        cases e : ns[i]? with
        | none => rw [e] at hi; cases hi
        | some z => rw [e] at hi; exact ⟨z, (Option.some.inj hi).symm⟩
      have hil : i < (ns.map V.int).length := (List.getElem?_eq_some_iff.mp hi).1
      rw [List.length_map] at hil
      have hD' : H D = none := by
        have : (upd H c (.lst (ns.map V.int))) D = H D := upd_ne ncD.symm
        rw [← this]; exact hD
      refine ⟨rfl, .int z, rfl, _, rfl, ms.map V.int, q3, ?_, ms ++ [if z < 0 then -z else z], fun b o e => ?_, ?_, ?_, ?_, q5⟩
      · rw [List.length_map]; exact small1000 (by omega)
      · rw [upd_ne (ne_of_none e hD')]
        exact q1 b o e
      · rw [upd_ne ncD]; exact q2
      · rw [upd_same, List.map_append]; rfl
      · rw [List.length_append]; simp [q4]
    · rintro H' ⟨ms, q1, q2, q3, q4, q5⟩
      refine ⟨by show 4 ≤ sizeLine; decide, fun p hp => ?_⟩
      have hpn : H p = none := q1.free hp
      have nDp : D ≠ p := ne_of_none q3 hp
      exact k p _ (q1.trans (same_upd hp)) hpn ⟨D, 0, 1234567891, 0, ms, upd_same, by rw [upd_ne nDp]; exact q3, by decide⟩
theorem scTake : FnScope ["bag", "many", "cell", "value", "first", "second"] ["bag", "many"] (defScope sTake) := ⟨rfl, rfl, rfl, by decide +kernel, rfl, by decide +kernel, by decide +kernel⟩
theorem ok_take2 {f : Addr} {fd : FuncData} {k : Nat} (F : Fun K "_law_take" "_law_take" sTake f fd) (ml : mg "len" = none) : FnOk P w K mg base CX0 (k + 1) f fd ["bag", "many"] spTake2 := by
  refine F.ok scTake (fun vs H Q E h => ?_) (fun cdv A outer s H vs Q E hr h => ?_)
  · obtain ⟨p, m, rfl, _⟩ := h
    rfl
  · obtain ⟨p, m, rfl, ⟨c, b0, b1, b2, cs, hb, hc, h2⟩, hm, hm2, k⟩ := h
    have ncp : c ≠ p := bag_ne hb hc
    refine ⟨_, Evl.pss_cut (ps_if (pt_cmpR op_eq (pe_ix ix_list (pv 0) pe_int (fun _ _ => rfl)) pe_int (nomark _))
        (pss_cons (ps_set (i := 2) scTake.nd rfl (.inl rfl) pe_int)
        (Evl.pss_cut (ps_if (pt_cmpR op_lt (pe_ix ix_list (pv 0) pe_int (fun _ _ => rfl)) (pe_callB call_len_seq (by rfl) ml PySem.boot_len (pa_cons (pe_ix ix_list (pv 0) pe_int (fun _ _ => rfl)) pa_nil)) (nomark _))
            (pss_one (ps_set (i := 2) scTake.nd rfl (.inl rfl) (pe_ix ix_list (pe_ix ix_list (pv 0) pe_int (fun _ _ => rfl)) (pe_ix ix_list (pv 0) pe_int (fun _ _ => rfl)) (fun _ _ => rfl)))) pss_nil)
        (pss_cons (ps_augS (pv 0) pe_int get_list pe_int ip_add set_list)
        (Evl.pss_cut (ps_if (pt_cmpR op_ge (pv 2) pe_int (nomark _)) (pss_one (ps_asg (pv 2) (pg_sub (pv 0) pe_int set_list))) pss_nil)
        (pss_one (ps_asg (pe_op op_mod (pe_op op_add (pe_op op_add (pe_op op_mul (pe_ix ix_list (pv 0) pe_int (fun _ _ => rfl)) pe_int) (pe_op op_mod (pv 2) pe_int)) (pe_op op_mul pe_int (pe_ix ix_list (pv 0) pe_int (fun _ _ => rfl)))) pe_int) (pg_sub (pv 0) pe_int set_list))))))) pss_nil)
      (pss_cons (ps_if (pt_cmpR op_gt (pe_ix ix_list (pv 0) pe_int (fun _ _ => rfl)) pe_int (nomark _))
        (pss_cons (ps_set (i := 3) scTake.nd rfl (.inl rfl) (pe_op op_mod (pe_ix ix_list (pv 0) pe_int (fun _ _ => rfl)) (pv 1)))
        (pss_cons (ps_asg (pe_op op_fdivW (pe_ix ix_list (pv 0) pe_int (fun _ _ => rfl)) (pv 1)) (pg_sub (pv 0) pe_int set_list))
        (pss_one (ps_ret (pv 3))))) pss_nil)
      (pss_cons (ps_set (i := 4) scTake.nd rfl (.inl rfl) (pe_op op_mod (pe_op op_mul (pe_op op_add (pe_ix ix_list (pv 0) pe_int (fun _ _ => rfl)) pe_int) pe_int) pe_int))
      (pss_cons (ps_set (i := 5) scTake.nd rfl (.inl rfl) (pe_op op_mod (pe_op op_mul (pe_op op_mod (pe_op op_mul (pv 4) (pv 4)) pe_int) pe_int) pe_int))
      (pss_cons (ps_if (pt_cmpR op_gt (pv 1) pe_int (nomark _)) (pss_one (ps_ret (pe_op op_mod (pe_op op_add (pe_op op_mul (pv 5) pe_int) (pv 4)) (pv 1)))) pss_nil)
      (pss_one (ps_ret (pe_op op_mod (pe_op op_fdiv (pv 5) pe_int) (pv 1)))))))), ?_⟩
    refine ⟨fun σ H' => ∃ (o2 : Option V) (b0 b1 b2 : Int), σ = [some (.ref p), some (.int m), o2, none, none, none] ∧ H' = upd H p (bagL b0 b1 b2 c) ∧ 0 ≤ b2, ?_, ?_⟩
    · refine ⟨_, rfl, p, _, 0, .int b0, rfl, rfl, .of hb, rfl, rfl, _, rfl, ite2 (fun _ => ?_) (fun _ => ?_)⟩
      · -- cell = 0
        refine ⟨fun σ H' => H' = H ∧ ∃ z, σ = [some (.ref p), some (.int m), some (.int z), none, none, none], ?_, ?_⟩
        · refine ⟨_, rfl, p, _, 2, .int b2, rfl, rfl, .of hb, rfl, _, rfl, p, _, 3, .ref c, rfl, rfl, .of hb, rfl, c, cs.map V.int, rfl, .inl (.of hc), _, _, rfl, rfl, _, rfl, ite2 (fun hlt => ?_) (fun _ => ?_)⟩
          · have hlt := of_decide_eq_true hlt
            have hj : b2.toNat < cs.length := by rw [List.length_map] at hlt; omega
            refine ⟨_, rfl, p, _, 3, .ref c, rfl, rfl, .of hb, rfl, _, rfl, p, _, 2, .int b2, rfl, rfl, .of hb, rfl, c, cs.map V.int, b2, .int cs[b2.toNat], rfl, rfl, .of hc, ?_, rfl, _, rfl⟩
            apply atI_int h2
            rw [List.getElem?_map, List.getElem?_eq_getElem (by simpa using hj)]
            rfl
          · exact ⟨rfl, 0, rfl⟩
        · rintro σ H1 ⟨rfl, z, rfl⟩
          refine ⟨_, rfl, p, _, 2, .int b2, rfl, rfl, .of hb, by decide, rfl, _, _, rfl, rfl, p, _, 2, 2, rfl, rfl, hb, rfl, ?_⟩
          have e1 : upd H1 p (HO.lst ([V.int b0, V.int b1, V.int b2, V.ref c].set 2 (V.int (b2 + 1)))) = upd H1 p (bagL b0 b1 (b2 + 1) c) := rfl
          refine ⟨fun σ H2 => ∃ b0, H2 = upd H1 p (bagL b0 b1 (b2 + 1) c) ∧ σ = [some (.ref p), some (.int m), some (.int z), none, none, none], ?_, ?_⟩
          · refine ⟨_, rfl, _, _, rfl, rfl, _, rfl, ite2 (fun _ => ?_) (fun _ => ?_)⟩
            · refine ⟨_, rfl, _, rfl, p, _, 0, 0, rfl, rfl, upd_same, rfl, z, ?_, rfl⟩
              rw [upd_upd]
              rfl
            · exact ⟨b0, rfl, rfl⟩
          · rintro σ _ ⟨b0', rfl, rfl⟩
            refine ⟨_, rfl, p, _, 1, .int b1, rfl, rfl, .of upd_same, rfl, _, _, rfl, rfl, .inr ⟨by decide, by decide⟩, _, rfl, _, _, rfl, rfl, (by show (0 : Int) < 2147483647; decide), _, _, rfl, rfl, _, rfl, p, _, 2, .int (b2 + 1), rfl, rfl, .of upd_same, rfl, _, _, rfl, rfl, .inl ⟨by decide, by decide⟩, _, _, rfl, rfl, _, _, rfl, rfl, (by show (0 : Int) < 2147483647; decide), _, rfl, p, _, 1, 1, rfl, rfl, upd_same, rfl, _, b0', _, b2 + 1, rfl, upd_upd, by omega⟩
      · exact ⟨none, b0, b1, b2, rfl, (upd_self hb).symm, h2⟩
    · rintro σ _ ⟨o2, d0, d1, d2, rfl, rfl, hd⟩
      have hB : ∀ x y z : Int, 0 ≤ z → Bag (upd H p (bagL x y z c)) p := fun x y z hz => ⟨c, x, y, z, cs, upd_same, by rw [upd_ne ncp]; exact hc, hz⟩
      refine ⟨_, rfl, p, _, 0, .int d0, rfl, rfl, .of upd_same, rfl, _, _, rfl, rfl, _, rfl, ite2 (fun hpos => ?_) (fun _ => ?_)⟩
      · refine ⟨_, rfl, p, _, 0, .int d0, rfl, rfl, .of upd_same, rfl, _, rfl, _, _, rfl, rfl, hm, ?_⟩
        refine ⟨_, rfl, p, _, 0, .int d0, rfl, rfl, .of upd_same, rfl, _, rfl, _, _, rfl, rfl, wide_div hm hm2 (by decide) (by decide), _, rfl, p, _, 0, 0, rfl, rfl, upd_same, rfl, _, rfl, ?_⟩
        rw [upd_upd]
        exact k _ _ (Int.emod_nonneg _ (by omega)) (Int.emod_lt_of_pos _ hm) (hB _ _ _ hd) (fun q B => B.put hb hd)
      · refine ⟨_, rfl, p, _, 1, .int d1, rfl, rfl, .of upd_same, rfl, _, _, rfl, rfl, _, _, rfl, rfl, .inr ⟨by decide, by decide⟩, _, _, rfl, rfl, (by show (0 : Int) < 1000000007; decide), ?_⟩
        have hf0 : 0 ≤ (d1 + 1) * 39373 % 1000000007 := Int.emod_nonneg _ (by decide)
        have hf1 : (d1 + 1) * 39373 % 1000000007 < 1000000007 := Int.emod_lt_of_pos _ (by decide)
        generalize (d1 + 1) * 39373 % 1000000007 = fst at *
        refine ⟨_, rfl, _, rfl, _, _, rfl, rfl, .inl ⟨by omega, by omega⟩, _, _, rfl, rfl, (by show (0 : Int) < 998244353; decide), _, _, rfl, rfl, .inr ⟨by decide, by decide⟩, _, _, rfl, rfl, (by show (0 : Int) < 998244353; decide), ?_⟩
        generalize fst * fst % 998244353 * 30011 % 998244353 = snd
        refine ⟨_, rfl, _, _, rfl, rfl, _, rfl, ite2 (fun _ => ?_) (fun _ => ?_)⟩
        · refine ⟨_, rfl, _, _, rfl, rfl, .inr ⟨by decide, by decide⟩, _, rfl, _, _, rfl, rfl, _, rfl, _, _, rfl, rfl, hm, ?_⟩
          exact k _ _ (Int.emod_nonneg _ (by omega)) (Int.emod_lt_of_pos _ hm) (hB _ _ _ hd) (fun q B => B.put hb hd)
        · refine ⟨_, rfl, _, _, rfl, rfl, ⟨by decide, by decide⟩, _, rfl, _, _, rfl, rfl, hm, ?_⟩
          exact k _ _ (Int.emod_nonneg _ (by omega)) (Int.emod_lt_of_pos _ hm) (hB _ _ _ hd) (fun q B => B.put hb hd)
theorem ok_take {f : Addr} {fd : FuncData} {k : Nat} (F : Fun K "_law_take" "_law_take" sTake f fd) (ml : mg "len" = none) : FnOk P w K mg base CX0 (k + 1) f fd ["bag", "many"] spTake := (ok_take2 F ml).imp take_imp
end
end P11

namespace P11
open PySem PySem.Spec PyProof.Rows L2 HG
/-- a thing of a known kind -/
def Known (K : PySem.W.Frag) (H : Hp) : V → Prop
  | .non => True | .bl _ => True | .int _ => True
  | .str z => z.length ≤ 100 ∧ ∀ c ∈ z.cps.toList, c < 1000
  | .ref a => ∃ t : String, (t = "list" ∨ t = "tuple" ∨ t = "dict") ∧ TyX K H (.ref a) (.type t)
  | _ => False
def xInt : V → Bool | .int _ => true | .bl _ => true | _ => false
def xBool : V → Bool | .bl _ => true | _ => false
def xStr : V → Bool | .str _ => true | _ => false
theorem known_ty {K : PySem.W.Frag} {H : Hp} {x : V} (h : Known K H x) : ∃ t : String, TyX K H x (.type t) ∧ PySem.W.kitOne K (.type t) (.type "int") = some (xInt x) ∧ PySem.W.kitOne K (.type t) (.type "bool") = some (xBool x) ∧ PySem.W.kitOne K (.type t) (.type "str") = some (xStr x) := by
  cases x with
  | non => exact ⟨_, .base .non, kit_ty (show kitB "NoneType" "int" = some false by decide +kernel), kit_ty (show kitB "NoneType" "bool" = some false by decide +kernel), kit_ty (show kitB "NoneType" "str" = some false by decide +kernel)⟩
  | bl b => exact ⟨_, .base (.bl b), kit_ty (show kitB "bool" "int" = some true by decide +kernel), kit_ty (show kitB "bool" "bool" = some true by decide +kernel), kit_ty (show kitB "bool" "str" = some false by decide +kernel)⟩
  | int i => exact ⟨_, .base (.int i), kit_ty (show kitB "int" "int" = some true by decide +kernel), kit_ty (show kitB "int" "bool" = some false by decide +kernel), kit_ty (show kitB "int" "str" = some false by decide +kernel)⟩
  | str z => exact ⟨_, .base (.str z), kit_ty (show kitB "str" "int" = some false by decide +kernel), kit_ty (show kitB "str" "bool" = some false by decide +kernel), kit_ty (show kitB "str" "str" = some true by decide +kernel)⟩
  | ref a =>
    obtain ⟨t, ht, ty⟩ := h
    rcases ht with rfl | rfl | rfl
    · exact ⟨_, ty, kit_ty (show kitB "list" "int" = some false by decide +kernel), kit_ty (show kitB "list" "bool" = some false by decide +kernel), kit_ty (show kitB "list" "str" = some false by decide +kernel)⟩
    · exact ⟨_, ty, kit_ty (show kitB "tuple" "int" = some false by decide +kernel), kit_ty (show kitB "tuple" "bool" = some false by decide +kernel), kit_ty (show kitB "tuple" "str" = some false by decide +kernel)⟩
    · exact ⟨_, ty, kit_ty (show kitB "dict" "int" = some false by decide +kernel), kit_ty (show kitB "dict" "bool" = some false by decide +kernel), kit_ty (show kitB "dict" "str" = some false by decide +kernel)⟩
  | byt b => exact h.elim
  | flt b => exact h.elim
  | ty n => exact h.elim
/-! what the kinds are worth -/
def wh : V → Bool | .int _ => true | _ => false
def bt : V → Bool | .int i => decide (0 ≤ i) && decide (i ≤ 10 ^ 18) | _ => false
def pc : V → Bool | .int i => decide (2 ≤ i) && decide (i ≤ 4) | _ => false
def small (z : Str) : Bool := z.cps.toList.all fun c => decide (97 ≤ c) && decide (c ≤ 122)
def nm : V → Bool | .str z => decide (1 ≤ z.length) && (decide (z.length ≤ 8) && small z) | _ => false
theorem wh_eq (x : V) : (xInt x && !xBool x) = wh x := by cases x <;> rfl
def spK (K : PySem.W.Frag) (g : V → Bool) : Sp := fun vs H Q _ => ∃ x : V, vs = [x] ∧ Known K H x ∧ ∀ H', Same H H' → Q (.bl (g x)) H'
def spS (g : Str → Bool) : Sp := fun vs H Q _ => ∃ z : Str, vs = [.str z] ∧ z.length ≤ 100 ∧ ∀ H', Same H H' → Q (.bl (g z)) H'
section
variable {P : Program} {w : World} {K : PySem.W.Frag} {mg : Str → Option Value} {base : Heap}
theorem scW : FnScope ["thing"] ["thing"] (defScope sWhole) := ⟨rfl, rfl, rfl, by decide +kernel, rfl, by decide +kernel, by decide +kernel⟩
theorem ok_whole {f : Addr} {fd : FuncData} {k : Nat} (F : Fun K "is_whole" "is_whole" sWhole f fd) (mI : mg "isinstance" = none) (mi : mg "int" = none) (mb : mg "bool" = none) : FnOk P w K mg base CX0 (k + 1) f fd ["thing"] (spK K wh) := by
  refine F.ok scW (fun vs H Q E h => ?_) (fun cdv A outer s H vs Q E hr h => ?_)
  · obtain ⟨x, rfl, _⟩ := h
    rfl
  · obtain ⟨x, rfl, hx, k⟩ := h
    obtain ⟨t, ty, k1, k2, k3⟩ := known_ty hx
    refine ⟨_, (pss_one (ps_ret (pe_and (pe_callB (id := "isinstance") (r := rIsi K) call_isi (by rfl) mI (by decide +kernel) (pa_cons (pv 0) (pa_cons (pe_bltn (v := .ty "int") (by rfl) mi (by decide +kernel) rfl) pa_nil))) (pe_one (pe_not (pe_callB (id := "isinstance") (r := rIsi K) call_isi (by rfl) mI (by decide +kernel) (pa_cons (pv 0) (pa_cons (pe_bltn (v := .ty "bool") (by rfl) mb (by decide +kernel) rfl) pa_nil)))))))), ?_⟩
    refine ⟨_, rfl, _, _, _, _, _, rfl, .ty _, ty, k1, _, rfl, ?_⟩
    have k := k H (Same.refl _)
    rw [← wh_eq] at k
    cases e : xInt x with
    | false =>
      rw [e] at k
      exact iteF k
    | true =>
      rw [e] at k
      exact iteT ⟨_, rfl, _, _, _, _, _, rfl, .ty _, ty, k2, _, rfl, k⟩
theorem scIN : FnScope ["thing"] ["thing"] (defScope sIsNum) := ⟨rfl, rfl, rfl, by decide +kernel, rfl, by decide +kernel, by decide +kernel⟩
theorem ok_isnum {f : Addr} {fd : FuncData} {k : Nat} (F : Fun K "_law_is_number" "_law_is_number" sIsNum f fd) (mI : mg "isinstance" = none) (mi : mg "int" = none) (mb : mg "bool" = none) : FnOk P w K mg base CX0 (k + 1) f fd ["thing"] (spK K wh) := by
  refine F.ok scIN (fun vs H Q E h => ?_) (fun cdv A outer s H vs Q E hr h => ?_)
  · obtain ⟨x, rfl, _⟩ := h
    rfl
  · obtain ⟨x, rfl, hx, k⟩ := h
    obtain ⟨t, ty, k1, k2, k3⟩ := known_ty hx
    refine ⟨_, (pss_one (ps_ret (pe_and (pe_callB (id := "isinstance") (r := rIsi K) call_isi (by rfl) mI (by decide +kernel) (pa_cons (pv 0) (pa_cons (pe_bltn (v := .ty "int") (by rfl) mi (by decide +kernel) rfl) pa_nil))) (pe_one (pe_not (pe_callB (id := "isinstance") (r := rIsi K) call_isi (by rfl) mI (by decide +kernel) (pa_cons (pv 0) (pa_cons (pe_bltn (v := .ty "bool") (by rfl) mb (by decide +kernel) rfl) pa_nil)))))))), ?_⟩
    refine ⟨_, rfl, _, _, _, _, _, rfl, .ty _, ty, k1, _, rfl, ?_⟩
    have k := k H (Same.refl _)
    rw [← wh_eq] at k
    cases e : xInt x with
    | false =>
      rw [e] at k
      exact iteF k
    | true =>
      rw [e] at k
      exact iteT ⟨_, rfl, _, _, _, _, _, rfl, .ty _, ty, k2, _, rfl, k⟩
theorem scBt : FnScope ["thing"] ["thing"] (defScope sBeat) := ⟨rfl, rfl, rfl, by decide +kernel, rfl, by decide +kernel, by decide +kernel⟩
theorem ok_beat {f fW : Addr} {fd fdW : FuncData} {tk : Tok} (F : Fun K "is_beat" "is_beat" sBeat f fd) (FW : Fun K "is_whole" "is_whole" sWhole fW fdW) (bW : Binds K fdW ["thing"] []) (gW : mg "is_whole" = some (.ref fW)) (mL : mg "LAST_BEAT" = some (.int (10 ^ 18) tk))
    (mI : mg "isinstance" = none) (mi : mg "int" = none) (mb : mg "bool" = none) : FnOk P w K mg base CX0 2 f fd ["thing"] (spK K bt) := by
  have GW : FnOk P w K mg base CX0 1 fW fdW ["thing"] (spK K wh) := ok_whole FW mI mi mb
  refine F.ok scBt (fun vs H Q E h => ?_) (fun cdv A outer s H vs Q E hr h => ?_)
  · obtain ⟨x, rfl, _⟩ := h
    rfl
  · obtain ⟨x, rfl, hx, k⟩ := h
    refine ⟨_, (pss_one (ps_ret (pe_and (pe_call GW hr (by rfl) gW FW.kp bW .nil pass0 (pa_cons (pv 0) pa_nil)) (pe_one (pe_chain op_le op_le pe_int (pv 0) (pe_glob (v := .int (10 ^ 18)) rfl mL ⟨_, rfl⟩)))))), ?_⟩
    refine ⟨_, rfl, x, rfl, hx, fun H1 s1 => ⟨_, rfl, ?_⟩⟩
    have k := k H1 s1
    cases x with
    | int i =>
      refine iteT ⟨_, rfl, _, _, rfl, rfl, _, rfl, ite2 (fun c => ?_) (fun c => ?_)⟩
      · have c : (0 : Int) ≤ i := of_decide_eq_true c
        refine ⟨_, _, rfl, rfl, ?_⟩
        have e : bt (.int i) = decide (i ≤ 10 ^ 18) := by
          show (decide (0 ≤ i) && decide (i ≤ 10 ^ 18)) = _
          rw [decide_eq_true c]
          rfl
        rw [e] at k
        exact k
      · have c : ¬ (0 : Int) ≤ i := fun z => c (decide_eq_true z)
        have e : bt (.int i) = false := by
          show (decide (0 ≤ i) && decide (i ≤ 10 ^ 18)) = _
          rw [decide_eq_false c]
          rfl
        rw [e] at k
        exact k
    | non => exact iteF k
    | bl b => exact iteF k
    | str z => exact iteF k
    | ref a => exact iteF k
    | byt b => exact iteF k
    | flt b => exact iteF k
    | ty n => exact iteF k
theorem scPc : FnScope ["thing"] ["thing"] (defScope sPace) := ⟨rfl, rfl, rfl, by decide +kernel, rfl, by decide +kernel, by decide +kernel⟩
theorem ok_pace {f fW : Addr} {fd fdW : FuncData} {tk tk2 : Tok} (F : Fun K "is_pace" "is_pace" sPace f fd) (FW : Fun K "is_whole" "is_whole" sWhole fW fdW) (bW : Binds K fdW ["thing"] []) (gW : mg "is_whole" = some (.ref fW)) (mP : mg "LEAST_PACE" = some (.int 2 tk)) (mQ : mg "GREATEST_PACE" = some (.int 4 tk2))
    (mI : mg "isinstance" = none) (mi : mg "int" = none) (mb : mg "bool" = none) : FnOk P w K mg base CX0 2 f fd ["thing"] (spK K pc) := by
  have GW : FnOk P w K mg base CX0 1 fW fdW ["thing"] (spK K wh) := ok_whole FW mI mi mb
  refine F.ok scPc (fun vs H Q E h => ?_) (fun cdv A outer s H vs Q E hr h => ?_)
  · obtain ⟨x, rfl, _⟩ := h
    rfl
  · obtain ⟨x, rfl, hx, k⟩ := h
    refine ⟨_, (pss_one (ps_ret (pe_and (pe_call GW hr (by rfl) gW FW.kp bW .nil pass0 (pa_cons (pv 0) pa_nil)) (pe_one (pe_chain op_le op_le (pe_glob (v := .int 2) rfl mP ⟨_, rfl⟩) (pv 0) (pe_glob (v := .int 4) rfl mQ ⟨_, rfl⟩)))))), ?_⟩
    refine ⟨_, rfl, x, rfl, hx, fun H1 s1 => ⟨_, rfl, ?_⟩⟩
    have k := k H1 s1
    cases x with
    | int i =>
      refine iteT ⟨_, rfl, _, _, rfl, rfl, _, rfl, ite2 (fun c => ?_) (fun c => ?_)⟩
      · have c : (2 : Int) ≤ i := of_decide_eq_true c
        refine ⟨_, _, rfl, rfl, ?_⟩
        have e : pc (.int i) = decide (i ≤ 4) := by
          show (decide (2 ≤ i) && decide (i ≤ 4)) = _
          rw [decide_eq_true c]
          rfl
        rw [e] at k
        exact k
      · have c : ¬ (2 : Int) ≤ i := fun z => c (decide_eq_true z)
        have e : pc (.int i) = false := by
          show (decide (2 ≤ i) && decide (i ≤ 4)) = _
          rw [decide_eq_false c]
          rfl
        rw [e] at k
        exact k
    | non => exact iteF k
    | bl b => exact iteF k
    | str z => exact iteF k
    | ref a => exact iteF k
    | byt b => exact iteF k
    | flt b => exact iteF k
    | ty n => exact iteF k
end
end P11

namespace P11
open PySem PySem.Spec PyProof.Rows L2 HG
def fsm (c : Nat) : Bool := decide (97 ≤ c) && decide (c ≤ 122)
theorem lt_one (c d : Nat) : decide (([c] : List Nat) < [d]) = decide (c < d) := by
  by_cases h : c < d
  · rw [decide_eq_true h, decide_eq_true (List.cons_lt_cons_iff.mpr (.inl h))]
  · rw [decide_eq_false h, decide_eq_false]
    intro z
    rcases List.cons_lt_cons_iff.mp z with z | ⟨_, z⟩
    · exact h z
    · cases z
theorem lets : (Str.ofString "abcdefghijklmnopqrstuvwxyz").cps.toList = (List.range 26).map (· + 97) := by decide +kernel
theorem in_lets (c : Nat) : decide (c ∈ (Str.ofString "abcdefghijklmnopqrstuvwxyz").cps.toList) = fsm c := by
  rw [lets]
  unfold fsm
  by_cases h : 97 ≤ c ∧ c ≤ 122
  · rw [decide_eq_true h.1, decide_eq_true h.2, decide_eq_true]
    · rfl
    · exact List.mem_map.mpr ⟨c - 97, List.mem_range.mpr (by omega), by omega⟩
  · rw [decide_eq_false (p := c ∈ _)]
    · by_cases h1 : 97 ≤ c
      · rw [decide_eq_true h1, decide_eq_false (show ¬ c ≤ 122 by omega)]
        rfl
      · rw [decide_eq_false h1]
        rfl
    · intro z
      obtain ⟨d, hd, e⟩ := List.mem_map.mp z
      have := List.mem_range.mp hd
      omega
theorem cps_a : (Str.ofString "a").cps.toList = [97] := by decide +kernel
theorem cps_z : (Str.ofString "z").cps.toList = [122] := by decide +kernel
theorem eqv_nil (ds : List PyData) : PyData.eqv (.list ds) (.list []) = ds.isEmpty := by
  cases ds <;> simp [PyData.eqv, PyData.eqvAll]
section
variable {P : Program} {w : World} {K : PySem.W.Frag} {mg : Str → Option Value} {base : Heap}
theorem scSm : FnScope ["text", "sign"] ["text"] (defScope sSmall) := ⟨rfl, rfl, rfl, by decide +kernel, rfl, by decide +kernel, by decide +kernel⟩
theorem take_snoc {α β : Type} {l : List α} {i : Nat} {c : α} (f : α → β) (h : l[i]? = some c) : (l.take (i + 1)).map f = (l.take i).map f ++ [f c] := by
  rw [List.take_add_one, h, List.map_append]
  rfl
theorem at_cps {z : Str} {i : Nat} {c : Nat} (h : z.cps[i]? = some c) : z.cps.toList[i]? = some c := by
  rw [Array.getElem?_toList]
  exact h
theorem ok_small {f : Addr} {fd : FuncData} {k : Nat} (F : Fun K "_is_small" "_is_small" sSmall f fd) (mA : mg "all" = none) : FnOk P w K mg base CX0 (k + 1) f fd ["text"] (spS small) := by
  refine F.ok scSm (fun vs H Q E h => ?_) (fun cdv A outer s H vs Q E hr h => ?_)
  · obtain ⟨x, rfl, _⟩ := h
    rfl
  · obtain ⟨z, rfl, hz, k⟩ := h
    refine ⟨_, (pss_one (ps_ret (pe_callB (cr_all rfl) (by rfl) mA (by decide +kernel) (pa_cons (pe_lc (own := [("sign", 1)]) (g := gName 1) (tt := tYes) rfl scSm.nd (pi_str (pv 0)) (blkOk_by (N := ["text", "sign"]) (sc := defScope sSmall) (by decide +kernel)) (fun _ _ _ _ _ => pg_name (i := 1) scSm.nd rfl (Or.inl rfl)) (fun _ _ _ _ _ => pts_nil) (fun _ _ _ _ _ => (pe_chain op_le_str op_le_str pe_str (pv 1) pe_str))) pa_nil)))), ?_⟩
    refine ⟨_, rfl, z, rfl, fun D hD => ?_⟩
    have hsz : z.cps.size ≤ 100 := hz
    refine lc_it walk_str (fun i H' => Same H H' ∧ H' D = some (.lst (((z.cps.toList.take i).map fsm).map V.bl))) ⟨same_upd hD, upd_same⟩ (fun _ _ _ _ => trivial) ?_ ?_
    · rintro i x H0 H1 hi ⟨s1, hd⟩ ⟨rfl, c, hc, rfl⟩
      have hc2 := at_cps hc
      have fin : ∀ b : Bool, b = fsm c → ∃ acc, H1 D = some (HO.lst acc) ∧ acc.length < sizeLine ∧ Same H (upd H1 D (.lst (acc ++ [V.bl b]))) ∧ (upd H1 D (.lst (acc ++ [V.bl b]))) D = some (.lst (((z.cps.toList.take (i + 1)).map fsm).map V.bl)) := by
        rintro _ rfl
        refine ⟨_, hd, ?_, fun b o e => ?_, ?_⟩
        · rw [List.length_map, List.length_map, List.length_take]
          exact small1000 (by omega)
        · rw [upd_ne (ne_of_none e hD)]
          exact s1 _ _ e
        · rw [upd_same, take_snoc fsm hc2, List.map_append]
          rfl
      refine ⟨rfl, _, rfl, _, _, rfl, rfl, ?_⟩
      rw [cps_a]
      show ∃ k, V.bl (!decide (([c] : List Nat) < [97])) = V.bl k ∧ _
      rw [lt_one]
      refine ⟨_, rfl, ?_⟩
      by_cases h : c < 97
      · rw [decide_eq_true h]
        refine iteF (fin false ?_)
        unfold fsm
        rw [decide_eq_false (show ¬ 97 ≤ c by omega)]
        all_goals rfl
      · rw [decide_eq_false h]
        refine iteT ⟨_, _, rfl, rfl, ?_⟩
        rw [cps_z]
        refine fin _ ?_
        show (!decide (([122] : List Nat) < [c])) = fsm c
        rw [lt_one]
        unfold fsm
        rw [decide_eq_true (show 97 ≤ c by omega)]
        by_cases h2 : c ≤ 122
        · rw [decide_eq_true h2, decide_eq_false (show ¬ 122 < c by omega)]
          rfl
        · rw [decide_eq_false h2, decide_eq_true (show 122 < c by omega)]
          rfl
    · rintro H1 ⟨s1, hd⟩
      rw [List.take_of_length_le (by rw [Array.length_toList]; exact Nat.le_refl _)] at hd
      refine ⟨D, _, rfl, .of hd, ?_⟩
      have e : (z.cps.toList.map fsm).all id = small z := by
        rw [List.all_map]
        rfl
      rw [e]
      exact k _ s1
theorem scNm : FnScope ["thing"] ["thing"] (defScope sName) := ⟨rfl, rfl, rfl, by decide +kernel, rfl, by decide +kernel, by decide +kernel⟩
theorem ok_name {f fS : Addr} {fd fdS : FuncData} {tk : Tok} (F : Fun K "is_name" "is_name" sName f fd) (FS : Fun K "_is_small" "_is_small" sSmall fS fdS) (bS : Binds K fdS ["text"] []) (gS : mg "_is_small" = some (.ref fS)) (mN : mg "LONGEST_NAME" = some (.int 8 tk))
    (mI : mg "isinstance" = none) (ms : mg "str" = none) (ml : mg "len" = none) (mA : mg "all" = none) : FnOk P w K mg base CX0 2 f fd ["thing"] (spK K nm) := by
  have GS : FnOk P w K mg base CX0 1 fS fdS ["text"] (spS small) := ok_small FS mA
  refine F.ok scNm (fun vs H Q E h => ?_) (fun cdv A outer s H vs Q E hr h => ?_)
  · obtain ⟨x, rfl, _⟩ := h
    rfl
  · obtain ⟨x, rfl, hx, k⟩ := h
    obtain ⟨t, ty, k1, k2, k3⟩ := known_ty hx
    refine ⟨_, (pss_one (ps_ret (pe_and (pe_callB (id := "isinstance") (r := rIsi K) call_isi (by rfl) mI (by decide +kernel) (pa_cons (pv 0) (pa_cons (pe_bltn (v := .ty "str") (by rfl) ms (by decide +kernel) rfl) pa_nil))) (pe_and (pe_chain op_le op_le pe_int (pe_callB call_len_str (by rfl) ml PySem.boot_len (pa_cons (pv 0) pa_nil)) (pe_glob (v := .int 8) rfl mN ⟨_, rfl⟩)) (pe_one (pe_call GS hr (by rfl) gS FS.kp bS .nil pass0 (pa_cons (pv 0) pa_nil))))))), ?_⟩
    refine ⟨_, rfl, _, _, _, _, _, rfl, .ty _, ty, k3, _, rfl, ?_⟩
    cases x with
    | str z =>
      have hz : z.length ≤ 100 := hx.1
      have hz2 : z.length ≤ sizeLine := Nat.le_of_lt (small1000 (by omega))
      refine iteT ⟨_, rfl, z, rfl, hz2, _, _, rfl, rfl, _, rfl, ite2 (fun c => ?_) (fun c => ?_)⟩
      · have c : (1 : Int) ≤ (z.length : Int) := of_decide_eq_true c
        refine ⟨_, _, rfl, rfl, _, rfl, ite2 (fun c2 => ?_) (fun c2 => ?_)⟩
        · have c2 : (z.length : Int) ≤ 8 := of_decide_eq_true c2
          refine ⟨_, rfl, z, rfl, hz, fun H1 s1 => ?_⟩
          have k := k H1 s1
          have e : nm (.str z) = small z := by
            show (decide (1 ≤ z.length) && (decide (z.length ≤ 8) && small z)) = _
            rw [decide_eq_true (show 1 ≤ z.length by omega), decide_eq_true (show z.length ≤ 8 by omega)]
            rfl
          rw [e] at k
          exact k
        · have c2 : ¬ (z.length : Int) ≤ 8 := fun y => c2 (decide_eq_true y)
          have k := k H (Same.refl _)
          have e : nm (.str z) = false := by
            show (decide (1 ≤ z.length) && (decide (z.length ≤ 8) && small z)) = _
            rw [decide_eq_false (show ¬ z.length ≤ 8 by omega)]
            simp
          rw [e] at k
          exact k
      · have c : ¬ (1 : Int) ≤ (z.length : Int) := fun y => c (decide_eq_true y)
        have k := k H (Same.refl _)
        have e : nm (.str z) = false := by
          show (decide (1 ≤ z.length) && (decide (z.length ≤ 8) && small z)) = _
          rw [decide_eq_false (show ¬ 1 ≤ z.length by omega)]
          rfl
        rw [e] at k
        exact ⟨false, rfl, iteF k⟩
    | int i => exact iteF (k H (Same.refl _))
    | non => exact iteF (k H (Same.refl _))
    | bl b => exact iteF (k H (Same.refl _))
    | ref a => exact iteF (k H (Same.refl _))
    | byt b => exact iteF (k H (Same.refl _))
    | flt b => exact iteF (k H (Same.refl _))
    | ty n => exact iteF (k H (Same.refl _))
end
end P11

namespace P11
open PySem PySem.Spec PyProof.Rows L2 HG
def ans (w : Nat) (x : V) : Bool := if w = 0 then wh x else if w = 1 then bt x else if w = 2 then nm x else pc x
def sg (c : Nat) : V := .str ⟨#[c]⟩
def sgD (c : Nat) : PyData := .str ⟨#[c]⟩
theorem dpAll_sg {K : PySem.W.Frag} {H : Hp} : ∀ l : List Nat, DpAll K H (l.map sg) (l.map sgD)
  | [] => .nil
  | c :: l => .cons (.str _) (dpAll_sg l)
def spW (K : PySem.W.Frag) : Sp := fun vs H Q _ => ∃ (w : Nat) (x : V), vs = [.int (w : Int), x] ∧ w < 4 ∧ Known K H x ∧ ∀ H', Same H H' → Q (.bl (ans w x)) H'
theorem known_same {K : PySem.W.Frag} {H H' : Hp} (s : Same H H') {x : V} (h : Known K H x) : Known K H' x := by
  cases x with
  | ref a =>
    obtain ⟨t, ht, ty⟩ := h
    refine ⟨t, ht, ?_⟩
    cases ty with
    | base b =>
      cases b with
      | lst e => exact .base (.lst (s _ _ e))
      | frz e => exact .base (.frz (s _ _ e))
      | tup e => exact .base (.tup (s _ _ e))
      | dK e => exact .base (.dK (s _ _ e))
      | dT e => exact .base (.dT (s _ _ e))
    | set e => exact .set (s _ _ e)
    | kList e c => exact .kList e c
    | kTuple e c => exact .kTuple e c
    | kDict e c => exact .kDict e c
    | fTuple e => exact .fTuple (s _ _ e)
    | fDict e => exact .fDict (s _ _ e)
  | non => exact h
  | bl b => exact h
  | int i => exact h
  | str z => exact h
  | byt b => exact h
  | flt b => exact h
  | ty n => exact h
section
variable {P : Program} {w : World} {K : PySem.W.Frag} {mg : Str → Option Value} {base : Heap}
theorem scA : FnScope ["found", "due"] ["found", "due"] (defScope sAlike) := ⟨rfl, rfl, rfl, by decide +kernel, rfl, by decide +kernel, by decide +kernel⟩
theorem ok_alike {f : Addr} {fd : FuncData} {k : Nat} (F : Fun K "_law_alike" "_law_alike" sAlike f fd) (mR : mg "repr" = none) : FnG P w K mg base CX0 (k + 1) f fd ["found", "due"] (spAlike K) := by
  refine okG0 F scA (fun vs H Q E h => ?_) (fun cdv A outer s H vs Q E hg hr h => ?_)
  · obtain ⟨x, y, d, rfl, _⟩ := h
    rfl
  · obtain ⟨x, y, d, rfl, hx, hy, fd, k⟩ := h
    refine ⟨_, (pss_one (ps_ret (pe_and (pe_cmpR (op_eqD hr.units) (pv 0) (pv 1) (nomark _)) (pe_one (pe_cmpR op_eq (pe_callB (call_reprG hg hr) (by rfl) mR (by decide +kernel) (pa_cons (pv 0) pa_nil)) (pe_callB (call_reprG hg hr) (by rfl) mR (by decide +kernel) (pa_cons (pv 1) pa_nil)) (nomark _)))))), ?_⟩
    refine ⟨_, rfl, _, rfl, d, d, hx, hy, fd.shaped, fd.shaped, _, rfl, ?_⟩
    rw [SeqAt.eqv_refl _ fd.lay]
    refine iteT ⟨_, rfl, x, d, rfl, hx, fd.lay, fd.show_, fd.deep, fd.size, _, rfl, y, d, rfl, hy, fd.lay, fd.show_, fd.deep, fd.size, rfl, ?_⟩
    rw [decide_eq_true rfl]
    exact k
theorem scDu : FnScope ["way", "thing", "sign"] ["way", "thing"] (defScope sDue) := ⟨rfl, rfl, rfl, by decide +kernel, rfl, by decide +kernel, by decide +kernel⟩
theorem ok_due {f fN : Addr} {fd fdN : FuncData} (F : Fun K "_law_due" "_law_due" sDue f fd) (FN : Fun K "_law_is_number" "_law_is_number" sIsNum fN fdN) (bN : Binds K fdN ["thing"] []) (gN : mg "_law_is_number" = some (.ref fN))
    (mI : mg "isinstance" = none) (mi : mg "int" = none) (mb : mg "bool" = none) (ms : mg "str" = none) (ml : mg "len" = none) : FnOk P w K mg base CX0 2 f fd ["way", "thing"] (spW K) := by
  have GN : FnOk P w K mg base CX0 1 fN fdN ["thing"] (spK K wh) := ok_isnum FN mI mi mb
  refine F.ok scDu (fun vs H Q E h => ?_) (fun cdv A outer s H vs Q E hr h => ?_)
  · obtain ⟨w, x, rfl, _⟩ := h
    rfl
  · obtain ⟨w, x, rfl, hw, hx, k⟩ := h
    obtain ⟨t, ty, k1, k2, k3⟩ := known_ty hx
    refine ⟨_, (pss_cons (ps_if (pt_cmpR op_eq (pv 0) pe_int (nomark _))
         (pss_one (ps_ret (pe_call GN hr (by rfl) gN FN.kp bN .nil pass0 (pa_cons (pv 1) pa_nil))))
         pss_nil)
      (pss_cons (ps_if (pt_cmpR op_eq (pv 0) pe_int (nomark _))
         (pss_one (ps_ret (pe_and (pe_call GN hr (by rfl) gN FN.kp bN .nil pass0 (pa_cons (pv 1) pa_nil)) (pe_one (pe_chain op_le op_le pe_int (pv 1) (pe_op op_pow pe_int pe_int))))))
         pss_nil)
      (pss_cons (ps_if (pt_cmpR op_eq (pv 0) pe_int (nomark _))
         (pss_one (ps_ret (pe_and (pe_call GN hr (by rfl) gN FN.kp bN .nil pass0 (pa_cons (pv 1) pa_nil)) (pe_one (pe_chain op_le op_le pe_int (pv 1) pe_int)))))
         pss_nil)
      (pss_cons (ps_if (PW.pt (pw_or (pt_not (pt_val (pe_callB (id := "isinstance") (r := rIsi K) call_isi (by rfl) mI (by decide +kernel) (pa_cons (pv 1) (pa_cons (pe_bltn (v := .ty "str") (by rfl) ms (by decide +kernel) rfl) pa_nil))))) (pw_or1 (pt_not (pt_chain op_le op_le pe_int (pe_callB call_len_str (by rfl) ml PySem.boot_len (pa_cons (pv 1) pa_nil)) pe_int)))))
         (pss_one (ps_ret pe_bl))
         pss_nil)
      (pss_one (ps_ret (pe_cmpR (op_eqD hr.units) (pe_lc (own := [("sign", 2)]) (g := gName 2) rfl scDu.nd (pi_str (pv 1)) (blkOk_by (N := ["way", "thing", "sign"]) (sc := defScope sDue) (by decide +kernel)) (fun _ _ _ _ _ => pg_name (i := 2) scDu.nd rfl (Or.inl rfl)) (fun _ _ _ _ _ => pts_one (pt_cmpR op_notIn_sign (pv 2) pe_str rfl)) (fun _ _ _ _ _ => (pv 2))) (pe_lst pa_nil) (nomark _)))))))), ?_⟩
    refine ⟨_, rfl, rfl, _, rfl, ite2 (fun c0 => ?_) (fun c0 => ?_)⟩
    · have c0 : (w : Int) = 0 := V.int.inj (of_decide_eq_true c0)
      obtain rfl : w = 0 := by omega
      exact ⟨_, rfl, x, rfl, hx, fun H1 s1 => k H1 s1⟩
    have c0 : w ≠ 0 := fun z => c0 (decide_eq_true (by rw [z]; rfl))
    refine ⟨_, rfl, rfl, _, rfl, ite2 (fun c1 => ?_) (fun c1 => ?_)⟩
    · have c1 : (w : Int) = 1 := V.int.inj (of_decide_eq_true c1)
      obtain rfl : w = 1 := by omega
      refine ⟨_, rfl, x, rfl, hx, fun H1 s1 => ⟨_, rfl, ?_⟩⟩
      have k : Q (.bl (bt x)) H1 := k H1 s1
      cases x with
      | int i =>
        refine iteT ⟨_, rfl, _, _, rfl, rfl, _, rfl, ite2 (fun c => ?_) (fun c => ?_)⟩
        · have c : (0 : Int) ≤ i := of_decide_eq_true c
          refine ⟨_, _, rfl, rfl, ⟨by decide, by decide, by decide⟩, _, _, rfl, rfl, ?_⟩
          have e : bt (.int i) = decide (i ≤ 10 ^ 18) := by
            show (decide (0 ≤ i) && decide (i ≤ 10 ^ 18)) = _
            rw [decide_eq_true c]
            rfl
          rw [e] at k
          exact k
        · have c : ¬ (0 : Int) ≤ i := fun z => c (decide_eq_true z)
          have e : bt (.int i) = false := by
            show (decide (0 ≤ i) && decide (i ≤ 10 ^ 18)) = _
            rw [decide_eq_false c]
            rfl
          rw [e] at k
          exact k
      | non => exact iteF k
      | bl b => exact iteF k
      | str z => exact iteF k
      | ref a => exact iteF k
      | byt b => exact iteF k
      | flt b => exact iteF k
      | ty n => exact iteF k
    have c1 : w ≠ 1 := fun z => c1 (decide_eq_true (by rw [z]; rfl))
    refine ⟨_, rfl, rfl, _, rfl, ite2 (fun c3 => ?_) (fun c3 => ?_)⟩
    · have c3 : (w : Int) = 3 := V.int.inj (of_decide_eq_true c3)
      obtain rfl : w = 3 := by omega
      refine ⟨_, rfl, x, rfl, hx, fun H1 s1 => ⟨_, rfl, ?_⟩⟩
      have k : Q (.bl (pc x)) H1 := k H1 s1
      cases x with
      | int i =>
        refine iteT ⟨_, rfl, _, _, rfl, rfl, _, rfl, ite2 (fun c => ?_) (fun c => ?_)⟩
        · have c : (2 : Int) ≤ i := of_decide_eq_true c
          refine ⟨_, _, rfl, rfl, ?_⟩
          have e : pc (.int i) = decide (i ≤ 4) := by
            show (decide (2 ≤ i) && decide (i ≤ 4)) = _
            rw [decide_eq_true c]
            rfl
          rw [e] at k
          exact k
        · have c : ¬ (2 : Int) ≤ i := fun z => c (decide_eq_true z)
          have e : pc (.int i) = false := by
            show (decide (2 ≤ i) && decide (i ≤ 4)) = _
            rw [decide_eq_false c]
            rfl
          rw [e] at k
          exact k
      | non => exact iteF k
      | bl b => exact iteF k
      | str z => exact iteF k
      | ref a => exact iteF k
      | byt b => exact iteF k
      | flt b => exact iteF k
      | ty n => exact iteF k
    have c3 : w ≠ 3 := fun z => c3 (decide_eq_true (by rw [z]; rfl))
    obtain rfl : w = 2 := by omega
    have k : ∀ H', Same H H' → Q (.bl (nm x)) H' := k
    refine ⟨_, rfl, _, _, _, _, _, rfl, .ty _, ty, k3, _, rfl, ?_⟩
    cases x with
    | str z =>
      have hz : z.length ≤ 100 := hx.1
      have hz2 : z.length ≤ sizeLine := Nat.le_of_lt (small1000 (by omega))
      have out : ∀ b : Bool, nm (.str z) = b → ∀ H', Same H H' → Q (.bl b) H' := by
        rintro _ rfl
        exact k
      refine iteF ⟨_, rfl, z, rfl, hz2, _, _, rfl, rfl, _, rfl, ite2 (fun c => ?_) (fun c => ?_)⟩
      · have c : (1 : Int) ≤ (z.length : Int) := of_decide_eq_true c
        refine ⟨_, _, rfl, rfl, _, rfl, ite2 (fun c2 => ?_) (fun c2 => ?_)⟩
        · have c2 : ¬ (z.length : Int) ≤ 8 := fun y => by
            rw [decide_eq_true y] at c2
            cases c2
          refine out false ?_ H (Same.refl _)
          show (decide (1 ≤ z.length) && (decide (z.length ≤ 8) && small z)) = _
          rw [decide_eq_false (show ¬ z.length ≤ 8 by omega)]
          simp
        · have c2 : (z.length : Int) ≤ 8 := by
            refine Decidable.byContradiction fun y => c2 ?_
            rw [decide_eq_false y]
            rfl
          have nme : nm (.str z) = small z := by
            show (decide (1 ≤ z.length) && (decide (z.length ≤ 8) && small z)) = _
            rw [decide_eq_true (show 1 ≤ z.length by omega), decide_eq_true (show z.length ≤ 8 by omega)]
            rfl
          refine ⟨_, rfl, z, rfl, fun D hD => ?_⟩
          refine lc_it walk_str (fun i H' => Same H H' ∧ H' D = some (.lst (((z.cps.toList.take i).filter fun c => !fsm c).map sg))) ⟨same_upd hD, upd_same⟩ (fun _ _ _ _ => trivial) ?_ ?_
          · rintro i y H0 H1 hi ⟨s1, hd⟩ ⟨rfl, c, hc, rfl⟩
            have hc2 := at_cps hc
            refine ⟨rfl, _, rfl, c, _, rfl, rfl, _, rfl, ?_⟩
            rw [in_lets]
            have e1 : z.cps.toList.take (i + 1) = z.cps.toList.take i ++ [c] := by
              rw [List.take_add_one, hc2]
              rfl
            rw [e1, List.filter_append, List.filter_cons, List.filter_nil]
            cases q : fsm c with
            | true =>
              refine iteF ⟨s1, ?_⟩
              show H1 D = some (.lst ((_ ++ []).map sg))
              rw [List.append_nil]
              exact hd
            | false =>
              refine iteT ⟨_, rfl, _, hd, ?_, fun b o e => ?_, ?_⟩
              · rw [List.length_map]
                have h1 := List.length_filter_le (fun c => !fsm c) (z.cps.toList.take i)
                have h2 := List.length_take_le i z.cps.toList
                have h3 : z.cps.toList.length ≤ 100 := by rw [Array.length_toList]; exact hz
                rw [List.length_take] at h1
                exact small1000 (by omega)
              · rw [upd_ne (ne_of_none e hD)]
                exact s1 _ _ e
              · rw [upd_same]
                show _ = some (HO.lst ((_ ++ [c]).map sg))
                rw [List.map_append]
                rfl
          · rintro H1 ⟨s1, hd⟩
            rw [List.take_of_length_le (by rw [Array.length_toList]; exact Nat.le_refl _)] at hd
            refine ⟨Nat.zero_le _, fun em nem => ?_⟩
            have s2 : Same H1 (upd H1 em (.lst [])) := same_upd nem
            have sh : SeqAt.shaped (.list ((z.cps.toList.filter fun c => !fsm c).map sgD)) = true := (shaped_list fun d hd => by
              obtain ⟨c, hc, rfl⟩ := List.mem_map.mp hd
              have h1 := hx.2 c (List.mem_filter.mp hc).1
              refine ⟨?_, by show 0 ≤ 40; decide⟩
              show PyData.strOk ⟨#[c]⟩ = true
              simp [PyData.strOk]
              omega).2
            refine ⟨.list ((z.cps.toList.filter fun c => !fsm c).map sgD), .list [], .lst (.of (s2 _ _ hd)) (dpAll_sg _), .lst (.of upd_same) .nil, sh, rfl, ?_⟩
            rw [eqv_nil]
            refine out _ ?_ _ (s1.trans s2)
            rw [nme]
            have key : ∀ l : List Nat, l.all fsm = ((l.filter fun c => !fsm c).map sgD).isEmpty := by
              intro l
              induction l with
              | nil => rfl
              | cons c l ih =>
                rw [List.all_cons, List.filter_cons]
                cases q : fsm c with
                | true =>
                  rw [ih]
                  rfl
                | false => rfl
            exact key _
      · have c : ¬ (1 : Int) ≤ (z.length : Int) := fun y => c (decide_eq_true y)
        refine ⟨_, rfl, iteT ?_⟩
        refine out false ?_ H (Same.refl _)
        show (decide (1 ≤ z.length) && (decide (z.length ≤ 8) && small z)) = _
        rw [decide_eq_false (show ¬ 1 ≤ z.length by omega)]
        rfl
    | int i => exact iteT (k H (Same.refl _))
    | non => exact iteT (k H (Same.refl _))
    | bl b => exact iteT (k H (Same.refl _))
    | ref a => exact iteT (k H (Same.refl _))
    | byt b => exact iteT (k H (Same.refl _))
    | flt b => exact iteT (k H (Same.refl _))
    | ty n => exact iteT (k H (Same.refl _))
end
end P11

namespace P11
open PySem PySem.Spec PyProof.Rows L2 HG
def Keep (p : Addr) (H H' : Hp) : Prop := ∀ b o, H b = some o → b ≠ p → H' b = some o
/-- from H to H' the bag may have been drawn from, and new things made -/
def Stp (p : Addr) (H H' : Hp) : Prop := Keep p H H' ∧ Bag H' p ∧ ∀ q, BagOff H p q → BagOff H' p q
theorem Stp.trans {p : Addr} {H H1 H2 : Hp} (a : Stp p H H1) (b : Stp p H1 H2) : Stp p H H2 := ⟨fun c o e n => b.1 c o (a.1 c o e n) n, b.2.1, fun q z => b.2.2 q (a.2.2 q z)⟩
theorem Stp.same {p : Addr} {H H1 : Hp} (B : Bag H p) (s : Same H H1) : Stp p H H1 := ⟨fun c o e _ => s c o e, B.same s, fun q z => z.same s⟩
theorem Stp.take {p : Addr} {H : Hp} {xs : List V} (B : Bag (upd H p (.lst xs)) p) (k : ∀ q, BagOff H p q → BagOff (upd H p (.lst xs)) p q) : Stp p H (upd H p (.lst xs)) :=
  ⟨fun c o e n => by rw [upd_ne n]; exact e, B, k⟩
theorem BagOff.other {H : Hp} {p q D : Addr} {o : HO} (B : BagOff H p q) (C : BagOff H p D) : BagOff (upd H D o) p q := by
  obtain ⟨c, b0, b1, b2, cs, h, g, z, n1, n2⟩ := B
  obtain ⟨c', d0, d1, d2, ds, h', g', z', m1, m2⟩ := C
  rw [h] at h'
  have e : c = c' := by
    have := HO.lst.inj (Option.some.inj h')
    simp at this
    exact this.2.2.2
  subst e
  exact ⟨c, b0, b1, b2, cs, by rw [upd_ne m1]; exact h, by rw [upd_ne m2]; exact g, z, n1, n2⟩
theorem Stp.free {p D : Addr} {H H' : Hp} (s : Stp p H H') (n : H' D = none) : H D = none := by
  cases q : H D with
  | none => rfl
  | some o =>
    have nDp : D ≠ p := fun z => by
      obtain ⟨xs, hx⟩ := s.2.1.lst
      rw [z, hx] at n
      cases n
    rw [s.1 D o q nDp] at n
    cases n
/-- a thing that H doesn't know is changed -/
theorem Stp.put {p D : Addr} {H H' : Hp} {o : HO} (s : Stp p H H') (n : H D = none) (C : BagOff H' p D) : Stp p H (upd H' D o) :=
  ⟨fun c u e m => by rw [upd_ne (ne_of_none e n)]; exact s.1 c u e m, C.off.bag, fun q z => BagOff.other (s.2.2 q z) C⟩
/-- a short text -/
def Short (n : Nat) (z : Str) : Prop := z.length ≤ n ∧ ∀ c ∈ z.cps.toList, c < 1000
theorem Short.cut {n : Nat} {z : Str} (h : Short n z) (lo hi : Option Int) : Short n (cutS z lo hi) := by
  refine ⟨Nat.le_trans (cutS_length z lo hi) h.1, fun c hc => h.2 c ?_⟩
  have hc : c ∈ ((z.cps.toList.drop (HT.sIx z.length 0 lo)).take (HT.sIx z.length z.length hi - HT.sIx z.length 0 lo)).toArray.toList := hc
  exact List.mem_of_mem_drop (List.mem_of_mem_take (by simpa using hc))
theorem Short.app {n m : Nat} {z y : Str} (h : Short n z) (g : Short m y) : Short (n + m) (z ++ y) := by
  have e : (z ++ y).cps.toList = z.cps.toList ++ y.cps.toList := TL.tl_append z y
  refine ⟨?_, fun c hc => ?_⟩
  · have h1 : (z ++ y).cps.toList.length = z.cps.toList.length + y.cps.toList.length := by rw [e, List.length_append]
    have h2 : (z ++ y).length = (z ++ y).cps.toList.length := (Array.length_toList).symm
    have h3 : z.length = z.cps.toList.length := (Array.length_toList).symm
    have h4 : y.length = y.cps.toList.length := (Array.length_toList).symm
    have := h.1
    have := g.1
    omega
  · rw [e] at hc
    rcases List.mem_append.mp hc with hc | hc
    · exact h.2 c hc
    · exact g.2 c hc
def spText : Sp := fun vs H Q _ => ∃ p : Addr, vs = [.ref p] ∧ Bag H p ∧ ∀ (z : Str) (H' : Hp), Stp p H H' → Short 60 z → Q (.str z) H'
section
variable {P : Program} {w : World} {K : PySem.W.Frag} {mg : Str → Option Value} {base : Heap}
theorem scAs : FnScope ["way", "thing"] ["way", "thing"] (defScope sAsked) := ⟨rfl, rfl, rfl, by decide +kernel, rfl, by decide +kernel, by decide +kernel⟩
theorem ok_asked {f fW fB fN fP : Addr} {fd fdW fdB fdN fdP : FuncData} (F : Fun K "_law_asked" "_law_asked" sAsked f fd) (GW : FnOk P w K mg base CX0 1 fW fdW ["thing"] (spK K wh)) (kW : PySem.W.keepIn K (.ref fW) = true) (bW : Binds K fdW ["thing"] []) (gW : mg "is_whole" = some (.ref fW))
    (GB : FnOk P w K mg base CX0 2 fB fdB ["thing"] (spK K bt)) (kB : PySem.W.keepIn K (.ref fB) = true) (bB : Binds K fdB ["thing"] []) (gB : mg "is_beat" = some (.ref fB))
    (GN : FnOk P w K mg base CX0 2 fN fdN ["thing"] (spK K nm)) (kN : PySem.W.keepIn K (.ref fN) = true) (bN : Binds K fdN ["thing"] []) (gN : mg "is_name" = some (.ref fN))
    (GP : FnOk P w K mg base CX0 2 fP fdP ["thing"] (spK K pc)) (kP : PySem.W.keepIn K (.ref fP) = true) (bP : Binds K fdP ["thing"] []) (gP : mg "is_pace" = some (.ref fP)) : FnOk P w K mg base CX0 3 f fd ["way", "thing"] (spW K) := by
  refine F.ok scAs (fun vs H Q E h => ?_) (fun cdv A outer s H vs Q E hr h => ?_)
  · obtain ⟨w, x, rfl, _⟩ := h
    rfl
  · obtain ⟨w, x, rfl, hw, hx, k⟩ := h
    have hr1 : Room 1 _ := hr.mono (by decide)
    refine ⟨_, (pss_cons (ps_if (pt_cmpR op_eq (pv 0) pe_int (nomark _))
         (pss_one (ps_ret (pe_call GW hr1 (by rfl) gW kW bW .nil pass0 (pa_cons (pv 1) pa_nil))))
         pss_nil)
      (pss_cons (ps_if (pt_cmpR op_eq (pv 0) pe_int (nomark _))
         (pss_one (ps_ret (pe_call GB hr (by rfl) gB kB bB .nil pass0 (pa_cons (pv 1) pa_nil))))
         pss_nil)
      (pss_cons (ps_if (pt_cmpR op_eq (pv 0) pe_int (nomark _))
         (pss_one (ps_ret (pe_call GN hr (by rfl) gN kN bN .nil pass0 (pa_cons (pv 1) pa_nil))))
         pss_nil)
      (pss_one (ps_ret (pe_call GP hr (by rfl) gP kP bP .nil pass0 (pa_cons (pv 1) pa_nil))))))), ?_⟩
    refine ⟨_, rfl, rfl, _, rfl, ite2 (fun c0 => ?_) (fun c0 => ?_)⟩
    · have c0 : (w : Int) = 0 := V.int.inj (of_decide_eq_true c0)
      obtain rfl : w = 0 := by omega
      exact ⟨_, rfl, x, rfl, hx, fun H1 s1 => k H1 s1⟩
    have c0 : w ≠ 0 := fun z => c0 (decide_eq_true (by rw [z]; rfl))
    refine ⟨_, rfl, rfl, _, rfl, ite2 (fun c1 => ?_) (fun c1 => ?_)⟩
    · have c1 : (w : Int) = 1 := V.int.inj (of_decide_eq_true c1)
      obtain rfl : w = 1 := by omega
      exact ⟨_, rfl, x, rfl, hx, fun H1 s1 => k H1 s1⟩
    have c1 : w ≠ 1 := fun z => c1 (decide_eq_true (by rw [z]; rfl))
    refine ⟨_, rfl, rfl, _, rfl, ite2 (fun c2 => ?_) (fun c2 => ?_)⟩
    · have c2 : (w : Int) = 2 := V.int.inj (of_decide_eq_true c2)
      obtain rfl : w = 2 := by omega
      exact ⟨_, rfl, x, rfl, hx, fun H1 s1 => k H1 s1⟩
    have c2 : w ≠ 2 := fun z => c2 (decide_eq_true (by rw [z]; rfl))
    obtain rfl : w = 3 := by omega
    exact ⟨_, rfl, x, rfl, hx, fun H1 s1 => k H1 s1⟩
theorem scTx : FnScope ["bag", "letters", "found", "at", "signs", "other", "k"] ["bag"] (defScope sText) := ⟨rfl, rfl, rfl, by decide +kernel, rfl, by decide +kernel, by decide +kernel⟩
theorem str_at (z : Str) (hz : ∀ c ∈ z.cps.toList, c < 1000) {r : Int} (h0 : 0 ≤ r) (h1 : r < (z.length : Int)) : ∃ c, atI z.cps.toList r = some c ∧ c < 1000 := by
  have hl : r.toNat < z.cps.toList.length := by
    have : z.cps.toList.length = z.length := Array.length_toList
    omega
  refine ⟨z.cps.toList[r.toNat], atI_int h0 (List.getElem?_eq_getElem hl), hz _ (List.getElem_mem hl)⟩
theorem signs_ok : (Str.ofString " !\"#$&'()*+,-./0123456789:;<=>?@ABCDEFGHIJKLMNOPQRSTUVWXYZ[\\]^_`{|}~\n").length = 69 ∧ ∀ c ∈ (Str.ofString " !\"#$&'()*+,-./0123456789:;<=>?@ABCDEFGHIJKLMNOPQRSTUVWXYZ[\\]^_`{|}~\n").cps.toList, c < 1000 := by decide +kernel
theorem lets_ok : (Str.ofString "abcdefghijklmnopqrstuvwxyz").length = 26 ∧ ∀ c ∈ (Str.ofString "abcdefghijklmnopqrstuvwxyz").cps.toList, c < 1000 := by decide +kernel
theorem short_one {c : Nat} (h : c < 1000) : Short 1 ⟨#[c]⟩ := ⟨Nat.le_refl _, fun d hd => by
  have : d ∈ [c] := hd
  rw [List.mem_singleton] at this
  omega⟩
theorem short_nil : Short 0 (Str.ofString "") := ⟨Nat.le_refl _, fun d hd => by
  have e : (Str.ofString "").cps.toList = [] := by decide +kernel
  rw [e] at hd
  cases hd⟩
theorem join_sg (cs : List Nat) : Txt.join (Str.ofString "") (cs.map fun c => (⟨#[c]⟩ : Str)) = ⟨cs.toArray⟩ := by
  have e := SX.join_S [] (cs.map fun c => [c])
  rw [List.map_map] at e
  have j : ∀ l : List Nat, TL.joinL [] (l.map fun c => [c]) = l := by
    intro l
    induction l with
    | nil => rfl
    | cons c r ih =>
      cases r with
      | nil => rfl
      | cons d r =>
        show [c] ++ [] ++ TL.joinL [] ((d :: r).map fun c => [c]) = c :: d :: r
        rw [ih]
        rfl
  rw [j] at e
  exact e
theorem ok_text {f fT : Addr} {fd fdT : FuncData} (F : Fun K "_law_text" "_law_text" sText f fd) (FT : Fun K "_law_take" "_law_take" sTake fT fdT) (bT : Binds K fdT ["bag", "many"] []) (gT : mg "_law_take" = some (.ref fT)) (ml : mg "len" = none) (mr : mg "range" = none) : FnOk P w K mg base CX0 2 f fd ["bag"] spText := by
  have GT : FnOk P w K mg base CX0 1 fT fdT ["bag", "many"] spTake2 := ok_take2 FT ml
  refine F.ok scTx (fun vs H Q E h => ?_) (fun cdv A outer s H vs Q E hr h => ?_)
  · obtain ⟨p, rfl, _⟩ := h
    rfl
  · obtain ⟨p, rfl, hB, k⟩ := h
    refine ⟨_, (pss_cons (ps_set (i := 1) scTx.nd rfl (.inr rfl) pe_str)
      (Evl.pss_cut (ps_set (i := 2) scTx.nd rfl (.inl rfl) (pe_join pe_str (pe_lc (own := [("k", 6)]) (g := gName 6) (tt := tYes) rfl scTx.nd (pi_range1 rfl mr (pa_cons (pe_ix ix_list (pe_lst (pa_cons pe_int (pa_cons pe_int (pa_cons pe_int (pa_cons pe_int (pa_cons (pe_call (sp := spTake2) (k := 1) (CX := CX0) (E := E0) (dvs := []) (ds := []) GT hr (by rfl) gT FT.kp bT .nil pass0 (pa_cons (pv 0) (pa_cons pe_int pa_nil))) pa_nil)))))) (pe_call (sp := spTake2) (k := 1) (CX := CX0) (E := E0) (dvs := []) (ds := []) GT hr (by rfl) gT FT.kp bT .nil pass0 (pa_cons (pv 0) (pa_cons pe_int pa_nil))) (fun _ _ => rfl)) pa_nil)) (blkOk_by (N := ["bag", "letters", "found", "at", "signs", "other", "k"]) (sc := defScope sText) (by decide +kernel)) (fun _ _ _ _ _ => pg_name (i := 6) scTx.nd rfl (Or.inl rfl)) (fun _ _ _ _ _ => pts_nil) (fun _ _ _ _ _ => (pe_ix ix_str (pv 1) (pe_call (sp := spTake2) (k := 1) (CX := CX0) (E := E0) (dvs := []) (ds := []) GT hr (by rfl) gT FT.kp bT .nil pass0 (pa_cons (pv 0) (pa_cons pe_int pa_nil))) (fun _ _ => rfl))))))
      (Evl.pss_cut (ps_set (i := 3) scTx.nd rfl (.inl rfl) (pe_call (sp := spTake2) (k := 1) (CX := CX0) (E := E0) (dvs := []) (ds := []) GT hr (by rfl) gT FT.kp bT .nil pass0 (pa_cons (pv 0) (pa_cons (pe_op op_add (pe_callB call_len_str (by rfl) ml PySem.boot_len (pa_cons (pv 2) pa_nil)) pe_int) pa_nil))))
      (pss_cons (ps_set (i := 4) scTx.nd rfl (.inl rfl) pe_str)
      (Evl.pss_cut (ps_set (i := 5) scTx.nd rfl (.inl rfl) (pe_ix ix_list (pe_lst (pa_cons pe_str (pa_cons pe_str (pa_cons (pe_ix ix_str (pv 4) (pe_call (sp := spTake2) (k := 1) (CX := CX0) (E := E0) (dvs := []) (ds := []) GT hr (by rfl) gT FT.kp bT .nil pass0 (pa_cons (pv 0) (pa_cons (pe_callB call_len_str (by rfl) ml PySem.boot_len (pa_cons (pv 4) pa_nil)) pa_nil))) (fun _ _ => rfl)) pa_nil)))) (pe_call (sp := spTake2) (k := 1) (CX := CX0) (E := E0) (dvs := []) (ds := []) GT hr (by rfl) gT FT.kp bT .nil pass0 (pa_cons (pv 0) (pa_cons pe_int pa_nil))) (fun _ _ => rfl)))
      (pss_one (ps_ret (pe_op op_add_str (pe_op op_add_str (pe_slice sl_str (pv 2) po_none (po_some (pv 3))) (pv 5)) (pe_slice sl_str (pv 2) (po_some (pe_op op_add (pv 3) (pe_call (sp := spTake2) (k := 1) (CX := CX0) (E := E0) (dvs := []) (ds := []) GT hr (by rfl) gT FT.kp bT .nil pass0 (pa_cons (pv 0) (pa_cons pe_int pa_nil))))) po_none))))))))), ?_⟩
    refine ⟨fun σ H' => Stp p H H' ∧ ∃ z : Str, Short 9 z ∧ σ = [some (.ref p), some (.str (Str.ofString "abcdefghijklmnopqrstuvwxyz")), some (.str z), none, none, none, none], ?_, ?_⟩
    · refine ⟨⟨_, rfl⟩, _, rfl, p, 10, rfl, hB, by decide, by decide, fun r xs r0 r1 hB1 hk1 => ?_⟩
      have st1 : Stp p H (upd H p (.lst xs)) := .take hB1 hk1
      generalize upd H p (.lst xs) = H1 at *
      refine ⟨by show 5 ≤ sizeLine; decide, fun M nM => ?_⟩
      have st2 := st1.trans (.same hB1 (same_upd (o := .lst [.int 0, .int 1, .int 8, .int 9, .int r]) nM))
      have hB2 := st2.2.1
      have nMp : M ≠ p := by
        obtain ⟨ys, hy⟩ := hB1.lst
        exact fun z => by rw [z, hy] at nM; cases nM
      refine ⟨_, rfl, p, 5, rfl, hB2, by decide, by decide, fun r2 xs2 r20 r21 hB3 hk3 => ?_⟩
      have st3 := st2.trans (.take hB3 hk3)
      obtain ⟨m, hm, hm9⟩ : ∃ m : Nat, atI [V.int 0, V.int 1, V.int 8, V.int 9, V.int r] r2 = some (V.int (m : Int)) ∧ m ≤ 9 := by
        have q : r2 = 0 ∨ r2 = 1 ∨ r2 = 2 ∨ r2 = 3 ∨ r2 = 4 := by omega
        rcases q with rfl | rfl | rfl | rfl | rfl
        · exact ⟨0, rfl, by decide⟩
        · exact ⟨1, rfl, by decide⟩
        · exact ⟨8, rfl, by decide⟩
        · exact ⟨9, rfl, by decide⟩
        · refine ⟨r.toNat, ?_, by omega⟩
          rw [Int.toNat_of_nonneg r0]
          rfl
      refine ⟨M, _, r2, _, rfl, rfl, .of (by rw [upd_ne nMp, upd_same]), hm, (m : Int), rfl, by omega, by omega, fun D hD => ?_⟩
      generalize upd (upd H1 M (.lst [.int 0, .int 1, .int 8, .int 9, .int r])) p (.lst xs2) = H4 at *
      rw [Int.toNat_natCast]
      have nD : H D = none := st3.free hD
      have npD : D ≠ p := by
        obtain ⟨ys, hy⟩ := st3.2.1.lst
        exact fun z => by rw [z, hy] at hD; cases hD
      refine lc_range (lo := 0) (n := m) (fun j H' => Stp p H H' ∧ BagOff H' p D ∧ ∃ cs : List Nat, H' D = some (.lst (cs.map sg)) ∧ cs.length = j ∧ ∀ c ∈ cs, c < 1000) ?_ ?_ ?_
      · exact ⟨st3.trans (.same st3.2.1 (same_upd hD)), (BagOff.of st3.2.1 hD).same (same_upd hD), [], upd_same, rfl, fun c hc => nomatch hc⟩
      · rintro j H5 hj ⟨st5, hoff, cs, hcs, hlen, hlt⟩
        refine ⟨rfl, _, rfl, _, rfl, p, 26, rfl, st5.2.1, by decide, by decide, fun r4 xs4 r40 r41 hB6 hk6 => ?_⟩
        have st6 := st5.trans (.take hB6 hk6)
        have hoff6 := hk6 D hoff
        have hcs6 : (upd H5 p (.lst xs4)) D = some (.lst (cs.map sg)) := by rw [upd_ne npD]; exact hcs
        generalize upd H5 p (.lst xs4) = H6 at *
        obtain ⟨c, hc, hc1⟩ := str_at _ lets_ok.2 r40 (by rw [lets_ok.1]; exact r41)
        refine ⟨_, r4, c, rfl, rfl, by rw [lets_ok.1]; decide, hc, _, hcs6, ?_, st6.put nD hoff6, hoff6.off, cs ++ [c], ?_, ?_, ?_⟩
        · rw [List.length_map]
          exact small1000 (by omega)
        · rw [upd_same, List.map_append]
          rfl
        · rw [List.length_append, hlen]
          rfl
        · intro d hd
          rcases List.mem_append.mp hd with hd | hd
          · exact hlt d hd
          · rw [List.mem_singleton] at hd
            omega
      · rintro H5 ⟨st5, hoff, cs, hcs, hlen, hlt⟩
        have ecs : cs.map sg = (cs.map fun c => (⟨#[c]⟩ : Str)).map V.str := by
          rw [List.map_map]
          rfl
        refine ⟨_, D, cs.map (fun c => (⟨#[c]⟩ : Str)), rfl, rfl, .inl (.of (by rw [← ecs]; exact hcs)), ?_, ?_⟩
        · have h1 : ∀ l : List Nat, ((l.map fun c => (⟨#[c]⟩ : Str)).map (·.length)).sum = l.length := by
            intro l
            induction l with
            | nil => rfl
            | cons c l ih =>
              rw [List.map_cons, List.map_cons, List.sum_cons, ih, List.length_cons]
              show 1 + l.length = l.length + 1
              omega
          rw [h1, List.length_map]
          have h0 : (Str.ofString "").length = 0 := rfl
          rw [h0, Nat.mul_zero]
          omega
        · rw [join_sg]
          refine ⟨st5, ⟨cs.toArray⟩, ⟨?_, fun c hc => hlt c (by simpa using hc)⟩, rfl⟩
          show cs.toArray.size ≤ 9
          rw [List.size_toArray]
          omega
    rintro σ H1 ⟨st1, z, hz, rfl⟩
    have zl : z.length ≤ sizeLine := Nat.le_trans hz.1 (by decide)
    -- at
    refine ⟨fun σ H' => Stp p H H' ∧ ∃ at_ : Int, σ = [some (.ref p), some (.str (Str.ofString "abcdefghijklmnopqrstuvwxyz")), some (.str z), some (.int at_), none, none, none], ?_, ?_⟩
    · have hzl := hz.1
      have hzI : (0 : Int) < (z.length : Int) + 1 := by omega
      refine ⟨_, rfl, _, rfl, z, rfl, zl, _, _, rfl, rfl, p, _, rfl, st1.2.1, hzI, Nat.lt_of_le_of_lt (show ((z.length : Int) + 1).natAbs ≤ 400 by omega) (by decide +kernel), fun r xs r0 r1 hB2 hk2 => ?_⟩
      exact ⟨st1.trans (.take hB2 hk2), r, rfl⟩
    rintro σ H2 ⟨st2, at_, rfl⟩
    -- other
    refine ⟨fun σ H' => Stp p H H' ∧ ∃ y : Str, Short 1 y ∧ σ = [some (.ref p), some (.str (Str.ofString "abcdefghijklmnopqrstuvwxyz")), some (.str z), some (.int at_), some (.str (Str.ofString " !\"#$&'()*+,-./0123456789:;<=>?@ABCDEFGHIJKLMNOPQRSTUVWXYZ[\\]^_`{|}~\n")), some (.str y), none], ?_, ?_⟩
    · refine ⟨_, rfl, _, rfl, _, rfl, _, rfl, by rw [signs_ok.1]; decide, p, _, rfl, st2.2.1, by rw [signs_ok.1]; decide, by rw [signs_ok.1]; decide, fun r xs r0 r1 hB3 hk3 => ?_⟩
      have st3 := st2.trans (.take hB3 hk3)
      generalize upd H2 p (.lst xs) = H3 at *
      obtain ⟨c, hc, hc1⟩ := str_at _ signs_ok.2 r0 r1
      refine ⟨_, r, c, rfl, rfl, by rw [signs_ok.1]; decide, hc, by show 3 ≤ sizeLine; decide, fun M nM => ?_⟩
      have st4 := st3.trans (.same hB3 (same_upd (o := .lst [.str (Str.ofString ""), .str (Str.ofString ""), .str ⟨#[c]⟩]) nM))
      have nMp : M ≠ p := by
        obtain ⟨ys, hy⟩ := hB3.lst
        exact fun z => by rw [z, hy] at nM; cases nM
      refine ⟨_, rfl, p, 3, rfl, st4.2.1, by decide, by decide, fun r2 xs2 r20 r21 hB5 hk5 => ?_⟩
      obtain ⟨y, hy, hys⟩ : ∃ y : Str, atI [V.str (Str.ofString ""), V.str (Str.ofString ""), V.str ⟨#[c]⟩] r2 = some (V.str y) ∧ Short 1 y := by
        have q : r2 = 0 ∨ r2 = 1 ∨ r2 = 2 := by omega
        have sn : Short 1 (Str.ofString "") := ⟨Nat.le_trans short_nil.1 (by decide), short_nil.2⟩
        rcases q with rfl | rfl | rfl
        · exact ⟨_, rfl, sn⟩
        · exact ⟨_, rfl, sn⟩
        · exact ⟨_, rfl, short_one hc1⟩
      refine ⟨M, _, r2, _, rfl, rfl, .of (by rw [upd_ne nMp, upd_same]), hy, st4.trans (.take hB5 hk5), y, hys, rfl⟩
    rintro σ H3 ⟨st3, y, hy, rfl⟩
    have sa := hz.cut none (some at_)
    have sb := sa.app hy
    refine ⟨_, rfl, _, rfl, _, rfl, z, rfl, zl, _, rfl, _, _, rfl, rfl, ?_, ?_⟩
    · have := sa.1
      have := hy.1
      have : (20 : Nat) ≤ sizeLine := by decide
      omega
    refine ⟨_, rfl, _, rfl, _, rfl, p, 2, rfl, st3.2.1, by decide, by decide, fun r xs r0 r1 hB4 hk4 => ?_⟩
    have sc := hz.cut (some (at_ + r)) none
    refine ⟨_, _, rfl, rfl, _, rfl, z, rfl, zl, _, _, rfl, rfl, ?_, ?_⟩
    · have := sb.1
      have := sc.1
      have : (30 : Nat) ≤ sizeLine := by decide
      omega
    · have sd := sb.app sc
      exact k _ _ (st3.trans (.take hB4 hk4)) ⟨Nat.le_trans sd.1 (by decide), sd.2⟩
end
end P11

namespace P11
open PySem PySem.Spec PyProof.Rows L2 HG
/-- the objects that things are -/
inductive FO : HO → String → PyData → Prop
  | l0 : FO (.lst []) "list" (.list [])
  | la : FO (.lst [.str (Str.ofString "a")]) "list" (.list [.str (Str.ofString "a")])
  | l2 : FO (.lst [.int 2]) "list" (.list [.int 2])
  | ln : FO (.lst [.non]) "list" (.list [.none])
  | t0 : FO (.tup []) "tuple" (.tuple [])
  | ta : FO (.tup [.str (Str.ofString "a")]) "tuple" (.tuple [.str (Str.ofString "a")])
  | t2 : FO (.tup [.int 2]) "tuple" (.tuple [.int 2])
  | d0 : FO (.dK []) "dict" (.dict [])
  | da : FO (.dK [(Sum.inr (Str.ofString "a"), .int 1)]) "dict" (.dict [(.str (Str.ofString "a"), .int 1)])
/-- x is a thing that shows as d -/
inductive Th (H : Hp) : V → PyData → Prop
  | non : Th H .non .none
  | bl (b : Bool) : Th H (.bl b) (.bool b)
  | int (i : Int) (h : i.natAbs < 2 ^ 1000) : Th H (.int i) (.int i)
  | str (z : Str) (h : Short 60 z) : Th H (.str z) (.str z)
  | ref {a : Addr} {o : HO} {t : String} {d : PyData} (h : H a = some o) (f : FO o t d) : Th H (.ref a) d
theorem Th.known {K : PySem.W.Frag} {H : Hp} {x : V} {d : PyData} (h : Th H x d) : Known K H x := by
  cases h with
  | non => trivial
  | bl b => trivial
  | int i h => trivial
  | str z h => exact ⟨Nat.le_trans h.1 (by decide), h.2⟩
  | ref h f =>
    cases f with
    | l0 => exact ⟨_, .inl rfl, .base (.lst h)⟩
    | la => exact ⟨_, .inl rfl, .base (.lst h)⟩
    | l2 => exact ⟨_, .inl rfl, .base (.lst h)⟩
    | ln => exact ⟨_, .inl rfl, .base (.lst h)⟩
    | t0 => exact ⟨_, .inr (.inl rfl), .base (.tup h)⟩
    | ta => exact ⟨_, .inr (.inl rfl), .base (.tup h)⟩
    | t2 => exact ⟨_, .inr (.inl rfl), .base (.tup h)⟩
    | d0 => exact ⟨_, .inr (.inr rfl), .base (.dK h)⟩
    | da => exact ⟨_, .inr (.inr rfl), .base (.dK h)⟩
theorem Th.mono {H H' : Hp} {x : V} {d : PyData} (h : Th H x d) (s : ∀ a o, x = .ref a → H a = some o → H' a = some o) : Th H' x d := by
  cases h with
  | non => exact .non
  | bl b => exact .bl b
  | int i h => exact .int i h
  | str z h => exact .str z h
  | ref h f => exact .ref (s _ _ rfl h) f
/-- what is shown, fits -/
theorem Th.fits {H : Hp} {x : V} {d : PyData} (h : Th H x d) : d.showable = true ∧ d.depth ≤ 40 ∧ d.shown.length ≤ sizeLine := by
  cases h with
  | non => exact ⟨rfl, by show 0 ≤ 40; decide, by decide +kernel⟩
  | bl b => cases b <;> exact ⟨rfl, by show 0 ≤ 40; decide, by decide +kernel⟩
  | int i h => have f := fine_int h; exact ⟨f.show_, f.deep, f.size⟩
  | str z h =>
    refine ⟨rfl, by show 0 ≤ 40; decide, ?_⟩
    have hl : PyData.leavesShort 13 (.str z) = true := by
      simp only [PyData.leavesShort, List.all_eq_true, decide_eq_true_eq]
      intro c hc
      have := h.2 c hc
      omega
    have e := PyData.shown_le 13 (by decide) (.str z) hl
    have hw : PyData.weight (.str z) ≤ 60 := h.1
    have hz : (13 + 2) * 60 + 13 ≤ sizeLine := by decide
    have hm : (13 + 2) * PyData.weight (.str z) ≤ (13 + 2) * 60 := Nat.mul_le_mul_left _ hw
    omega
  | ref h f => cases f <;> exact ⟨by decide +kernel, by decide +kernel, by decide +kernel⟩
section
variable {X : Cx} {pins : List (Addr × Obj)} {σ : L2.St} {H : Hp} {s : Shared}
theorem th_reads (I : Inv X pins σ H s) {x : V} {d : PyData} {u : Value} (h : Th H x d) (r : RelV x u) : ∃ as, Reads s.heap u d as ∧ (d.hasDict = true → sysModules ∉ as) := by
  have viaDp : Dp X.K H x d → d.hasDict = false → ∃ as, Reads s.heap u d as ∧ (d.hasDict = true → sysModules ∉ as) := fun hd nd => by
    obtain ⟨as, rd⟩ := Dp.reads I d x u hd r
    exact ⟨as, rd, PyData.noDict_hsm nd⟩
  cases h with
  | non => exact viaDp .non rfl
  | bl b => exact viaDp (.bl b) rfl
  | int i h => exact viaDp (.int i) rfl
  | str z h => exact viaDp (.str z) rfl
  | ref h f =>
    cases f with
    | l0 => exact viaDp (.lst (.of h) .nil) rfl
    | la => exact viaDp (.lst (.of h) (.cons (.str _) .nil)) rfl
    | l2 => exact viaDp (.lst (.of h) (.cons (.int _) .nil)) rfl
    | ln => exact viaDp (.lst (.of h) (.cons .non .nil)) rfl
    | t0 => exact viaDp (.tup (.of h) .nil) rfl
    | ta => exact viaDp (.tup (.of h) (.cons (.str _) .nil)) rfl
    | t2 => exact viaDp (.tup (.of h) (.cons (.int _) .nil)) rfl
    | d0 =>
      cases r
      obtain ⟨_, ns, vs, kv, o, es, ep, h1, h2, h3, _, pr, _⟩ := dk_of I.hok h
      cases kv
      have e : es.toList = [] := by
        cases q : es.toList with
        | nil => rfl
        | cons y ys => rw [q] at pr; cases pr
      have rd : Reads s.heap _ (.dict []) _ := Reads.dict (kvs := []) h1 h2.1 h3 (by rw [e]; exact .nil) (by rw [e]; exact .nil)
      refine ⟨_, rd, fun _ z => ?_⟩
      simp at z
      rw [z] at ns
      simp at ns
    | da =>
      cases r
      obtain ⟨_, ns, vs, kv, o, es, ep, h1, h2, h3, _, pr, _⟩ := dk_of I.hok h
      cases kv with
      | cons k0 kv =>
        cases kv
        obtain ⟨k1, k2⟩ := k0
        obtain ⟨tk, k2⟩ := k2
        cases q : es.toList with
        | nil => rw [q] at pr; cases pr
        | cons y ys =>
          rw [q] at pr
          cases pr with
          | cons p1 p2 p3 =>
            cases p3
            rw [mixKind_is, ← k1] at p1
            obtain ⟨t2, e2⟩ : ∃ t, y.key = .str (Str.ofString "a") t := by
              rcases keyIs_shape p1 with ⟨i, t, z, _⟩ | ⟨x, t, z, e⟩
              · cases z
              · cases z
                exact ⟨t, e⟩
            have rd : Reads s.heap _ (.dict [(.str (Str.ofString "a"), .int 1)]) _ := Reads.dict (kvs := [(.str (Str.ofString "a"), .int 1)]) h1 h2.1 h3
              (by rw [q]; show ReadsAll _ [y.key] [PyData.str (Str.ofString "a")] _; rw [e2]; exact .cons (.str _ _) .nil)
              (by rw [q]; show ReadsAll _ [y.val] [PyData.int 1] _; rw [p2, k2]; exact .cons (.int _ _) .nil)
            refine ⟨_, rd, fun _ z => ?_⟩
            simp at z
            rw [z] at ns
            simp at ns
def rReprT : List V → Hp → VK → Prop := fun xs H Q => ∃ (x : V) (d : PyData), xs = [x] ∧ Th H x d ∧ Q (.str d.shown) H
theorem call_reprT {k : Nat} (hg : X.A.guards = some []) (hr : Room k X.A) : CallR X (.builtin "repr") rReprT := by
  intro pins s σ H xs us Q I r h
  obtain ⟨x, d, rfl, ht, q⟩ := h
  obtain ⟨u, rfl, rx⟩ := vals1 r
  have un : X.A.units + 100 < cLine := by have := hr.un; omega
  obtain ⟨hs, h40, hz⟩ := ht.fits
  obtain ⟨as, rd, hm⟩ := th_reads I ht rx
  have str : ∀ (y : Str) (h' : Heap) (tk tk' : Tok) (n : Nat), d.shown = y → (∀ b o, s.heap.get? b = some o → h'.get? b = some o) → EP X pins σ Q (.str y tk) { s with heap := h', toks := n } := by
    rintro _ h' tk tk' n rfl kk
    exact ⟨.str d.shown, H, I.kept kk, ⟨_, rfl⟩, q⟩
  cases rd with
  | none => exact PySem.P.repr_of_none (str _ _ _ 0 _ rfl fun _ _ z => z)
  | bool b => exact PySem.P.repr_of_bool (str _ _ _ 0 _ (by simp only [PyData.shown]) fun _ _ z => z)
  | int i t =>
    have hs2 : i.natAbs.log2 < 1920 := by simpa [PyData.showable] using hs
    exact PySem.P.repr_of_int hs2 (str _ _ _ 0 _ (by simp only [PyData.shown]) fun _ _ z => z)
  | str y t =>
    have hz2 : (reprText y).length ≤ sizeLine := by simpa only [PyData.shown] using hz
    exact PySem.P.repr_of_str (str _ _ _ 0 _ (by simp only [PyData.shown]) fun _ _ z => z) hz2
  | list h1 h2 h3 h4 => exact repr_of_reads' (.list h1 h2 h3 h4) hs hm hg (by omega) (fun _ _ z => z) (fun h' u tk kk => str _ _ _ 0 _ rfl kk) hz
  | tuple h1 h2 h3 h4 => exact repr_of_reads' (.tuple h1 h2 h3 h4) hs hm hg (by omega) (fun _ _ z => z) (fun h' u tk kk => str _ _ _ 0 _ rfl kk) hz
  | dict h1 h2 h3 h4 h5 => exact repr_of_reads' (.dict h1 h2 h3 h4 h5) hs hm hg (by omega) (fun _ _ z => z) (fun h' u tk kk => str _ _ _ 0 _ rfl kk) hz
end
end P11

namespace P11
open PySem PySem.Spec PyProof.Rows L2 HG
/-- all of xs are things, of objects that H doesn't know -/
def AllTh (H H' : Hp) (xs : List V) : Prop := ∀ x ∈ xs, ∃ d, Th H' x d ∧ ∀ a, x = .ref a → H a = none
theorem AllTh.stp {p : Addr} {H H1 H2 : Hp} {xs : List V} (B : Bag H p) (s : Stp p H1 H2) (h : AllTh H H1 xs) : AllTh H H2 xs := fun x hx => by
  obtain ⟨d, ht, hn⟩ := h x hx
  refine ⟨d, ht.mono fun a o e ha => s.1 a o ha fun z => ?_, hn⟩
  have := hn a e
  obtain ⟨ys, hy⟩ := B.lst
  rw [z, hy] at this
  cases this
theorem AllTh.same {H H1 H2 : Hp} {xs : List V} (s : Same H1 H2) (h : AllTh H H1 xs) : AllTh H H2 xs := fun x hx => by
  obtain ⟨d, ht, hn⟩ := h x hx
  exact ⟨d, ht.mono fun a o _ ha => s a o ha, hn⟩
theorem AllTh.app {H H1 : Hp} {xs ys : List V} (h : AllTh H H1 xs) (g : AllTh H H1 ys) : AllTh H H1 (xs ++ ys) := fun x hx => by
  rcases List.mem_append.mp hx with hx | hx
  · exact h x hx
  · exact g x hx
theorem AllTh.nil {H H1 : Hp} : AllTh H H1 [] := fun x hx => nomatch hx
theorem AllTh.cons {H H1 : Hp} {x : V} {xs : List V} {d : PyData} (t : Th H1 x d) (n : ∀ a, x = .ref a → H a = none) (h : AllTh H H1 xs) : AllTh H H1 (x :: xs) := fun y hy => by
  rcases List.mem_cons.mp hy with rfl | hy
  · exact ⟨d, t, n⟩
  · exact h y hy
theorem AllTh.sc {H H1 : Hp} {x : V} {xs : List V} {d : PyData} (t : Th H1 x d) (n : ∀ a, x ≠ .ref a) (h : AllTh H H1 xs) : AllTh H H1 (x :: xs) := h.cons t fun a e => absurd e (n a)
def spThing : Sp := fun vs H Q _ => ∃ p : Addr, vs = [.ref p] ∧ Bag H p ∧ ∀ (x : V) (d : PyData) (H' : Hp), Stp p H H' → Th H' x d → (∀ a, x = .ref a → H a = none) → Q x H'
section
variable {P : Program} {w : World} {K : PySem.W.Frag} {mg : Str → Option Value} {base : Heap}
theorem scTh : FnScope ["bag", "far", "some"] ["bag"] (defScope sThing) := ⟨rfl, rfl, rfl, by decide +kernel, rfl, by decide +kernel, by decide +kernel⟩
theorem ok_thing {f fT fX : Addr} {fd fdT fdX : FuncData} (F : Fun K "_law_thing" "_law_thing" sThing f fd) (FT : Fun K "_law_take" "_law_take" sTake fT fdT) (bT : Binds K fdT ["bag", "many"] []) (gT : mg "_law_take" = some (.ref fT))
    (FX : Fun K "_law_text" "_law_text" sText fX fdX) (bX : Binds K fdX ["bag"] []) (gX : mg "_law_text" = some (.ref fX)) (ml : mg "len" = none) (mr : mg "range" = none) : FnOk P w K mg base CX0 3 f fd ["bag"] spThing := by
  have GT : FnOk P w K mg base CX0 1 fT fdT ["bag", "many"] spTake2 := ok_take2 FT ml
  have GX : FnOk P w K mg base CX0 2 fX fdX ["bag"] spText := ok_text FX FT bT gT ml mr
  refine F.ok scTh (fun vs H Q E h => ?_) (fun cdv A outer s H vs Q E hr h => ?_)
  · obtain ⟨p, rfl, _⟩ := h
    rfl
  · obtain ⟨p, rfl, hB, k⟩ := h
    have hr1 : Room 1 _ := hr.mono (by decide)
    refine ⟨_, (Evl.pss_cut (ps_set (i := 1) scTh.nd rfl (.inl rfl) (pe_op op_pow pe_int pe_int))
      (Evl.pss_cut (ps_set (i := 2) scTh.nd rfl (.inl rfl) (pe_lst (pa_cons pe_non (pa_cons pe_bl (pa_cons pe_bl (pa_cons (pe_un un_neg pe_int) (pa_cons pe_int (pa_cons pe_int (pa_cons pe_int (pa_cons pe_int (pa_cons pe_int (pa_cons pe_int (pa_cons (pv 1) (pa_cons (pe_op op_add (pv 1) pe_int) (pa_cons (pe_op op_sub (pv 1) pe_int) (pa_cons (pe_un un_neg (pv 1)) (pa_cons (pe_op op_pow pe_int pe_int) (pa_cons pe_str (pa_cons pe_str (pa_cons (pe_lst pa_nil) (pa_cons (pe_lst (pa_cons pe_str pa_nil)) (pa_cons (pe_lst (pa_cons pe_int pa_nil)) (pa_cons (pe_tup pa_nil) pa_nil)))))))))))))))))))))))
      (Evl.pss_cut (ps_set (i := 2) scTh.nd rfl (.inl rfl) (pe_op op_cat (pv 2) (pe_lst (pa_cons (pe_tup (pa_cons pe_str pa_nil)) (pa_cons (pe_tup (pa_cons pe_int pa_nil)) (pa_cons pe_dnewK (pa_cons (pe_disp (pps_cons pe_str pe_int pps_nil) (by rfl) (by rfl) (fun z => by cases z) (by decide)) (pa_cons (pe_call GX hr (by rfl) gX FX.kp bX .nil pass0 (pa_cons (pv 0) pa_nil)) (pa_cons (pe_call GX hr (by rfl) gX FX.kp bX .nil pass0 (pa_cons (pv 0) pa_nil)) (pa_cons (pe_op op_sub (pe_call GT hr1 (by rfl) gT FT.kp bT .nil pass0 (pa_cons (pv 0) (pa_cons (pe_op op_mul pe_int (pv 1)) pa_nil))) (pv 1)) (pa_cons (pe_lst (pa_cons pe_non pa_nil)) pa_nil)))))))))))
      (pss_one (ps_ret (pe_ix ix_list (pv 2) (pe_call GT hr1 (by rfl) gT FT.kp bT .nil pass0 (pa_cons (pv 0) (pa_cons (pe_callB call_len_seq (by rfl) ml PySem.boot_len (pa_cons (pv 2) pa_nil)) pa_nil))) (fun _ _ => rfl))))))), ?_⟩
    have b18 : ((10 : Int) ^ (18 : Int).toNat) = 1000000000000000000 := by decide +kernel
    have b60 : ((10 : Int) ^ (60 : Int).toNat).natAbs < 2 ^ 1000 := by decide +kernel
    have bb : (4000000000000000000 : Nat) < 2 ^ 1000 := by decide +kernel
    refine ⟨fun σ H' => H' = H ∧ σ = [some (.ref p), some (.int 1000000000000000000), none], ⟨_, _, rfl, rfl, ⟨by decide, by decide, by decide⟩, rfl, ?_⟩, ?_⟩
    · show _ = [some (V.ref p), some (V.int 1000000000000000000), none]
      rw [← b18]
      rfl
    rintro σ H0 ⟨rfl, rfl⟩
    -- the first list
    refine ⟨fun σ H' => Stp p H0 H' ∧ ∃ (M : Addr) (xs : List V), H' M = some (.lst xs) ∧ H0 M = none ∧ xs.length = 21 ∧ AllTh H0 H' xs ∧ σ = [some (.ref p), some (.int 1000000000000000000), some (.ref M)], ?_, ?_⟩
    · refine ⟨_, rfl, _, rfl, _, rfl, _, _, rfl, rfl, _, rfl, _, _, rfl, rfl, _, rfl, _, rfl, _, _, rfl, rfl, ⟨by decide, by decide, by decide⟩, ?_⟩
      refine ⟨Nat.zero_le _, fun p1 n1 => ⟨by show 1 ≤ sizeLine; decide, fun p2 n2 => ⟨by show 1 ≤ sizeLine; decide, fun p3 n3 => ⟨Nat.zero_le _, fun p4 n4 => ⟨by show 21 ≤ sizeLine; decide, fun M nM => ?_⟩⟩⟩⟩⟩
      have s1 : Same H0 (upd H0 p1 (.lst [])) := same_upd n1
      have s2 : Same (upd H0 p1 (.lst [])) (upd (upd H0 p1 (.lst [])) p2 (.lst [.str (Str.ofString "a")])) := same_upd n2
      have s3 : Same (upd (upd H0 p1 (.lst [])) p2 (.lst [.str (Str.ofString "a")])) (upd (upd (upd H0 p1 (.lst [])) p2 (.lst [.str (Str.ofString "a")])) p3 (.lst [.int 2])) := same_upd n3
      have s4 : Same (upd (upd (upd H0 p1 (.lst [])) p2 (.lst [.str (Str.ofString "a")])) p3 (.lst [.int 2])) (upd (upd (upd (upd H0 p1 (.lst [])) p2 (.lst [.str (Str.ofString "a")])) p3 (.lst [.int 2])) p4 (.tup [])) := same_upd n4
      have t1 := (s2.trans (s3.trans s4)) _ _ (upd_same (H := H0) (a := p1) (o := .lst []))
      have t2 := (s3.trans s4) _ _ (upd_same (H := upd H0 p1 (.lst [])) (a := p2) (o := .lst [.str (Str.ofString "a")]))
      have t3 := s4 _ _ (upd_same (H := upd (upd H0 p1 (.lst [])) p2 (.lst [.str (Str.ofString "a")])) (a := p3) (o := .lst [.int 2]))
      have t4 := upd_same (H := upd (upd (upd H0 p1 (.lst [])) p2 (.lst [.str (Str.ofString "a")])) p3 (.lst [.int 2])) (a := p4) (o := .tup [])
      have m2 := s1.free n2
      have m3 := (s1.trans s2).free n3
      have m4 := (s1.trans (s2.trans s3)).free n4
      have st := s1.trans (s2.trans (s3.trans s4))
      generalize (upd (upd (upd (upd H0 p1 (.lst [])) p2 (.lst [.str (Str.ofString "a")])) p3 (.lst [.int 2])) p4 (.tup [])) = H1 at *
      have hnil : Short 60 (Str.ofString "") := ⟨Nat.le_trans short_nil.1 (by decide), short_nil.2⟩
      have ha1 : (Str.ofString "a").length ≤ 60 ∧ ∀ c ∈ (Str.ofString "a").cps.toList, c < 1000 := by decide +kernel
      have sm : ∀ i : Int, i.natAbs ≤ 4000000000000000000 → Th H1 (.int i) (.int i) := fun i hi => .int i (by omega)
      have all : AllTh H0 H1 [.non, .bl true, .bl false, .int (-1), .int 0, .int 1, .int 2, .int 3, .int 4, .int 5, .int 1000000000000000000, .int (1000000000000000000 + 1), .int (1000000000000000000 - 1), .int (-1000000000000000000), .int (10 ^ (60 : Int).toNat), .str (Str.ofString ""), .str (Str.ofString "a"), .ref p1, .ref p2, .ref p3, .ref p4] := by
        refine .sc .non (fun _ => nofun) (.sc (.bl _) (fun _ => nofun) (.sc (.bl _) (fun _ => nofun) ?_))
        refine .sc (sm _ (by decide)) (fun _ => nofun) (.sc (sm _ (by decide)) (fun _ => nofun) (.sc (sm _ (by decide)) (fun _ => nofun) (.sc (sm _ (by decide)) (fun _ => nofun) (.sc (sm _ (by decide)) (fun _ => nofun) (.sc (sm _ (by decide)) (fun _ => nofun) (.sc (sm _ (by decide)) (fun _ => nofun) ?_))))))
        refine .sc (sm _ (by decide)) (fun _ => nofun) (.sc (sm _ (by decide)) (fun _ => nofun) (.sc (sm _ (by decide)) (fun _ => nofun) (.sc (sm _ (by decide)) (fun _ => nofun) (.sc (.int _ b60) (fun _ => nofun) ?_))))
        refine .sc (.str _ hnil) (fun _ => nofun) (.sc (.str _ ha1) (fun _ => nofun) ?_)
        refine .cons (.ref t1 .l0) (fun a e => by cases e; exact n1) (.cons (.ref t2 .la) (fun a e => by cases e; exact m2) (.cons (.ref t3 .l2) (fun a e => by cases e; exact m3) (.cons (.ref t4 .t0) (fun a e => by cases e; exact m4) .nil)))
      refine ⟨.same hB (st.trans (same_upd nM)), M, _, upd_same, st.free nM, rfl, all.same (same_upd nM), rfl⟩
    rintro σ H1 ⟨st1, M, xs, hM, nM, hxs, all, rfl⟩
    -- the second
    have hB1 := st1.2.1
    refine ⟨fun σ H' => Stp p H0 H' ∧ ∃ (M : Addr) (xs : List V), H' M = some (.lst xs) ∧ M ≠ p ∧ xs.length = 29 ∧ AllTh H0 H' xs ∧ σ = [some (.ref p), some (.int 1000000000000000000), some (.ref M)], ?_, ?_⟩
    · refine ⟨_, rfl, by show 1 ≤ sizeLine; decide, fun q1 n1 => ⟨by show 1 ≤ sizeLine; decide, fun q2 n2 q3 n3 q4 n4 => ?_⟩⟩
      refine ⟨upd_same, [(Sum.inr (Str.ofString "a"), .int 1)], rfl, by decide, ?_⟩
      have s1 : Same H1 (upd H1 q1 (.tup [.str (Str.ofString "a")])) := same_upd n1
      have s2 : Same (upd H1 q1 (.tup [.str (Str.ofString "a")])) (upd (upd H1 q1 (.tup [.str (Str.ofString "a")])) q2 (.tup [.int 2])) := same_upd n2
      have s3 : Same (upd (upd H1 q1 (.tup [.str (Str.ofString "a")])) q2 (.tup [.int 2])) (upd (upd (upd H1 q1 (.tup [.str (Str.ofString "a")])) q2 (.tup [.int 2])) q3 (.dK [])) := same_upd n3
      have e4 : upd (upd (upd (upd (upd H1 q1 (.tup [.str (Str.ofString "a")])) q2 (.tup [.int 2])) q3 (.dK [])) q4 (.dK [])) q4 (.dK (mergeK [] [(Sum.inr (Str.ofString "a"), .int 1)])) = upd (upd (upd (upd H1 q1 (.tup [.str (Str.ofString "a")])) q2 (.tup [.int 2])) q3 (.dK [])) q4 (.dK [(Sum.inr (Str.ofString "a"), .int 1)]) := upd_upd
      rw [e4]
      have s4 : Same (upd (upd (upd H1 q1 (.tup [.str (Str.ofString "a")])) q2 (.tup [.int 2])) q3 (.dK [])) (upd (upd (upd (upd H1 q1 (.tup [.str (Str.ofString "a")])) q2 (.tup [.int 2])) q3 (.dK [])) q4 (.dK [(Sum.inr (Str.ofString "a"), .int 1)])) := same_upd n4
      have t1 := (s2.trans (s3.trans s4)) _ _ (upd_same (H := H1) (a := q1) (o := .tup [.str (Str.ofString "a")]))
      have t2 := (s3.trans s4) _ _ (upd_same (H := upd H1 q1 (.tup [.str (Str.ofString "a")])) (a := q2) (o := .tup [.int 2]))
      have t3 := s4 _ _ (upd_same (H := upd (upd H1 q1 (.tup [.str (Str.ofString "a")])) q2 (.tup [.int 2])) (a := q3) (o := .dK []))
      have t4 := upd_same (H := upd (upd (upd H1 q1 (.tup [.str (Str.ofString "a")])) q2 (.tup [.int 2])) q3 (.dK [])) (a := q4) (o := .dK [(Sum.inr (Str.ofString "a"), .int 1)])
      have m1 := st1.free n1
      have m2 := st1.free (s1.free n2)
      have m3 := st1.free ((s1.trans s2).free n3)
      have m4 := st1.free ((s1.trans (s2.trans s3)).free n4)
      have st2 := st1.trans (.same hB1 (s1.trans (s2.trans (s3.trans s4))))
      have hM2 := (s1.trans (s2.trans (s3.trans s4))) _ _ hM
      have all2 := all.same (s1.trans (s2.trans (s3.trans s4)))
      generalize upd (upd (upd (upd H1 q1 (.tup [.str (Str.ofString "a")])) q2 (.tup [.int 2])) q3 (.dK [])) q4 (.dK [(Sum.inr (Str.ofString "a"), .int 1)]) = H2 at *
      have a2 : AllTh H0 H2 [.ref q1, .ref q2, .ref q3, .ref q4] := .cons (.ref t1 .ta) (fun a e => by cases e; exact m1) (.cons (.ref t2 .t2) (fun a e => by cases e; exact m2) (.cons (.ref t3 .d0) (fun a e => by cases e; exact m3) (.cons (.ref t4 .da) (fun a e => by cases e; exact m4) .nil)))
      refine ⟨_, rfl, p, rfl, st2.2.1, fun z1 H3 st3 hz1 => ?_⟩
      refine ⟨_, rfl, p, rfl, st3.2.1, fun z2 H4 st4 hz2 => ?_⟩
      have st34 := st3.trans st4
      refine ⟨_, rfl, _, rfl, _, _, rfl, rfl, .inl ⟨by decide, by decide⟩, p, _, rfl, st34.2.1, by decide, Nat.lt_of_le_of_lt (show ((2 : Int) * 1000000000000000000).natAbs ≤ 4000000000000000000 by decide) bb, fun r xs5 r0 r1 hB5 hk5 => ?_⟩
      have st5 : Stp p H2 _ := st34.trans (.take hB5 hk5)
      refine ⟨_, rfl, _, _, rfl, rfl, ?_⟩
      generalize upd H4 p (.lst xs5) = H5 at *
      have r1' : r < 2 * 1000000000000000000 := r1
      refine ⟨by show 1 ≤ sizeLine; decide, fun q5 n5 => ⟨by show 8 ≤ sizeLine; decide, fun M2 nM2 => ?_⟩⟩
      have s6 : Same H5 (upd H5 q5 (.lst [.non])) := same_upd n5
      have m5 := (st2.trans st5).free n5
      have st6 := st5.trans (.same st5.2.1 s6)
      have t5 := upd_same (H := H5) (a := q5) (o := .lst [.non])
      have nMp : M ≠ p := fun z => by
        obtain ⟨ys, hy⟩ := hB.lst
        rw [z, hy] at nM
        cases nM
      have hM6 := st6.1 _ _ hM2 nMp
      have all6 := all2.stp hB st6
      have a6 := a2.stp hB st6
      generalize upd H5 q5 (.lst [.non]) = H6 at *
      have a7 : AllTh H0 H6 ([.ref q1, .ref q2, .ref q3, .ref q4] ++ [.str z1, .str z2, .int (r - 1000000000000000000), .ref q5]) := a6.app (.sc (.str _ hz1) (fun _ => nofun) (.sc (.str _ hz2) (fun _ => nofun) (.sc (.int _ (by omega)) (fun _ => nofun) (.cons (.ref t5 .ln) (fun a e => by cases e; exact m5) .nil))))
      refine ⟨M, M2, _, _, rfl, rfl, same_upd nM2 _ _ hM6, upd_same, ?_, fun M3 nM3 => ?_⟩
      · rw [hxs]
        show 21 + 8 ≤ sizeLine
        decide
      · have s8 := fun o => (same_upd nM2).trans (same_upd (o := o) nM3)
        refine ⟨(st2.trans st6).trans (.same st6.2.1 (s8 _)), M3, _, upd_same, ?_, ?_, (all6.app a7).same (s8 _), rfl⟩
        · obtain ⟨ys, hy⟩ := (st6.2.1.same (same_upd nM2)).lst
          exact fun z => by rw [z, hy] at nM3; cases nM3
        · rw [List.length_append, hxs]
          rfl
    rintro σ H2 ⟨st2, M, xs, hM, nMp, hxs, all2, rfl⟩
    refine ⟨_, rfl, _, rfl, _, rfl, M, xs, rfl, .inl (.of hM), p, _, rfl, st2.2.1, ?_, ?_, fun r xs3 r0 r1 hB3 hk3 => ?_⟩
    · rw [hxs]; decide
    · rw [hxs]
      exact Nat.lt_of_le_of_lt (show ((29 : Nat) : Int).natAbs ≤ 4000000000000000000 by decide) bb
    have st3 : Stp p H2 _ := .take hB3 hk3
    have all3 := all2.stp hB st3
    rw [hxs] at r1
    have hi : r.toNat < xs.length := by omega
    obtain ⟨d, hd, hn⟩ := all3 xs[r.toNat] (List.getElem_mem hi)
    refine ⟨M, xs, r, xs[r.toNat], rfl, rfl, .of (by rw [upd_ne nMp]; exact hM), atI_int r0 (List.getElem?_eq_getElem hi), ?_⟩
    exact k _ d _ (st2.trans st3) hd hn
end
end P11

namespace P11
open PySem PySem.Spec PyProof.Rows L2 HG
def spLaw (K : PySem.W.Frag) : Sp := fun vs H Q _ => ∃ (a : Addr) (ns : List Int), vs = [.ref a] ∧ SqL K H a (ns.map V.int) ∧ ns.length ≤ 63 ∧ ∀ H', Q (.bl true) H'
section
variable {P : Program} {w : World} {K : PySem.W.Frag} {mg : Str → Option Value} {base : Heap}
theorem scL : FnScope ["script", "bag", "things", "turn", "thing", "kept", "k"] ["script"] (defScope sLaw) := ⟨rfl, rfl, rfl, by decide +kernel, rfl, by decide +kernel, by decide +kernel⟩
theorem ok_law {f fG fT fA fX fH fI fD fQ fW fB fN fS fP : Addr} {fd fdG fdT fdA fdX fdH fdI fdD fdQ fdW fdB fdN fdS fdP : FuncData} {k1 k2 k3 k4 : Tok} (F : Fun K "law" "law" sLaw f fd)
    (FG : Fun K "_law_bag" "_law_bag" sBag fG fdG) (bG : Binds K fdG ["script"] []) (gG : mg "_law_bag" = some (.ref fG))
    (FT : Fun K "_law_take" "_law_take" sTake fT fdT) (bT : Binds K fdT ["bag", "many"] []) (gT : mg "_law_take" = some (.ref fT))
    (FA : Fun K "_law_alike" "_law_alike" sAlike fA fdA) (bA : Binds K fdA ["found", "due"] []) (gA : mg "_law_alike" = some (.ref fA))
    (FX : Fun K "_law_text" "_law_text" sText fX fdX) (bX : Binds K fdX ["bag"] []) (gX : mg "_law_text" = some (.ref fX))
    (FH : Fun K "_law_thing" "_law_thing" sThing fH fdH) (bH : Binds K fdH ["bag"] []) (gH : mg "_law_thing" = some (.ref fH))
    (FI : Fun K "_law_is_number" "_law_is_number" sIsNum fI fdI) (bI : Binds K fdI ["thing"] []) (gI : mg "_law_is_number" = some (.ref fI))
    (FD : Fun K "_law_due" "_law_due" sDue fD fdD) (bD : Binds K fdD ["way", "thing"] []) (gD : mg "_law_due" = some (.ref fD))
    (FQ : Fun K "_law_asked" "_law_asked" sAsked fQ fdQ) (bQ : Binds K fdQ ["way", "thing"] []) (gQ : mg "_law_asked" = some (.ref fQ))
    (FW : Fun K "is_whole" "is_whole" sWhole fW fdW) (bW : Binds K fdW ["thing"] []) (gW : mg "is_whole" = some (.ref fW))
    (FB : Fun K "is_beat" "is_beat" sBeat fB fdB) (bB : Binds K fdB ["thing"] []) (gB : mg "is_beat" = some (.ref fB))
    (FN : Fun K "is_name" "is_name" sName fN fdN) (bN : Binds K fdN ["thing"] []) (gN : mg "is_name" = some (.ref fN))
    (FS : Fun K "_is_small" "_is_small" sSmall fS fdS) (bS : Binds K fdS ["text"] []) (gS : mg "_is_small" = some (.ref fS))
    (FP : Fun K "is_pace" "is_pace" sPace fP fdP) (bP : Binds K fdP ["thing"] []) (gP : mg "is_pace" = some (.ref fP))
    (mLB : mg "LAST_BEAT" = some (.int (10 ^ 18) k1)) (mLN : mg "LONGEST_NAME" = some (.int 8 k2)) (mLP : mg "LEAST_PACE" = some (.int 2 k3)) (mGP : mg "GREATEST_PACE" = some (.int 4 k4))
    (ma : mg "abs" = none) (ml : mg "len" = none) (mr : mg "range" = none) (mI : mg "isinstance" = none) (mi : mg "int" = none) (mb : mg "bool" = none) (ms : mg "str" = none) (mA : mg "all" = none) (mR : mg "repr" = none) : FnG P w K mg base CX0 4 f fd ["script"] (spLaw K) := by
  have GG : FnOk P w K mg base CX0 1 fG fdG ["script"] (spBag K) := ok_bag FG ma
  have GT : FnOk P w K mg base CX0 1 fT fdT ["bag", "many"] spTake := ok_take FT ml
  have GA : FnG P w K mg base CX0 1 fA fdA ["found", "due"] (spAlike K) := ok_alike FA mR
  have GH : FnOk P w K mg base CX0 3 fH fdH ["bag"] spThing := ok_thing FH FT bT gT FX bX gX ml mr
  have GD : FnOk P w K mg base CX0 2 fD fdD ["way", "thing"] (spW K) := ok_due FD FI bI gI mI mi mb ms ml
  have GQ : FnOk P w K mg base CX0 3 fQ fdQ ["way", "thing"] (spW K) := ok_asked FQ (ok_whole FW mI mi mb) FW.kp bW gW (ok_beat FB FW bW gW mLB mI mi mb) FB.kp bB gB (ok_name FN FS bS gS mLN mI ms ml mA) FN.kp bN gN (ok_pace FP FW bW gW mLP mGP mI mi mb) FP.kp bP gP
  refine okG0 F scL (fun vs H Q E h => ?_) (fun cdv A outer s H vs Q E hg hr h => ?_)
  · obtain ⟨a, ns, rfl, _⟩ := h
    rfl
  · obtain ⟨a, ns, rfl, hS, hl, k⟩ := h
    have hr1 : Room 1 _ := hr.mono (by decide)
    have hr2 : Room 2 _ := hr.mono (by decide)
    refine ⟨_, (pss_cons (ps_set (i := 1) scL.nd rfl (.inr rfl) (pe_call GG hr1 (by rfl) gG FG.kp bG .nil pass0 (pa_cons (pv 0) pa_nil)))
      (Evl.pss_cut (ps_setLc (i := 2) (own := [("k", 6)]) (g := gName 6) (tt := tYes) rfl scL.nd rfl rfl (sw_true rfl rfl rfl (by decide +kernel)) (pi_range1 rfl mr (pa_cons (pe_op op_add pe_int (pe_call GT hr1 (by rfl) gT FT.kp bT .nil pass0 (pa_cons (pv 1) (pa_cons pe_int pa_nil)))) pa_nil)) (blkOk_by (N := ["script", "bag", "things", "turn", "thing", "kept", "k"]) (sc := defScope sLaw) (by decide +kernel)) (fun _ _ _ _ _ => pg_name (i := 6) scL.nd rfl (Or.inl rfl)) (fun _ _ _ _ _ => pts_nil) (fun _ _ _ _ _ => (pe_call (sp := spThing) (k := 3) (CX := CX0) (E := E0) (dvs := []) (ds := []) GH hr (by rfl) gH FH.kp bH .nil pass0 (pa_cons (pv 1) pa_nil))))
      (pss_cons (ps_for PassesOwn.never rfl (pi_range1 rfl mr (pa_cons pe_int pa_nil)) (pg_name (i := 3) scL.nd rfl (.inl rfl))
         (pss_one (ps_for PassesOwn.never rfl (pi_list (pv 2)) (pg_name (i := 4) scL.nd rfl (.inl rfl))
            (pss_cons (ps_set (i := 5) scL.nd rfl (.inl rfl) (pe_callB (call_reprT hg hr) (by rfl) mR (by decide +kernel) (pa_cons (pv 4) pa_nil)))
            (pss_one (ps_if (PW.pt (pw_or (pt_not (pt_val (pe_callG GA hg hr1 (by rfl) gA FA.kp bA .nil pass0 (pa_cons (pe_call GQ hr (by rfl) gQ FQ.kp bQ .nil pass0 (pa_cons (pe_op op_mod (pv 3) pe_int) (pa_cons (pv 4) pa_nil))) (pa_cons (pe_call GD hr2 (by rfl) gD FD.kp bD .nil pass0 (pa_cons (pe_op op_mod (pv 3) pe_int) (pa_cons (pv 4) pa_nil))) pa_nil))))) (pw_or1 (pt_cmpR op_ne (pe_callB (call_reprT hg hr) (by rfl) mR (by decide +kernel) (pa_cons (pv 4) pa_nil)) (pv 5) (nomark _)))))
               (pss_one (ps_ret pe_bl))
               pss_nil))))))
      (pss_one (ps_ret pe_bl))))), ?_⟩
    refine ⟨_, rfl, a, ns, rfl, hS, hl, fun p H1 s1 np hB => ?_⟩
    -- things
    refine ⟨fun σ H' => ∃ (T : Addr) (xs : List V), H' T = some (.lst xs) ∧ (∀ x ∈ xs, ∃ d, Th H' x d) ∧ σ = [some (.ref a), some (.ref p), some (.ref T), none, none, none, none], ?_, ?_⟩
    · refine ⟨_, rfl, p, 12, rfl, hB, by decide, by decide, fun r xs r0 r1 hB2 => ?_⟩
      refine ⟨_, _, rfl, rfl, _, rfl, by omega, by omega, fun D hD => ?_⟩
      have hn12 : (1 + r).toNat ≤ 12 := by omega
      generalize upd H1 p (.lst xs) = H2 at *
      have npD : D ≠ p := by
        obtain ⟨ys, hy⟩ := hB2.lst
        exact fun z => by rw [z, hy] at hD; cases hD
      refine lc_range (lo := 0) (n := (1 + r).toNat) (fun j H' => Stp p H2 H' ∧ BagOff H' p D ∧ ∃ xs : List V, H' D = some (.lst xs) ∧ xs.length = j ∧ ∀ x ∈ xs, ∃ d, Th H' x d ∧ ∀ a, x = .ref a → a ≠ p ∧ a ≠ D) ?_ ?_ ?_
      · exact ⟨.same hB2 (same_upd hD), (BagOff.of hB2 hD).same (same_upd hD), [], upd_same, rfl, fun x hx => nomatch hx⟩
      · rintro j H3 hj ⟨st3, hoff, ys, hys, hlen, hall⟩
        refine ⟨rfl, _, rfl, p, rfl, st3.2.1, fun x d H4 st4 hx hn4 => ?_⟩
        have hys4 := st4.1 _ _ hys npD
        have hoff4 := st4.2.2 D hoff
        have keep : ∀ y d, Th H3 y d → (∀ a, y = .ref a → a ≠ p ∧ a ≠ D) → ∀ o, Th (upd H4 D o) y d := fun y d hy hne o => hy.mono fun b u e hb => by
          rw [upd_ne (hne b e).2]
          exact st4.1 _ _ hb (hne b e).1
        have hxn : ∀ a, x = .ref a → a ≠ p ∧ a ≠ D := fun b e => by
          have h0 := hn4 b e
          refine ⟨fun z => ?_, fun z => ?_⟩
          · obtain ⟨us, hu⟩ := st3.2.1.lst
            rw [z, hu] at h0
            cases h0
          · rw [z, hys] at h0
            cases h0
        refine ⟨ys, hys4, small1000 (by omega), (st3.trans st4).put hD hoff4, hoff4.off, ys ++ [x], upd_same, by rw [List.length_append, hlen]; rfl, ?_⟩
        intro y hy
        rcases List.mem_append.mp hy with hy | hy
        · obtain ⟨d', hd', hne⟩ := hall y hy
          exact ⟨d', keep y d' hd' hne _, hne⟩
        · rw [List.mem_singleton] at hy
          subst hy
          refine ⟨d, hx.mono fun b u e hb => ?_, hxn⟩
          rw [upd_ne (hxn b e).2]
          exact hb
      · rintro H3 ⟨st3, hoff, ys, hys, hlen, hall⟩
        exact ⟨D, ys, hys, fun x hx => let ⟨d, hd, _⟩ := hall x hx; ⟨d, hd⟩, rfl⟩
    rintro σ H2 ⟨T, xs, hT, hall, rfl⟩
    refine ⟨8, rfl, by decide, by decide, ?_⟩
    refine for_range (n := 8) (fun i σ H' => Same H2 H' ∧ ∃ o3 o4 o5 : Option V, σ = [some (.ref a), some (.ref p), some (.ref T), o3, o4, o5, none]) ⟨Same.refl _, _, _, _, rfl⟩ ?_ ?_
    · rintro i σ H3 hi ⟨s3, o3, o4, o5, rfl⟩
      refine ⟨_, rfl, T, rfl, ⟨_, .of (s3 _ _ hT)⟩, ?_⟩
      refine for_list (K := K) (a := T) (xs := xs) (fun j σ H' => Same H2 H' ∧ ∃ o4 o5 : Option V, σ = [some (.ref a), some (.ref p), some (.ref T), some (.int (0 + (i : Int))), o4, o5, none]) ⟨s3, _, _, rfl⟩ (fun j σ H' _ z => .of (z.1 _ _ hT)) ?_ ?_
      · rintro j x σ H4 hx ⟨s4, o4, o5, rfl⟩
        obtain ⟨d, hd⟩ := hall x (List.mem_of_getElem? hx)
        have hd4 := hd.mono fun b u _ hb => s4 _ _ hb
        have w4 : (0 + (i : Int)) % 4 = ((i % 4 : Nat) : Int) := by omega
        -- kept = repr(thing)
        refine ⟨_, rfl, x, d, rfl, hd4, ?_⟩
        -- the test
        refine ⟨_, rfl, _, _, rfl, rfl, (by show (0 : Int) < 4; decide), _, rfl, i % 4, x, congrArg (fun z => [V.int z, x]) w4, Nat.mod_lt _ (by decide), hd4.known, fun H5 s5 => ?_⟩
        have hd5 := hd4.mono fun b u _ hb => s5 _ _ hb
        refine ⟨_, rfl, _, _, rfl, rfl, (by show (0 : Int) < 4; decide), _, rfl, i % 4, x, congrArg (fun z => [V.int z, x]) w4, Nat.mod_lt _ (by decide), hd5.known, fun H6 s6 => ?_⟩
        have hd6 := hd5.mono fun b u _ hb => s6 _ _ hb
        have fb : Fine (.bool (ans (i % 4) x)) := by
          have f := (Th.bl (H := H) (ans (i % 4) x)).fits
          exact ⟨rfl, f.1, f.2.1, f.2.2⟩
        refine ⟨_, _, .bool (ans (i % 4) x), rfl, .bl _, .bl _, fb, true, rfl, iteF ?_⟩
        refine ⟨_, rfl, x, d, rfl, hd6, _, rfl, rfl, _, rfl, iteNS rfl ?_⟩
        exact ⟨s4.trans (s5.trans s6), _, _, rfl⟩
      · rintro σ H4 ⟨s4, o4, o5, rfl⟩
        exact ⟨s4, _, _, _, rfl⟩
    · rintro σ H3 ⟨s3, o3, o4, o5, rfl⟩
      exact k H3
end
end P11

namespace P11
open PySem PySem.Spec PyProof.Rows L2 HG
theorem all_mk {l : PySem.W.OpenLaw} {w : World} {K : PySem.W.Frag} {h : Heap} {mg : Str → Option Value} {fa f1 f2 f3 f4 f5 f6 f7 f8 f9 f10 f11 f12 f13 f14 : Addr} (X : K.In h) (G : h.Ns mainGlobals mg) (hfa : mg "law" = some (.ref fa))
    {od1 an1 : Option Addr} {sl1 : Array (Option Value)} {oc1 kV1 dc1 pm1 cd1 ct1 : Value}
    {od2 an2 : Option Addr} {sl2 : Array (Option Value)} {oc2 kV2 dc2 pm2 cd2 ct2 : Value}
    {od3 an3 : Option Addr} {sl3 : Array (Option Value)} {oc3 kV3 dc3 pm3 cd3 ct3 : Value}
    {od4 an4 : Option Addr} {sl4 : Array (Option Value)} {oc4 kV4 dc4 pm4 cd4 ct4 : Value}
    {od5 an5 : Option Addr} {sl5 : Array (Option Value)} {oc5 kV5 dc5 pm5 cd5 ct5 : Value}
    {od6 an6 : Option Addr} {sl6 : Array (Option Value)} {oc6 kV6 dc6 pm6 cd6 ct6 : Value}
    {od7 an7 : Option Addr} {sl7 : Array (Option Value)} {oc7 kV7 dc7 pm7 cd7 ct7 : Value}
    {od8 an8 : Option Addr} {sl8 : Array (Option Value)} {oc8 kV8 dc8 pm8 cd8 ct8 : Value}
    {od9 an9 : Option Addr} {sl9 : Array (Option Value)} {oc9 kV9 dc9 pm9 cd9 ct9 : Value}
    {od10 an10 : Option Addr} {sl10 : Array (Option Value)} {oc10 kV10 dc10 pm10 cd10 ct10 : Value}
    {od11 an11 : Option Addr} {sl11 : Array (Option Value)} {oc11 kV11 dc11 pm11 cd11 ct11 : Value}
    {od12 an12 : Option Addr} {sl12 : Array (Option Value)} {oc12 kV12 dc12 pm12 cd12 ct12 : Value}
    {od13 an13 : Option Addr} {sl13 : Array (Option Value)} {oc13 kV13 dc13 pm13 cd13 ct13 : Value}
    {od14 an14 : Option Addr} {sl14 : Array (Option Value)} {oc14 kV14 dc14 pm14 cd14 ct14 : Value}
    {tq1 : Tok} {tq2 : Tok} {tq3 : Tok} {tq4 : Tok}
    (a1 : PySem.W.nsIn K mainGlobals "is_whole" = some (some (.ref f1))) (l1 : K.lookup f1 = some ⟨oc1, od1, .func (PySem.W.fnOf "is_whole" "is_whole" (defArgs sWhole) (defBody sWhole) (defScope sWhole) .none kV1 dc1 pm1 an1 cd1 ct1), sl1⟩) (c1 : PySem.W.codeIn K cd1 "is_whole" = true) (k1 : PySem.W.keepIn K (.ref f1) = true)
    (a2 : PySem.W.nsIn K mainGlobals "is_beat" = some (some (.ref f2))) (l2 : K.lookup f2 = some ⟨oc2, od2, .func (PySem.W.fnOf "is_beat" "is_beat" (defArgs sBeat) (defBody sBeat) (defScope sBeat) .none kV2 dc2 pm2 an2 cd2 ct2), sl2⟩) (c2 : PySem.W.codeIn K cd2 "is_beat" = true) (k2 : PySem.W.keepIn K (.ref f2) = true)
    (a3 : PySem.W.nsIn K mainGlobals "is_name" = some (some (.ref f3))) (l3 : K.lookup f3 = some ⟨oc3, od3, .func (PySem.W.fnOf "is_name" "is_name" (defArgs sName) (defBody sName) (defScope sName) .none kV3 dc3 pm3 an3 cd3 ct3), sl3⟩) (c3 : PySem.W.codeIn K cd3 "is_name" = true) (k3 : PySem.W.keepIn K (.ref f3) = true)
    (a4 : PySem.W.nsIn K mainGlobals "_is_small" = some (some (.ref f4))) (l4 : K.lookup f4 = some ⟨oc4, od4, .func (PySem.W.fnOf "_is_small" "_is_small" (defArgs sSmall) (defBody sSmall) (defScope sSmall) .none kV4 dc4 pm4 an4 cd4 ct4), sl4⟩) (c4 : PySem.W.codeIn K cd4 "_is_small" = true) (k4 : PySem.W.keepIn K (.ref f4) = true)
    (a5 : PySem.W.nsIn K mainGlobals "is_pace" = some (some (.ref f5))) (l5 : K.lookup f5 = some ⟨oc5, od5, .func (PySem.W.fnOf "is_pace" "is_pace" (defArgs sPace) (defBody sPace) (defScope sPace) .none kV5 dc5 pm5 an5 cd5 ct5), sl5⟩) (c5 : PySem.W.codeIn K cd5 "is_pace" = true) (k5 : PySem.W.keepIn K (.ref f5) = true)
    (a6 : PySem.W.nsIn K mainGlobals "_law_bag" = some (some (.ref f6))) (l6 : K.lookup f6 = some ⟨oc6, od6, .func (PySem.W.fnOf "_law_bag" "_law_bag" (defArgs sBag) (defBody sBag) (defScope sBag) .none kV6 dc6 pm6 an6 cd6 ct6), sl6⟩) (c6 : PySem.W.codeIn K cd6 "_law_bag" = true) (k6 : PySem.W.keepIn K (.ref f6) = true)
    (a7 : PySem.W.nsIn K mainGlobals "_law_take" = some (some (.ref f7))) (l7 : K.lookup f7 = some ⟨oc7, od7, .func (PySem.W.fnOf "_law_take" "_law_take" (defArgs sTake) (defBody sTake) (defScope sTake) .none kV7 dc7 pm7 an7 cd7 ct7), sl7⟩) (c7 : PySem.W.codeIn K cd7 "_law_take" = true) (k7 : PySem.W.keepIn K (.ref f7) = true)
    (a8 : PySem.W.nsIn K mainGlobals "_law_alike" = some (some (.ref f8))) (l8 : K.lookup f8 = some ⟨oc8, od8, .func (PySem.W.fnOf "_law_alike" "_law_alike" (defArgs sAlike) (defBody sAlike) (defScope sAlike) .none kV8 dc8 pm8 an8 cd8 ct8), sl8⟩) (c8 : PySem.W.codeIn K cd8 "_law_alike" = true) (k8 : PySem.W.keepIn K (.ref f8) = true)
    (a9 : PySem.W.nsIn K mainGlobals "_law_text" = some (some (.ref f9))) (l9 : K.lookup f9 = some ⟨oc9, od9, .func (PySem.W.fnOf "_law_text" "_law_text" (defArgs sText) (defBody sText) (defScope sText) .none kV9 dc9 pm9 an9 cd9 ct9), sl9⟩) (c9 : PySem.W.codeIn K cd9 "_law_text" = true) (k9 : PySem.W.keepIn K (.ref f9) = true)
    (a10 : PySem.W.nsIn K mainGlobals "_law_thing" = some (some (.ref f10))) (l10 : K.lookup f10 = some ⟨oc10, od10, .func (PySem.W.fnOf "_law_thing" "_law_thing" (defArgs sThing) (defBody sThing) (defScope sThing) .none kV10 dc10 pm10 an10 cd10 ct10), sl10⟩) (c10 : PySem.W.codeIn K cd10 "_law_thing" = true) (k10 : PySem.W.keepIn K (.ref f10) = true)
    (a11 : PySem.W.nsIn K mainGlobals "_law_is_number" = some (some (.ref f11))) (l11 : K.lookup f11 = some ⟨oc11, od11, .func (PySem.W.fnOf "_law_is_number" "_law_is_number" (defArgs sIsNum) (defBody sIsNum) (defScope sIsNum) .none kV11 dc11 pm11 an11 cd11 ct11), sl11⟩) (c11 : PySem.W.codeIn K cd11 "_law_is_number" = true) (k11 : PySem.W.keepIn K (.ref f11) = true)
    (a12 : PySem.W.nsIn K mainGlobals "_law_due" = some (some (.ref f12))) (l12 : K.lookup f12 = some ⟨oc12, od12, .func (PySem.W.fnOf "_law_due" "_law_due" (defArgs sDue) (defBody sDue) (defScope sDue) .none kV12 dc12 pm12 an12 cd12 ct12), sl12⟩) (c12 : PySem.W.codeIn K cd12 "_law_due" = true) (k12 : PySem.W.keepIn K (.ref f12) = true)
    (a13 : PySem.W.nsIn K mainGlobals "_law_asked" = some (some (.ref f13))) (l13 : K.lookup f13 = some ⟨oc13, od13, .func (PySem.W.fnOf "_law_asked" "_law_asked" (defArgs sAsked) (defBody sAsked) (defScope sAsked) .none kV13 dc13 pm13 an13 cd13 ct13), sl13⟩) (c13 : PySem.W.codeIn K cd13 "_law_asked" = true) (k13 : PySem.W.keepIn K (.ref f13) = true)
    (a14 : PySem.W.nsIn K mainGlobals "law" = some (some (.ref f14))) (l14 : K.lookup f14 = some ⟨oc14, od14, .func (PySem.W.fnOf "law" "law" (defArgs sLaw) (defBody sLaw) (defScope sLaw) .none kV14 dc14 pm14 an14 cd14 ct14), sl14⟩) (c14 : PySem.W.codeIn K cd14 "law" = true) (k14 : PySem.W.keepIn K (.ref f14) = true)
    (q1 : PySem.W.nsIn K mainGlobals "LAST_BEAT" = some (some (.int 1000000000000000000 tq1))) (q2 : PySem.W.nsIn K mainGlobals "LONGEST_NAME" = some (some (.int 8 tq2))) (q3 : PySem.W.nsIn K mainGlobals "LEAST_PACE" = some (some (.int 2 tq3))) (q4 : PySem.W.nsIn K mainGlobals "GREATEST_PACE" = some (some (.int 4 tq4)))
    (z1 : PySem.W.nsIn K mainGlobals "abs" = some none) (z2 : PySem.W.nsIn K mainGlobals "len" = some none) (z3 : PySem.W.nsIn K mainGlobals "range" = some none) (z4 : PySem.W.nsIn K mainGlobals "isinstance" = some none) (z5 : PySem.W.nsIn K mainGlobals "int" = some none) (z6 : PySem.W.nsIn K mainGlobals "bool" = some none) (z7 : PySem.W.nsIn K mainGlobals "str" = some none) (z8 : PySem.W.nsIn K mainGlobals "all" = some none) (z9 : PySem.W.nsIn K mainGlobals "repr" = some none) :
    ∃ fd : FuncData, (∀ (s : Shared) (v : Value), BindsTo s fd ⟨[v], []⟩ [("script", v)]) ∧ ∀ base : Heap, K.In base → base.Ns mainGlobals mg → FnG l.prog w K mg base CX0 4 fa fd ["script"] (spLaw K) := by
  have e := hfa.symm.trans (PySem.W.mg_of X G a14)
  cases e
  have F1 := fun_mk (st := sWhole) l1 c1 k1
  have b1 := F1.binds (ps := ["thing"]) fun _ _ _ _ _ _ us hl => match us, hl with | [_], _ => rfl
  have F2 := fun_mk (st := sBeat) l2 c2 k2
  have b2 := F2.binds (ps := ["thing"]) fun _ _ _ _ _ _ us hl => match us, hl with | [_], _ => rfl
  have F3 := fun_mk (st := sName) l3 c3 k3
  have b3 := F3.binds (ps := ["thing"]) fun _ _ _ _ _ _ us hl => match us, hl with | [_], _ => rfl
  have F4 := fun_mk (st := sSmall) l4 c4 k4
  have b4 := F4.binds (ps := ["text"]) fun _ _ _ _ _ _ us hl => match us, hl with | [_], _ => rfl
  have F5 := fun_mk (st := sPace) l5 c5 k5
  have b5 := F5.binds (ps := ["thing"]) fun _ _ _ _ _ _ us hl => match us, hl with | [_], _ => rfl
  have F6 := fun_mk (st := sBag) l6 c6 k6
  have b6 := F6.binds (ps := ["script"]) fun _ _ _ _ _ _ us hl => match us, hl with | [_], _ => rfl
  have F7 := fun_mk (st := sTake) l7 c7 k7
  have b7 := F7.binds (ps := ["bag", "many"]) fun _ _ _ _ _ _ us hl => match us, hl with | [_, _], _ => rfl
  have F8 := fun_mk (st := sAlike) l8 c8 k8
  have b8 := F8.binds (ps := ["found", "due"]) fun _ _ _ _ _ _ us hl => match us, hl with | [_, _], _ => rfl
  have F9 := fun_mk (st := sText) l9 c9 k9
  have b9 := F9.binds (ps := ["bag"]) fun _ _ _ _ _ _ us hl => match us, hl with | [_], _ => rfl
  have F10 := fun_mk (st := sThing) l10 c10 k10
  have b10 := F10.binds (ps := ["bag"]) fun _ _ _ _ _ _ us hl => match us, hl with | [_], _ => rfl
  have F11 := fun_mk (st := sIsNum) l11 c11 k11
  have b11 := F11.binds (ps := ["thing"]) fun _ _ _ _ _ _ us hl => match us, hl with | [_], _ => rfl
  have F12 := fun_mk (st := sDue) l12 c12 k12
  have b12 := F12.binds (ps := ["way", "thing"]) fun _ _ _ _ _ _ us hl => match us, hl with | [_, _], _ => rfl
  have F13 := fun_mk (st := sAsked) l13 c13 k13
  have b13 := F13.binds (ps := ["way", "thing"]) fun _ _ _ _ _ _ us hl => match us, hl with | [_, _], _ => rfl
  have F14 := fun_mk (st := sLaw) l14 c14 k14
  exact ⟨PySem.W.fnOf "law" "law" (defArgs sLaw) (defBody sLaw) (defScope sLaw) .none kV14 dc14 pm14 an14 cd14 ct14, fun s v => .of_eq rfl, fun base _ _ => ok_law F14 F6 b6 (PySem.W.mg_of X G a6) F7 b7 (PySem.W.mg_of X G a7) F8 b8 (PySem.W.mg_of X G a8) F9 b9 (PySem.W.mg_of X G a9) F10 b10 (PySem.W.mg_of X G a10) F11 b11 (PySem.W.mg_of X G a11) F12 b12 (PySem.W.mg_of X G a12) F13 b13 (PySem.W.mg_of X G a13) F1 b1 (PySem.W.mg_of X G a1) F2 b2 (PySem.W.mg_of X G a2) F3 b3 (PySem.W.mg_of X G a3) F4 b4 (PySem.W.mg_of X G a4) F5 b5 (PySem.W.mg_of X G a5) (PySem.W.mg_of X G q1) (PySem.W.mg_of X G q2) (PySem.W.mg_of X G q3) (PySem.W.mg_of X G q4) (PySem.W.mg_none_of X G z1) (PySem.W.mg_none_of X G z2) (PySem.W.mg_none_of X G z3) (PySem.W.mg_none_of X G z4) (PySem.W.mg_none_of X G z5) (PySem.W.mg_none_of X G z6) (PySem.W.mg_none_of X G z7) (PySem.W.mg_none_of X G z8) (PySem.W.mg_none_of X G z9)⟩
end P11
open PySem PySem.W PyProof.Rows
set_option maxHeartbeats 0 in
theorem PySem.Challenge.cw_halfpace_k11_kinds_known_holds : PySem.Challenge.rw_halfpace_k11_kinds_known.Holds := by
  w_on; o_law; k_head; (case hw => w_witness2)
  k_fill
  refine HG.walkG (l := PySem.Challenge.rw_halfpace_k11_kinds_known) (k := 4) (x := "script") (CX := L2.CX0) (sp := fun K => P11.spLaw K) rfl rfl ⟨rfl, by decide, by decide⟩ (fun w h Y => PySem.W.kIn_of Y) ?F (fun _ _ a ns hl hS => ⟨a, ns, rfl, hS, hl, fun _ => rfl⟩) (fun _ _ _ _ h => h)
  case F =>
    intro w mg fa h KX G hmg
    refine' P11.all_mk KX G hmg ?a1 ?l1 ?c1 ?k1 ?a2 ?l2 ?c2 ?k2 ?a3 ?l3 ?c3 ?k3 ?a4 ?l4 ?c4 ?k4 ?a5 ?l5 ?c5 ?k5 ?a6 ?l6 ?c6 ?k6 ?a7 ?l7 ?c7 ?k7 ?a8 ?l8 ?c8 ?k8 ?a9 ?l9 ?c9 ?k9 ?a10 ?l10 ?c10 ?k10 ?a11 ?l11 ?c11 ?k11 ?a12 ?l12 ?c12 ?k12 ?a13 ?l13 ?c13 ?k13 ?a14 ?l14 ?c14 ?k14 ?q1 ?q2 ?q3 ?q4 ?z1 ?z2 ?z3 ?z4 ?z5 ?z6 ?z7 ?z8 ?z9
    (case a1 => k_is)
    (case l1 => k_is)
    (case c1 => k_is)
    (case k1 => k_is)
    (case a2 => k_is)
    (case l2 => k_is)
    (case c2 => k_is)
    (case k2 => k_is)
    (case a3 => k_is)
    (case l3 => k_is)
    (case c3 => k_is)
    (case k3 => k_is)
    (case a4 => k_is)
    (case l4 => k_is)
    (case c4 => k_is)
    (case k4 => k_is)
    (case a5 => k_is)
    (case l5 => k_is)
    (case c5 => k_is)
    (case k5 => k_is)
    (case a6 => k_is)
    (case l6 => k_is)
    (case c6 => k_is)
    (case k6 => k_is)
    (case a7 => k_is)
    (case l7 => k_is)
    (case c7 => k_is)
    (case k7 => k_is)
    (case a8 => k_is)
    (case l8 => k_is)
    (case c8 => k_is)
    (case k8 => k_is)
    (case a9 => k_is)
    (case l9 => k_is)
    (case c9 => k_is)
    (case k9 => k_is)
    (case a10 => k_is)
    (case l10 => k_is)
    (case c10 => k_is)
    (case k10 => k_is)
    (case a11 => k_is)
    (case l11 => k_is)
    (case c11 => k_is)
    (case k11 => k_is)
    (case a12 => k_is)
    (case l12 => k_is)
    (case c12 => k_is)
    (case k12 => k_is)
    (case a13 => k_is)
    (case l13 => k_is)
    (case c13 => k_is)
    (case k13 => k_is)
    (case a14 => k_is)
    (case l14 => k_is)
    (case c14 => k_is)
    (case k14 => k_is)
    (case q1 => k_is)
    (case q2 => k_is)
    (case q3 => k_is)
    (case q4 => k_is)
    (case z1 => k_is)
    (case z2 => k_is)
    (case z3 => k_is)
    (case z4 => k_is)
    (case z5 => k_is)
    (case z6 => k_is)
    (case z7 => k_is)
    (case z8 => k_is)
    (case z9 => k_is)


