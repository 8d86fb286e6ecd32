import PyProof.Rows.All
import Wide.All
import OpenK.AllK
import Wide.FinOn
import HandS.ForMost
import HandS.Wide
import HandS.Style
import HandS.Evl
import HandS.Conv
import HandS.IsInst
import HandS.Codes
import HandS.Strs
import HandS.WideBits
import HandS.DictComp
import HandS.Walk
import KE.SortData
import HandS.OwnEq
import PyProof.InstEq
import PyProof.StrLawsRepr
import HandS.TupAny
import HandS.SortInts
import HandS.SetFor
import HandS.More
import HandS.Zip
import KE.GoesZip
import KE.DatumOrd
import PyProof.Rows.CallKwBuiltin
import PyProof.RowDictHeap
import KE.KDictKeyed
import KE.KDictWalk
import KE.KDictPairs
import HandS.Dict
import HandS.Iter
import KE.KEqDict
import HandS.DictEq
import HandS.MakeKwOnly
import HandS.ListItems
import PySem.Challenge.RW_halfpace_k52_whole_no_sooner
set_option Elab.async false
set_option linter.all false
set_option maxRecDepth 100000
set_option maxHeartbeats 4000000
set_option autoImplicit false
/-! what every law here draws on: the bag, taken from -/
namespace HG
open PySem PySem.Spec PyProof.Rows L2
/-- xs[k] read ahead of xs[k] op= e -/
def rGetL (K : PySem.W.Frag) : V → V → Hp → VK → Prop := fun o i H Q => ∃ p xs k v, o = .ref p ∧ i = .int k ∧ SqL K H p xs ∧ 0 ≤ k ∧ xs[k.toNat]? = some v ∧ Q v H
theorem get_list {X : Cx} : PGet X (rGetL X.K) := by
  intro pins s σ H o i ov iv Q I ro ri h
  obtain ⟨p, xs, k, v, rfl, rfl, hq, h0, hx, q⟩ := h
  cases ro
  obtain ⟨t, rfl⟩ := ri
  obtain ⟨its, r, pl, hz⟩ := I.list hq
  obtain ⟨w, ew, rw'⟩ := r.get hx
  have hn := line63
  have hl := r.length
  have hlt : k.toNat < xs.length := (List.getElem?_eq_some_iff.mp hx).1
  exact wpAny_getItem_list pl.isList h0 (by omega) (by simpa using ew) ⟨v, H, I, rw', q⟩
theorem atI_int {α : Type} {xs : List α} {i : Int} {v : α} (h0 : 0 ≤ i) (h : xs[i.toNat]? = some v) : atI xs i = some v := by
  obtain ⟨j, rfl⟩ := Int.eq_ofNat_of_zero_le h0
  exact atI_nat h
theorem upd_self {H : Hp} {p : Addr} {o : HO} (h : H p = some o) : upd H p o = H := by
  funext b
  unfold upd
  by_cases e : b = p
  · rw [if_pos e, e, h]
  · rw [if_neg e]
theorem same_upd {H : Hp} {p : Addr} {o : HO} (h : H p = none) : Same H (upd H p o) := fun b x e => by
  rw [upd_ne (ne_of_none e h)]
  exact e
/-- the bag: its place, what is drawn from, how far -/
def bagL (b0 b1 b2 : Int) (c : Addr) : HO := .lst [.int b0, .int b1, .int b2, .ref c]
def Bag (H : Hp) (p : Addr) : Prop := ∃ (c : Addr) (b0 b1 b2 : Int) (cs : List Int), H p = some (bagL b0 b1 b2 c) ∧ H c = some (.lst (cs.map V.int)) ∧ 0 ≤ b2
theorem Bag.lst {H : Hp} {p : Addr} (B : Bag H p) : ∃ xs, H p = some (.lst xs) := let ⟨_, _, _, _, _, h, _⟩ := B; ⟨_, h⟩
theorem bag_ne {H : Hp} {p c : Addr} {b0 b1 b2 : Int} {cs : List Int} (h : H p = some (bagL b0 b1 b2 c)) (g : H c = some (.lst (cs.map V.int))) : c ≠ p := fun e => by
  subst e
  rw [h] at g
  have g := HO.lst.inj (Option.some.inj g)
  rcases cs with _ | ⟨a, _ | ⟨b, _ | ⟨d, _ | ⟨f, r⟩⟩⟩⟩ <;> simp at g
theorem Bag.same {H H' : Hp} {p : Addr} (s : Same H H') (B : Bag H p) : Bag H' p := let ⟨c, b0, b1, b2, cs, h, g, z⟩ := B; ⟨c, b0, b1, b2, cs, s _ _ h, s _ _ g, z⟩
def spBag (K : PySem.W.Frag) : Sp := fun vs H Q _ => ∃ (a : Addr) (ns : List Int), vs = [.ref a] ∧ SqL K H a (ns.map V.int) ∧ ns.length ≤ 63 ∧ ∀ p H', Same H H' → H p = none → Bag H' p → Q (.ref p) H'
def spTake : Sp := fun vs H Q _ => ∃ (p : Addr) (m : Int), vs = [.ref p, .int m] ∧ Bag H p ∧ 0 < m ∧ m.natAbs < 2 ^ 1000 ∧ ∀ (r : Int) (xs : List V), 0 ≤ r → r < m → Bag (upd H p (.lst xs)) p → Q (.int r) (upd H p (.lst xs))
/-- the bag, and none of it at q -/
def BagOff (H : Hp) (p q : Addr) : Prop := ∃ (c : Addr) (b0 b1 b2 : Int) (cs : List Int), H p = some (bagL b0 b1 b2 c) ∧ H c = some (.lst (cs.map V.int)) ∧ 0 ≤ b2 ∧ p ≠ q ∧ c ≠ q
theorem BagOff.of {H : Hp} {p q : Addr} (B : Bag H p) (n : H q = none) : BagOff H p q := let ⟨c, b0, b1, b2, cs, h, g, z⟩ := B; ⟨c, b0, b1, b2, cs, h, g, z, ne_of_none h n, ne_of_none g n⟩
theorem BagOff.bag {H : Hp} {p q : Addr} (B : BagOff H p q) : Bag H p := let ⟨c, b0, b1, b2, cs, h, g, z, _, _⟩ := B; ⟨c, b0, b1, b2, cs, h, g, z⟩
theorem BagOff.same {H H' : Hp} {p q : Addr} (s : Same H H') (B : BagOff H p q) : BagOff H' p q := let ⟨c, b0, b1, b2, cs, h, g, z, n1, n2⟩ := B; ⟨c, b0, b1, b2, cs, s _ _ h, s _ _ g, z, n1, n2⟩
theorem BagOff.off {H : Hp} {p q : Addr} {o : HO} (B : BagOff H p q) : BagOff (upd H q o) p q := let ⟨c, b0, b1, b2, cs, h, g, z, n1, n2⟩ := B; ⟨c, b0, b1, b2, cs, by rw [upd_ne n1]; exact h, by rw [upd_ne n2]; exact g, z, n1, n2⟩
theorem BagOff.upd {H : Hp} {p q : Addr} {o : HO} (B : BagOff H p q) : Bag (upd H q o) p := B.off.bag
theorem BagOff.ne {H : Hp} {p q : Addr} (B : BagOff H p q) : p ≠ q := let ⟨_, _, _, _, _, _, _, _, n1, _⟩ := B; n1
theorem BagOff.put {H : Hp} {p q c : Addr} {b0 b1 b2 x y z : Int} (B : BagOff H p q) (h : H p = some (bagL b0 b1 b2 c)) (hz : 0 ≤ z) : BagOff (L2.upd H p (bagL x y z c)) p q := by
  obtain ⟨c', d0, d1, d2, cs, h', g, _, n1, n2⟩ := B
  have n3 := bag_ne h' g
  rw [h] at h'
  have e : c = c' := by
    have := HO.lst.inj (Option.some.inj h')
    simp at this
    exact this.2.2.2
  subst e
  exact ⟨c, x, y, z, cs, upd_same, by rw [upd_ne n3]; exact g, hz, n1, n2⟩
/-- the same promise, and what the bag doesn't reach it doesn't reach behind -/
def spTake2 : Sp := fun vs H Q _ => ∃ (p : Addr) (m : Int), vs = [.ref p, .int m] ∧ Bag H p ∧ 0 < m ∧ m.natAbs < 2 ^ 1000 ∧ ∀ (r : Int) (xs : List V), 0 ≤ r → r < m → Bag (L2.upd H p (.lst xs)) p → (∀ q, BagOff H p q → BagOff (L2.upd H p (.lst xs)) p q) → Q (.int r) (L2.upd H p (.lst xs))
theorem take_imp : ∀ (vs : List V) (H : Hp) (Q : VK) (E : XK), spTake vs H Q E → spTake2 vs H Q E := fun vs H Q E ⟨p, m, e, b, h0, h1, k⟩ => ⟨p, m, e, b, h0, h1, fun r xs r0 r1 hb _ => k r xs r0 r1 hb⟩
end HG

namespace HB
/-! blocks: the mirror and its mathematics -/
def bl (p : Nat) : Nat → Nat → Nat → Nat → List (Nat × Nat)
  | 0, _, _, _ => []
  | f + 1, v, l, h =>
    if l < h then
      if l % p ≠ 0 then (l, v) :: bl p f v (l + 1) h
      else if h % p ≠ 0 then bl p f v l (h - 1) ++ [(h - 1, v)]
      else bl p f (v + 1) (l / p) (h / p)
    else []
/-- with fuel enough -/
def B (p v l h : Nat) : List (Nat × Nat) := bl p (h - l) v l h
theorem half {p l h : Nat} (hp : 2 ≤ p) (hl : l < h) (l0 : l % p = 0) (h0 : h % p = 0) : h / p - l / p < h - l ∧ l / p < h / p := by
  have e1 : p * (l / p) = l := by have := Nat.div_add_mod l p; omega
  have e2 : p * (h / p) = h := by have := Nat.div_add_mod h p; omega
  have lt : l / p < h / p := by
    apply Nat.lt_of_mul_lt_mul_left (a := p)
    omega
  refine ⟨?_, lt⟩
  obtain ⟨d, hd⟩ : ∃ d, h / p = l / p + d := ⟨h / p - l / p, by omega⟩
  have e3 : h = l + p * d := by
    rw [← e2, hd, Nat.mul_add, e1]
  have : 2 * d ≤ p * d := Nat.mul_le_mul_right d hp
  omega
theorem bl_fuel {p : Nat} (hp : 2 ≤ p) : ∀ (f g v l h : Nat), h - l ≤ f → h - l ≤ g → bl p f v l h = bl p g v l h := by
  intro f
  induction f with
  | zero =>
    intro g v l h hf hg
    cases g with
    | zero => rfl
    | succ g =>
      have : ¬ l < h := by omega
      simp [bl, this]
  | succ f ih =>
    intro g v l h hf hg
    cases g with
    | zero =>
      have : ¬ l < h := by omega
      simp [bl, this]
    | succ g =>
      unfold bl
      by_cases c : l < h
      · rw [if_pos c, if_pos c]
        by_cases c1 : l % p ≠ 0
        · rw [if_pos c1, if_pos c1, ih g v (l + 1) h (by omega) (by omega)]
        · rw [if_neg c1, if_neg c1]
          by_cases c2 : h % p ≠ 0
          · rw [if_pos c2, if_pos c2, ih g v l (h - 1) (by omega) (by omega)]
          · rw [if_neg c2, if_neg c2]
            have := half hp c (by omega) (by omega)
            exact ih g (v + 1) (l / p) (h / p) (by omega) (by omega)
      · rw [if_neg c, if_neg c]
theorem B_end {p v l h : Nat} (c : ¬ l < h) : B p v l h = [] := by
  unfold B
  rw [show h - l = 0 by omega]
  rfl
theorem B_low {p v l h : Nat} (c : l < h) (m : l % p ≠ 0) : B p v l h = (l, v) :: B p v (l + 1) h := by
  unfold B
  rw [show h - l = (h - (l + 1)) + 1 by omega]
  show (if l < h then _ else _) = _
  rw [if_pos c, if_pos m]
theorem B_high {p v l h : Nat} (c : l < h) (m : l % p = 0) (m2 : h % p ≠ 0) : B p v l h = B p v l (h - 1) ++ [(h - 1, v)] := by
  unfold B
  rw [show h - l = (h - 1 - l) + 1 by omega]
  show (if l < h then _ else _) = _
  rw [if_pos c, if_neg (by omega), if_pos m2]
theorem B_up {p v l h : Nat} (hp : 2 ≤ p) (c : l < h) (m : l % p = 0) (m2 : h % p = 0) : B p v l h = B p (v + 1) (l / p) (h / p) := by
  have hh := half hp c m m2
  unfold B
  rw [show h - l = (h - l - 1) + 1 by omega]
  show (if l < h then _ else _) = _
  rw [if_pos c, if_neg (by omega), if_neg (by omega)]
  exact bl_fuel hp _ _ _ _ _ (by omega) (by omega)
theorem div_eq {p l h : Nat} (c : ¬ l < h) (e : l ≤ h) : B p 0 (l / p) (h / p) = [] := by
  have : l = h := by omega
  subst this
  exact B_end (by omega)
/-- a rule of induction: one for all three ways -/
theorem B_ind {p : Nat} (hp : 2 ≤ p) {C : Nat → Nat → Nat → List (Nat × Nat) → Prop}
    (h0 : ∀ v l h, l = h → C v l h [])
    (h1 : ∀ v l h, l < h → l % p ≠ 0 → C v (l + 1) h (B p v (l + 1) h) → C v l h ((l, v) :: B p v (l + 1) h))
    (h2 : ∀ v l h, l < h → l % p = 0 → h % p ≠ 0 → C v l (h - 1) (B p v l (h - 1)) → C v l h (B p v l (h - 1) ++ [(h - 1, v)]))
    (h3 : ∀ v l h, l < h → l % p = 0 → h % p = 0 → l / p < h / p → C (v + 1) (l / p) (h / p) (B p (v + 1) (l / p) (h / p)) → C v l h (B p (v + 1) (l / p) (h / p))) :
    ∀ (n v l h : Nat), h - l ≤ n → l ≤ h → C v l h (B p v l h) := by
  intro n
  induction n with
  | zero =>
    intro v l h hn hle
    rw [B_end (by omega)]
    exact h0 v l h (by omega)
  | succ n ih =>
    intro v l h hn hle
    by_cases c : l < h
    · by_cases c1 : l % p = 0
      · by_cases c2 : h % p = 0
        · have hh := half hp c c1 c2
          rw [B_up hp c c1 c2]
          exact h3 v l h c c1 c2 hh.2 (ih _ _ _ (by omega) (by omega))
        · rw [B_high c c1 c2]
          exact h2 v l h c c1 c2 (ih _ _ _ (by omega) (by omega))
      · rw [B_low c c1]
        exact h1 v l h c c1 (ih _ _ _ (by omega) (by omega))
    · rw [B_end c]
      exact h0 v l h (by omega)
/-! side by side -/
inductive Chain (p : Nat) : List (Nat × Nat) → Nat → Nat → Prop
  | nil (x) : Chain p [] x x
  | cons {a k r y} : Chain p r (a * p ^ k + p ^ k) y → Chain p ((a, k) :: r) (a * p ^ k) y
theorem Chain.snoc {p : Nat} {ks : List (Nat × Nat)} {x a k : Nat} (h : Chain p ks x (a * p ^ k)) : Chain p (ks ++ [(a, k)]) x (a * p ^ k + p ^ k) := by
  generalize e : a * p ^ k = y at h
  induction h with
  | nil x => subst e; exact .cons (.nil _)
  | cons r ih => exact .cons (ih e)
theorem pw {p v l : Nat} (m : l % p = 0) : l / p * p ^ (v + 1) = l * p ^ v := by
  have e1 : l / p * p = l := by have := Nat.div_add_mod l p; rw [Nat.mul_comm]; omega
  rw [Nat.pow_succ, Nat.mul_comm (p ^ v) p, ← Nat.mul_assoc, e1]
theorem B_chain {p : Nat} (hp : 2 ≤ p) {v l h : Nat} (hle : l ≤ h) : Chain p (B p v l h) (l * p ^ v) (h * p ^ v) := by
  refine B_ind hp (C := fun v l h ks => Chain p ks (l * p ^ v) (h * p ^ v)) ?_ ?_ ?_ ?_ (h - l) v l h (Nat.le_refl _) hle
  · intro v l h e; subst e; exact .nil _
  · intro v l h c m ih
    rw [Nat.succ_mul] at ih
    exact .cons ih
  · intro v l h c m m2 ih
    have e : h * p ^ v = (h - 1) * p ^ v + p ^ v := by
      rw [← Nat.succ_mul]
      congr 1
      omega
    rw [e]
    exact ih.snoc
  · intro v l h c m m2 hh ih
    rw [pw m, pw m2] at ih
    exact ih
/-! at most so many -/
theorem B_len {p : Nat} (hp : 2 ≤ p) : ∀ {v l h : Nat} (n : Nat), l ≤ h → h ≤ p ^ (n + 1) → (B p v l h).length ≤ 2 * ((p - 1) * n) + 1 + (if l % p = 0 then 0 else p - l % p) + h % p := by
  intro v l h n hle hn
  refine B_ind hp (C := fun v l h ks => ∀ n, h ≤ p ^ (n + 1) → ks.length ≤ 2 * ((p - 1) * n) + 1 + (if l % p = 0 then 0 else p - l % p) + h % p) ?_ ?_ ?_ ?_ (h - l) v l h (Nat.le_refl _) hle n hn
  · intro v l h e n _
    exact Nat.zero_le _
  · intro v l h c m ih n hn
    have := ih n hn
    rw [List.length_cons, if_neg m]
    have lt := Nat.mod_lt l (show 0 < p by omega)
    have key : (if (l + 1) % p = 0 then 0 else p - (l + 1) % p) + 1 = p - l % p := by
      rw [Nat.add_mod, Nat.mod_eq_of_lt (show 1 < p by omega)]
      by_cases z : l % p + 1 = p
      · rw [z, Nat.mod_self, if_pos rfl]; omega
      · rw [Nat.mod_eq_of_lt (show l % p + 1 < p by omega), if_neg (by omega)]; omega
    omega
  · intro v l h c m m2 ih n hn
    have := ih n (by omega)
    rw [List.length_append, List.length_singleton]
    have key : (h - 1) % p + 1 = h % p := by
      have e : h % p = ((h - 1) + 1) % p := by congr 1; omega
      have lt := Nat.mod_lt (h - 1) (show 0 < p by omega)
      rw [Nat.add_mod, Nat.mod_eq_of_lt (show 1 < p by omega)] at e
      by_cases z : (h - 1) % p + 1 = p
      · rw [z, Nat.mod_self] at e; omega
      · rw [Nat.mod_eq_of_lt (show (h - 1) % p + 1 < p by omega)] at e; omega
    omega
  · intro v l h c m m2 hh ih n hn
    rw [if_pos m, m2]
    cases n with
    | zero =>
      have e2 : h / p * p = h := by have := Nat.div_add_mod h p; rw [Nat.mul_comm]; omega
      have hp1 : h ≤ p := by simpa using hn
      have q1 : h / p ≤ 1 := by
        have := Nat.div_le_div_right (c := p) hp1
        rwa [Nat.div_self (by omega)] at this
      have q2 : h / p = 1 := Nat.le_antisymm q1 (Nat.lt_of_le_of_lt (Nat.zero_le _) hh)
      have q3 : l / p = 0 := by rw [q2] at hh; exact Nat.lt_one_iff.mp hh
      rw [q2, q3]
      have z : B p (v + 1) 0 1 = [(0, v + 1)] := by
        rw [B_high (by omega) (Nat.zero_mod p) (by rw [Nat.mod_eq_of_lt (by omega)]; omega), B_end (by omega)]
        rfl
      rw [z]
      exact Nat.le_add_left _ _
    | succ n =>
      have hq : h / p ≤ p ^ (n + 1) := by
        rw [Nat.pow_succ] at hn
        exact Nat.div_le_of_le_mul (by rw [Nat.mul_comm]; exact hn)
      have := ih n hq
      have a1 : (if l / p % p = 0 then 0 else p - l / p % p) ≤ p - 1 := by split <;> omega
      have a2 : h / p % p ≤ p - 1 := by have := Nat.mod_lt (h / p) (show 0 < p by omega); omega
      rw [Nat.mul_succ]
      omega
theorem B_len' {p : Nat} (hp : 2 ≤ p) {v l h : Nat} (n : Nat) (hle : l ≤ h) (hn : h ≤ p ^ (n + 1)) : (B p v l h).length ≤ 2 * (p - 1) * (n + 1) + 1 := by
  have := B_len hp (v := v) n hle hn
  have a1 : (if l % p = 0 then 0 else p - l % p) ≤ p - 1 := by split <;> omega
  have a2 : h % p ≤ p - 1 := by have := Nat.mod_lt h (show 0 < p by omega); omega
  rw [Nat.mul_assoc, Nat.mul_succ]
  omega
/-! none can be wider -/
def LowI (p F v l : Nat) : Prop := (l % p = 0 → l * p ^ v < F + p ^ (v + 1)) ∧ (l % p ≠ 0 → l / p * p ^ (v + 1) < F)
def HighI (p L v h : Nat) : Prop := L < (h / p + 1) * p ^ (v + 1)
theorem succ_mod {p l : Nat} (hp : 2 ≤ p) (m : l % p ≠ 0) : ((l + 1) % p = 0 ∧ l + 1 = (l / p + 1) * p) ∨ ((l + 1) % p ≠ 0 ∧ (l + 1) / p = l / p) := by
  have lt := Nat.mod_lt l (show 0 < p by omega)
  have dm := Nat.div_add_mod l p
  generalize hr : l % p = r at *
  generalize hq : l / p = q at *
  have e : l + 1 = (r + 1) + q * p := by rw [Nat.mul_comm q p]; omega
  by_cases z : r + 1 = p
  · left
    rw [e, z, Nat.succ_mul, Nat.add_comm]
    refine ⟨?_, rfl⟩
    rw [Nat.add_mod, Nat.mul_mod_left, Nat.mod_self]
    simp
  · right
    rw [e, Nat.add_mul_mod_self_right, Nat.add_mul_div_right _ _ (by omega), Nat.mod_eq_of_lt (by omega), Nat.div_eq_of_lt (by omega)]
    omega
theorem pred_div {p h : Nat} (hp : 2 ≤ p) (m : h % p ≠ 0) : (h - 1) / p = h / p := by
  have lt := Nat.mod_lt h (show 0 < p by omega)
  have dm := Nat.div_add_mod h p
  generalize hr : h % p = r at *
  generalize hq : h / p = q at *
  have e : h - 1 = (r - 1) + q * p := by rw [Nat.mul_comm q p]; omega
  rw [e, Nat.add_mul_div_right _ _ (by omega), Nat.div_eq_of_lt (by omega)]
  omega
theorem LowI.step {p F v l : Nat} (hp : 2 ≤ p) (m : l % p ≠ 0) (I : LowI p F v l) : LowI p F v (l + 1) := by
  have i := I.2 m
  rcases succ_mod hp m with ⟨a, b⟩ | ⟨a, b⟩
  · refine ⟨fun _ => ?_, fun z => absurd a z⟩
    rw [b, Nat.mul_assoc, Nat.mul_comm p, ← Nat.pow_succ, Nat.succ_mul]
    show l / p * p ^ (v + 1) + p ^ (v + 1) < F + p ^ (v + 1)
    omega
  · refine ⟨fun z => absurd z a, fun _ => ?_⟩
    rw [b]
    exact i
theorem LowI.up {p F v l : Nat} (hp : 2 ≤ p) (m : l % p = 0) (I : LowI p F v l) : LowI p F (v + 1) (l / p) := by
  have i := I.1 m
  rw [← pw m] at i
  generalize l / p = u at *
  constructor
  · intro _
    have : p ^ (v + 1) ≤ p ^ (v + 1 + 1) := Nat.pow_le_pow_right (by omega) (by omega)
    omega
  · intro z
    have dm := Nat.div_add_mod u p
    have e : u / p * p ^ (v + 1 + 1) + p ^ (v + 1) ≤ u * p ^ (v + 1) := by
      rw [Nat.pow_succ p (v + 1), Nat.mul_comm (p ^ (v + 1)) p, ← Nat.mul_assoc, ← Nat.succ_mul]
      apply Nat.mul_le_mul_right
      rw [Nat.mul_comm]
      omega
    omega
theorem HighI.up {p L v h : Nat} (hp : 2 ≤ p) (I : HighI p L v h) : HighI p L (v + 1) (h / p) := by
  unfold HighI at *
  generalize h / p = u at *
  refine Nat.lt_of_lt_of_le I ?_
  rw [Nat.pow_succ p (v + 1), Nat.mul_comm (p ^ (v + 1)) p, ← Nat.mul_assoc]
  apply Nat.mul_le_mul_right
  have dm := Nat.div_add_mod u p
  have lt := Nat.mod_lt u (show 0 < p by omega)
  rw [Nat.succ_mul, Nat.mul_comm]
  omega
theorem B_wide {p : Nat} (hp : 2 ≤ p) {F L v l h : Nat} (hle : l ≤ h) (hl : LowI p F v l) (hh : HighI p L v h) : ∀ x ∈ B p v l h, x.1 / p * p ^ (x.2 + 1) < F ∨ L < (x.1 / p + 1) * p ^ (x.2 + 1) := by
  refine B_ind hp (C := fun v l h ks => LowI p F v l → HighI p L v h → ∀ x ∈ ks, x.1 / p * p ^ (x.2 + 1) < F ∨ L < (x.1 / p + 1) * p ^ (x.2 + 1)) ?_ ?_ ?_ ?_ (h - l) v l h (Nat.le_refl _) hle hl hh
  · intro v l h e _ _ x hx
    cases hx
  · intro v l h c m ih il ih2 x hx
    rcases List.mem_cons.mp hx with rfl | hx
    · exact .inl (il.2 m)
    · exact ih (il.step hp m) ih2 x hx
  · intro v l h c m m2 ih il ih2 x hx
    rcases List.mem_append.mp hx with hx | hx
    · refine ih il ?_ x hx
      unfold HighI at *
      rw [pred_div hp m2]
      exact ih2
    · rw [List.mem_singleton] at hx
      subst hx
      right
      show L < ((h - 1) / p + 1) * p ^ (v + 1)
      rw [pred_div hp m2]
      exact ih2
  · intro v l h c m m2 _ ih il ih2 x hx
    exact ih (il.up hp m) (ih2.up hp) x hx
theorem B_wide0 {p f e : Nat} (hp : 2 ≤ p) (hle : f ≤ e) : ∀ x ∈ B p 0 f e, x.1 / p * p ^ (x.2 + 1) < f ∨ e < (x.1 / p + 1) * p ^ (x.2 + 1) := by
  refine B_wide hp hle ⟨fun _ => ?_, fun m => ?_⟩ ?_
  · rw [Nat.pow_zero]
    have : 0 < p ^ (0 + 1) := Nat.pow_pos (by omega)
    omega
  · have dm := Nat.div_add_mod f p
    rw [Nat.zero_add, Nat.pow_one, Nat.mul_comm]
    omega
  · unfold HighI
    have dm := Nat.div_add_mod e p
    have lt := Nat.mod_lt e (show 0 < p by omega)
    rw [Nat.zero_add, Nat.pow_one, Nat.succ_mul, Nat.mul_comm]
    omega
/-! one block -/
theorem B_one {p : Nat} (hp : 2 ≤ p) : ∀ (n v : Nat), B p v 0 (p ^ n) = [(0, v + n)]
  | 0, v => by
    rw [B_high (by simp) (Nat.zero_mod p) (by rw [Nat.pow_zero, Nat.mod_eq_of_lt (by omega)]; omega), B_end (by simp)]
    rfl
  | n + 1, v => by
    have e : p ^ (n + 1) / p = p ^ n := by rw [Nat.pow_succ, Nat.mul_div_cancel _ (by omega)]
    rw [B_up hp (Nat.pow_pos (by omega)) (Nat.zero_mod p) (by rw [Nat.pow_succ, Nat.mul_mod_left]), e, Nat.zero_div, B_one hp n (v + 1)]
    congr 2
    omega
/-- levels are low -/
theorem Chain.le {p : Nat} {ks : List (Nat × Nat)} {x y : Nat} (h : Chain p ks x y) : x ≤ y ∧ ∀ b ∈ ks, x ≤ b.1 * p ^ b.2 ∧ b.1 * p ^ b.2 + p ^ b.2 ≤ y := by
  induction h with
  | nil x => exact ⟨Nat.le_refl _, fun b hb => nomatch hb⟩
  | cons r ih =>
    refine ⟨by omega, fun b hb => ?_⟩
    rcases List.mem_cons.mp hb with rfl | hb
    · exact ⟨Nat.le_refl _, ih.1⟩
    · have := ih.2 b hb
      omega
end HB

namespace HG
open PySem PySem.Spec PyProof.Rows L2 HB
def kV2 (k : Nat × Nat) : HO := .tup [.int (k.1 : Int), .int (k.2 : Int)]
/-- at these places stand these pairs -/
def Tups (H : Hp) : List Addr → List (Nat × Nat) → Prop
  | [], [] => True
  | t :: ts, k :: ks => H t = some (kV2 k) ∧ Tups H ts ks
  | _, _ => False
theorem Tups.len {H : Hp} : ∀ {ts : List Addr} {ks : List (Nat × Nat)}, Tups H ts ks → ts.length = ks.length
  | [], [], _ => rfl
  | _ :: _, _ :: _, h => congrArg (· + 1) (Tups.len h.2)
  | [], _ :: _, h => h.elim
  | _ :: _, [], h => h.elim
theorem Tups.mono {H H' : Hp} (s : ∀ t k, H t = some (kV2 k) → H' t = some (kV2 k)) : ∀ {ts : List Addr} {ks : List (Nat × Nat)}, Tups H ts ks → Tups H' ts ks
  | [], [], _ => trivial
  | _ :: _, _ :: _, h => ⟨s _ _ h.1, Tups.mono s h.2⟩
  | [], _ :: _, h => h.elim
  | _ :: _, [], h => h.elim
theorem Tups.app {H : Hp} {us : List Addr} {ms : List (Nat × Nat)} (g : Tups H us ms) : ∀ {ts : List Addr} {ks : List (Nat × Nat)}, Tups H ts ks → Tups H (ts ++ us) (ks ++ ms)
  | [], [], _ => g
  | _ :: _, _ :: _, h => ⟨h.1, Tups.app g h.2⟩
  | [], _ :: _, h => h.elim
  | _ :: _, [], h => h.elim
theorem Tups.rev {H : Hp} : ∀ {ts : List Addr} {ks : List (Nat × Nat)}, Tups H ts ks → Tups H ts.reverse ks.reverse
  | [], [], _ => trivial
  | t :: ts, k :: ks, h => by
    rw [List.reverse_cons, List.reverse_cons]
    exact Tups.app (show Tups H [t] [k] from ⟨h.1, trivial⟩) (Tups.rev h.2)
  | [], _ :: _, h => h.elim
  | _ :: _, [], h => h.elim
theorem Tups.get {H : Hp} : ∀ {ts : List Addr} {ks : List (Nat × Nat)} {i : Nat} {t : Addr}, Tups H ts ks → ts[i]? = some t → ∃ k, ks[i]? = some k ∧ H t = some (kV2 k)
  | [], [], _, _, _, h => by cases h
  | t :: ts, k :: ks, 0, _, h, e => by
    cases e
    exact ⟨k, rfl, h.1⟩
  | t :: ts, k :: ks, i + 1, _, h, e => Tups.get (i := i) h.2 e
  | [], _ :: _, _, _, h, _ => h.elim
  | _ :: _, [], _, _, h, _ => h.elim
def kD (k : Nat × Nat) : PyData := .tuple [.int (k.1 : Int), .int (k.2 : Int)]
theorem Tups.dp {K : PySem.W.Frag} {H : Hp} : ∀ {ts : List Addr} {ks : List (Nat × Nat)}, Tups H ts ks → DpAll K H (ts.map V.ref) (ks.map kD)
  | [], [], _ => .nil
  | _ :: _, _ :: _, h => .cons (.tup (.of h.1) (.cons (.int _) (.cons (.int _) .nil))) (Tups.dp h.2)
  | [], _ :: _, h => h.elim
  | _ :: _, [], h => h.elim
/-- the state of the walk of blocks -/
def Inn (H : Hp) (fr bk : Addr) (p : Nat) (R : List (Nat × Nat)) (d v lo hi : Nat) (H' : Hp) : Prop :=
  lo ≤ hi ∧ hi - lo ≤ d ∧ Same H H' ∧ ∃ (ts us : List Addr) (ks ms : List (Nat × Nat)), H' fr = some (.lst (ts.map V.ref)) ∧ H' bk = some (.lst (us.map V.ref)) ∧ Tups H' ts ks ∧ Tups H' us ms ∧ ks ++ B p v lo hi ++ ms.reverse = R
theorem tup_stay {H' : Hp} {t fr : Addr} {xs ys : List V} {o : HO} (ht : H' t = none) (hf : H' fr = some (.lst xs)) : ∀ a k, H' a = some (kV2 k) → (upd (upd H' t o) fr (.lst ys)) a = some (kV2 k) := fun a k e => by
  have n1 : a ≠ fr := ne_of e hf (by intro z; cases z)
  rw [upd_ne n1, upd_ne (ne_of_none e ht)]
  exact e
theorem fr_same {H H' : Hp} {t fr : Addr} {o u : HO} (s : Same H H') (nf : H fr = none) (ht : H' t = none) : Same H (upd (upd H' t o) fr u) := fun b x e => by
  rw [upd_ne (ne_of_none e nf), upd_ne (ne_of_none e (s.free ht))]
  exact s b x e
theorem Inn.front {H H' : Hp} {fr bk : Addr} {p : Nat} {R : List (Nat × Nat)} {d v lo hi : Nat} (I : Inn H fr bk p R d v lo hi H') (nf : H fr = none) (nfb : fr ≠ bk) (c : lo < hi) (m : lo % p ≠ 0) {t : Addr} (ht : H' t = none) :
    ∃ xs, (upd H' t (kV2 (lo, v))) fr = some (.lst xs) ∧ xs.length ≤ R.length ∧ Inn H fr bk p R d v (lo + 1) hi (upd (upd H' t (kV2 (lo, v))) fr (.lst (xs ++ [.ref t]))) := by
  obtain ⟨i1, i2, s, ts, us, ks, ms, hf, hb, tf, tb, e⟩ := I
  have ntf : fr ≠ t := ne_of_none hf ht
  have ntb : bk ≠ t := ne_of_none hb ht
  refine ⟨ts.map V.ref, by rw [upd_ne ntf]; exact hf, ?_, by omega, by omega, fr_same s nf ht, ts ++ [t], us, ks ++ [(lo, v)], ms, ?_, ?_, ?_, ?_, ?_⟩
  · rw [List.length_map, tf.len, ← e, List.length_append, List.length_append]
    omega
  · rw [upd_same, List.map_append]
    rfl
  · rw [upd_ne nfb.symm, upd_ne ntb]
    exact hb
  · refine Tups.app (show Tups _ [t] [(lo, v)] from ⟨?_, trivial⟩) (tf.mono (tup_stay ht hf))
    rw [upd_ne ntf.symm, upd_same]
  · exact tb.mono (tup_stay ht hf)
  · rw [← e, B_low c m, List.append_assoc, List.append_assoc, List.append_assoc]
    rfl
theorem Inn.back {H H' : Hp} {fr bk : Addr} {p : Nat} {R : List (Nat × Nat)} {d v lo hi : Nat} (I : Inn H fr bk p R d v lo hi H') (nb : H bk = none) (nfb : fr ≠ bk) (c : lo < hi) (m : lo % p = 0) (m2 : hi % p ≠ 0) {t : Addr} (ht : H' t = none) :
    ∃ xs, (upd H' t (kV2 (hi - 1, v))) bk = some (.lst xs) ∧ xs.length ≤ R.length ∧ Inn H fr bk p R d v lo (hi - 1) (upd (upd H' t (kV2 (hi - 1, v))) bk (.lst (xs ++ [.ref t]))) := by
  obtain ⟨i1, i2, s, ts, us, ks, ms, hf, hb, tf, tb, e⟩ := I
  have ntf : fr ≠ t := ne_of_none hf ht
  have ntb : bk ≠ t := ne_of_none hb ht
  refine ⟨us.map V.ref, by rw [upd_ne ntb]; exact hb, ?_, by omega, by omega, fr_same s nb ht, ts, us ++ [t], ks, ms ++ [(hi - 1, v)], ?_, ?_, ?_, ?_, ?_⟩
  · rw [List.length_map, tb.len, ← e, List.length_append, List.length_append, List.length_reverse]
    omega
  · rw [upd_ne nfb, upd_ne ntf]
    exact hf
  · rw [upd_same, List.map_append]
    rfl
  · exact tf.mono (tup_stay ht hb)
  · refine Tups.app (show Tups _ [t] [(hi - 1, v)] from ⟨?_, trivial⟩) (tb.mono (tup_stay ht hb))
    rw [upd_ne ntb.symm, upd_same]
  · rw [← e, B_high c m m2, List.reverse_append]
    simp only [List.append_assoc]
    rfl
theorem Inn.up {H H' : Hp} {fr bk : Addr} {p : Nat} {R : List (Nat × Nat)} {d v lo hi : Nat} (hp : 2 ≤ p) (I : Inn H fr bk p R d v lo hi H') (m : lo = hi ∨ (lo % p = 0 ∧ hi % p = 0)) (hd : 0 < d) : ∃ d', d' < d ∧ Inn H fr bk p R d' (v + 1) (lo / p) (hi / p) H' ∧ hi / p - lo / p = d' := by
  obtain ⟨i1, i2, s, ts, us, ks, ms, hf, hb, tf, tb, e⟩ := I
  have key : hi / p - lo / p < d ∧ B p (v + 1) (lo / p) (hi / p) = B p v lo hi := by
    by_cases c : lo = hi
    · subst c
      rw [B_end (by omega), B_end (by omega)]
      exact ⟨by omega, rfl⟩
    · rcases m with m | ⟨m, m2⟩
      · exact absurd m c
      · have h1 := half hp (show lo < hi by omega) m m2
        exact ⟨by omega, (B_up hp (by omega) m m2).symm⟩
  refine ⟨_, key.1, ⟨Nat.div_le_div_right i1, Nat.le_refl _, s, ts, us, ks, ms, hf, hb, tf, tb, ?_⟩, rfl⟩
  rw [key.2]
  exact e
def spBlocks : Sp := fun vs H Q _ => ∃ (f l p : Nat), vs = [.int (f : Int), .int (l : Int), .int (p : Int)] ∧ f ≤ l ∧ 2 ≤ p ∧ p ≤ 4 ∧ (B p 0 f (l + 1)).length ≤ 1000 ∧
  ∀ (q : Addr) (ts : List Addr) (H' : Hp), Same H H' → H q = none → H' q = some (.lst (ts.map V.ref)) → Tups H' ts (B p 0 f (l + 1)) → Q (.ref q) H'
def spSize : Sp := fun vs H Q _ => ∃ (p m : Nat), vs = [.int (p : Int), .int (m : Int)] ∧ p < 1000 ∧ m < 1000 ∧ Q (.int ((p ^ m : Nat) : Int)) H
end HG

/-! data of any depth: it stays, it can be compared -/
namespace HG
open PySem PySem.Spec PyProof.Rows L2
theorem sqT_same {K : PySem.W.Frag} {H H' : Hp} {a : Addr} {xs : List V} (e : Same H H') (h : SqT K H a xs) : SqT K H' a xs := by
  rcases h with (h | ⟨o, h⟩) | h
  · exact .inl (.inl (e _ _ h))
  · exact .inl (.inr ⟨o, e _ _ h⟩)
  · exact .inr h
mutual
theorem dp_same {K : PySem.W.Frag} {H H' : Hp} (s : Same H H') : ∀ (d : PyData) (v : V), Dp K H v d → Dp K H' v d
  | .none, _, h => by cases h; exact .non
  | .bool b, _, h => by cases h; exact .bl b
  | .int i, _, h => by cases h; exact .int i
  | .str x, _, h => by cases h; exact .str x
  | .list ds, _, h => by
    cases h with
    | lst h1 h2 => exact .lst (s.seq h1) (dpAll_same s ds _ h2)
  | .tuple ds, _, h => by
    cases h with
    | tup h1 h2 => exact .tup (sqT_same s h1) (dpAll_same s ds _ h2)
  | .dict _, _, h => by cases h
theorem dpAll_same {K : PySem.W.Frag} {H H' : Hp} (s : Same H H') : ∀ (ds : List PyData) (vs : List V), DpAll K H vs ds → DpAll K H' vs ds
  | [], _, h => by cases h; exact .nil
  | d :: ds, _, h => by
    cases h with
    | cons h1 h2 => exact .cons (dp_same s d _ h1) (dpAll_same s ds _ h2)
end
theorem dp_lst {K : PySem.W.Frag} {H : Hp} {p : Addr} {xs : List V} {ds : List PyData} (h : DpAll K H xs ds) (np : H p = none) : Dp K (upd H p (.lst xs)) (.ref p) (.list ds) :=
  .lst (.of upd_same) (dpAll_same (same_upd np) _ _ h)
theorem dp_tup {K : PySem.W.Frag} {H : Hp} {p : Addr} {xs : List V} {ds : List PyData} (h : DpAll K H xs ds) (np : H p = none) : Dp K (upd H p (.tup xs)) (.ref p) (.tuple ds) :=
  .tup (.of upd_same) (dpAll_same (same_upd np) _ _ h)
theorem dpAll_ints {K : PySem.W.Frag} {H : Hp} : ∀ ns : List Int, DpAll K H (ns.map V.int) (ns.map PyData.int)
  | [] => .nil
  | n :: ns => .cons (.int n) (dpAll_ints ns)
theorem shaped_list {ds : List PyData} (h : ∀ d ∈ ds, PyData.canLay0 d = true ∧ PyData.depth d ≤ 40) : PyData.canLay0 (.list ds) = true ∧ SeqAt.shaped (.list ds) = true := by
  have key : PyData.canLayAll0 ds = true ∧ PyData.depthAll ds ≤ 40 := by
    induction ds with
    | nil => exact ⟨rfl, by show 0 ≤ 40; decide⟩
    | cons d ds ih =>
      obtain ⟨i1, i2⟩ := ih fun d' hd => h d' (List.mem_cons_of_mem _ hd)
      obtain ⟨j1, j2⟩ := h d List.mem_cons_self
      refine ⟨?_, ?_⟩
      · show (PyData.canLay0 d && PyData.canLayAll0 ds) = true
        rw [j1, i1]
        rfl
      · show max (PyData.depth d) (PyData.depthAll ds) ≤ 40
        omega
  refine ⟨key.1, ?_⟩
  show (PyData.canLayAll0 ds && decide (PyData.depthAll ds + 1 ≤ 64)) = true
  rw [key.1, decide_eq_true (by omega)]
  rfl
theorem shaped_ints (ns : List Int) : PyData.canLay0 (.list (ns.map PyData.int)) = true ∧ SeqAt.shaped (.list (ns.map PyData.int)) = true := shaped_list fun d hd => by
  obtain ⟨n, _, rfl⟩ := List.mem_map.mp hd
  exact ⟨rfl, by show 0 ≤ 40; decide⟩
theorem shaped_kD (ks : List (Nat × Nat)) : PyData.canLay0 (.list (ks.map kD)) = true ∧ SeqAt.shaped (.list (ks.map kD)) = true := shaped_list fun d hd => by
  obtain ⟨n, _, rfl⟩ := List.mem_map.mp hd
  exact ⟨rfl, by show 1 ≤ 40; decide⟩
end HG

/-! promises of defs that are called where no repr is under way; repr of data -/
namespace HG
open PySem PySem.Spec PyProof.Rows L2
section
variable {P : Program} {w : World} {K : PySem.W.Frag} {mg : Str → Option Value} {base : Heap} {CX : CXT} {k : Nat} {f : Addr} {fd : FuncData} {ps : List Str} {sp : Sp}
/-- as FnOk, but only for calls outside of every repr -/
structure FnG (P : Program) (w : World) (K : PySem.W.Frag) (mg : Str → Option Value) (base : Heap) (CX : CXT) (k : Nat) (f : Addr) (fd : FuncData) (ps : List Str) (sp : Sp) : Prop where
  many : ∀ vs H Q E, sp vs H Q E → vs.length = ps.length
  goes : ∀ (A : Around) (outer : List Env) (s : Shared) (H : Hp) (args : Args) (us : List Value) (vs : List V) (Q : VK) (E : XK), A.guards = some [] → Room k A → Env0 P w K mg base A outer s H →
    BindsTo s fd args (ps.zip us) → Vals vs us → sp vs H Q E → codeAny (model P w) A (.call (.ref f) args) (CR CX outer P w H s Q E) s
theorem FnG.of (F : FnOk P w K mg base CX k f fd ps sp) : FnG P w K mg base CX k f fd ps sp :=
  ⟨F.len, fun A outer s H args us vs Q E _ => F.run A outer s H args us vs Q E⟩
theorem FnG.up {j : Nat} (F : FnG P w K mg base CX j f fd ps sp) (h : j ≤ k) : FnG P w K mg base CX k f fd ps sp :=
  ⟨F.many, fun A outer s H args us vs Q E g r => F.goes A outer s H args us vs Q E g (r.mono h)⟩
/-- the end of a frame, as its caller sees it -/
theorem cr_of {A : Around} {outer : List Env} {s s' : Shared} {H : Hp} {Q : VK} {E : XK} {N : List Str} {qual : Str} {sc : Scope} {cdv : Value} {fl : Flow}
    (h : SP (cxOf CX P w K mg base N qual sc f cdv A outer s H E) [] { nx := fun _ H' => Q .non H', rt := Q } fl s') : ∀ r : Result, (r = match fl with | .ret u => (.ok (.ret u) : Result) | _ => (.ok (.ret .none) : Result)) → CR CX outer P w H s Q E r s' := by
  rintro _ rfl
  cases fl with
  | ret u => obtain ⟨v, _, H', J, rv, q⟩ := h; exact ⟨v, H', J.os, J.bare, J.base, J.hok, rv, q⟩
  | next => obtain ⟨_, H', J, q⟩ := h; exact ⟨.non, H', J.os, J.bare, J.base, J.hok, rfl, q⟩
  | brk => obtain ⟨_, _, _, q⟩ := h; exact q.elim
  | cont => obtain ⟨_, _, _, q⟩ := h; exact q.elim
/-- a def of the text keeps its promise, by its body, wherever no repr is under way -/
theorem okG {x qual : Str} {st : Stmt} {N : List Str} (F : Fun K x qual st f fd) (S : FnScope N ps (defScope st)) (len : ∀ vs H Q E, sp vs H Q E → vs.length = ps.length)
    (hb : ∀ (cdv : Value) (A : Around) (outer : List Env) (s : Shared) (H : Hp) (vs : List V) (Q : VK) (E : XK), A.guards = some [] → Room k (A.deeper (envOfC qual (defScope st) s.heap.objs.size f cdv)) → sp vs H Q E →
      ∃ t, PSs (cxOf CX P w K mg base N qual (defScope st) f cdv A outer s H E) (defBody st) t ∧ t { nx := fun _ H' => Q .non H', rt := Q } (start N vs) H) : FnG P w K mg base CX (k + 1) f fd ps sp := by
  obtain ⟨oc, od, kV, doc, pm, an, cdv, ct, osl, rfl, lk, hcd⟩ := F.ex
  refine ⟨len, fun A outer s H args us vs Q E hg hr e0 bt rv hs => ?_⟩
  have old : ∀ b o, base.get? b = some o → s.heap.get? b = some o := fun b o e => (e0.bs b o e).1
  have KX := e0.mod.kin.keeps old
  have kinds : ∀ y ∈ ps.zip us, (defScope st).names.lookup y.1 = some .local ∨ ((defScope st).names.lookup y.1 = some .cell ∧ ((cellsFrom (s.heap.objs.size + 1) (defScope st).names []).lookup y.1).isSome = true) := by
    rintro ⟨n, v⟩ hy
    exact (S.par n (List.of_mem_zip hy).1).imp id fun q => ⟨q, PySem.W.cellsFrom_some _ _ _ (.inl q)⟩
  apply codeAny_call_function hr.depth (KX _ _ lk) rfl S.co S.gen rfl (PySem.W.codeRec_of KX hcd)
  refine bt _ _ _ _ (wpAny_newFunctionEnv_cells S.kind kinds ?_)
  rintro _ rfl s1 x
  refine ⟨(e0.mod.nolimit.keeps old).keeps x.toInCall.keep, codeAny_func ?_⟩
  obtain ⟨t, ht, hq⟩ := hb cdv A outer s H vs Q E hg (hr.deeper _) hs
  refine wpAny_mono (ht.run [] s1 (start N vs) H _ (inv_start S hr.hd e0 (len _ _ _ _ hs) rv x) hq) ?_ ?_
  · intro fl s' h
    have z := cr_of h
    cases fl with
    | ret u => exact z _ rfl
    | next => exact z _ rfl
    | brk => obtain ⟨_, _, _, q⟩ := h; exact q.elim
    | cont => obtain ⟨_, _, _, q⟩ := h; exact q.elim
  · intro e s' h
    exact h
end
/-- the same of a def that nothing raised leaves -/
theorem okG0 {P : Program} {w : World} {K : PySem.W.Frag} {mg : Str → Option Value} {base : Heap} {k : Nat} {f : Addr} {fd : FuncData} {ps : List Str} {sp : Sp} {x qual : Str} {st : Stmt} {N : List Str} (F : Fun K x qual st f fd) (S : FnScope N ps (defScope st)) (len : ∀ vs H Q E, sp vs H Q E → vs.length = ps.length)
    (hb : ∀ (cdv : Value) (A : Around) (outer : List Env) (s : Shared) (H : Hp) (vs : List V) (Q : VK) (E : XK), A.guards = some [] → Room k (A.deeper (envOfC qual (defScope st) s.heap.objs.size f cdv)) → sp vs H Q E →
      ∃ t, PSs (cxOf CX0 P w K mg base N qual (defScope st) f cdv A outer s H E).nox (defBody st) t ∧ t { nx := fun _ H' => Q .non H', rt := Q } (start N vs) H) : FnG P w K mg base CX0 (k + 1) f fd ps sp := by
  refine okG F S len fun cdv A outer s H vs Q E g r h => ?_
  obtain ⟨t, ht, q⟩ := hb cdv A outer s H vs Q E g r h
  exact ⟨t, ht.nox, q⟩
section
variable {X : Cx} {CX : CXT} {k : Nat} {f : Addr} {fd : FuncData} {ps : List Str} {sp : Sp} {dvs : List V} {ds : List Value} {E : XK} {x : Str} {p pos : Pos} {e : Expr} {es : List Expr} {t : TA}
theorem runG {pins : List (Addr × Obj)} {σ : L2.St} {H : Hp} {s : Shared} {Q : VK} {us : List Value} {vs : List V} (F : FnG X.prog X.w X.K X.mg X.base CX k f fd ps sp) (hg : X.A.guards = some []) (hr : Room k X.A) (hb : Binds X.K fd ps ds) (hd : Vals dvs ds)
    (hx : Passes CX X E) (I : Inv X pins σ H s) (r : Vals vs us) (h : sp (vs ++ dvs) H Q E) : wpAny (model X.prog X.w) X.A (call (.ref f) us) (EP X pins σ Q) X.xe s := by
  have rr := r.append hd
  have bt := hb s us I.kIn (by rw [← rr.length]; exact F.many _ _ _ _ h)
  refine wpAny_call (codeAny_mono (F.goes X.A X.stack s H ⟨us, []⟩ _ _ Q E hg hr I.env0 bt rr h) ?_)
  rintro (e | fl) s' hq
  · exact hx pins σ H s e s' I hq
  · cases fl with
    | ret u => exact I.after hq
    | next => exact hq.elim
    | brk => exact hq.elim
    | cont => exact hq.elim
/-- f(e, ..) of such a def -/
theorem pe_callG (F : FnG X.prog X.w X.K X.mg X.base CX k f fd ps sp) (hg : X.A.guards = some []) (hr : Room k X.A) (gl : Gl X x) (hm : X.mg x = some (.ref f)) (hk : PySem.W.keepIn X.K (.ref f) = true) (hb : Binds X.K fd ps ds) (hd : Vals dvs ds)
    (hx : Passes CX X E) (ha : PA X (e :: es) t) (hdb : (x == ("__debug__" : Str)) = false := by decide) (he : starEach (e :: es) X.env = (false, eval e X.env) :: starEach es X.env := by rfl)
    (hpl : (backTo pos (starEach es X.env)).any (·.1) = false := by rfl) : PE X (.Call (.Name x p) (e :: es) [] pos) (tCall sp dvs E t) := by
  refine ⟨fun pins s σ H Q I h => wpAny_Call_Name_kw (ld_glob I gl hm ?_ hdb)⟩
  refine PySem.W.callWith_K (h₀ := X.base) I.ok.mod.kin hk (thn (ha.run pos pins s σ H _ I h) ?_) he hpl
  rintro us s1 ⟨vs, H1, I1, r, q⟩
  exact ⟨I1.kIn, runG F hg hr hb hd hx I1 r q⟩
end

/-! ### repr -/
def rRepr (K : PySem.W.Frag) : List V → Hp → VK → Prop := fun xs H Q => ∃ (x : V) (d : PyData), xs = [x] ∧ Dp K H x d ∧ d.canLay0 = true ∧ d.showable = true ∧ d.depth ≤ 40 ∧ d.shown.length ≤ sizeLine ∧ Q (.str d.shown) H
theorem call_reprG {X : Cx} {k : Nat} (hg : X.A.guards = some []) (hr : Room k X.A) : CallR X (.builtin "repr") (rRepr X.K) := by
  intro pins s σ H xs us Q I r h
  obtain ⟨x, d, rfl, hd, hc, hs, h40, hz, q⟩ := h
  obtain ⟨u, rfl, rx⟩ := vals1 r
  have un : X.A.units + 100 < cLine := by have := hr.un; omega
  obtain ⟨as, rd⟩ := Dp.reads I d x u hd rx
  have str : ∀ (y : Str) (h' : Heap) (tk tk' : Tok) (n : Nat), d.shown = y → (∀ b o, s.heap.get? b = some o → h'.get? b = some o) → EP X pins σ Q (.str y tk) { s with heap := h', toks := n } := by
    rintro _ h' tk tk' n rfl kk
    exact ⟨.str d.shown, H, I.kept kk, ⟨_, rfl⟩, q⟩
  cases rd with
  | none => exact PySem.P.repr_of_none (str _ _ _ 0 _ rfl fun _ _ z => z)
  | bool b => exact PySem.P.repr_of_bool (str _ _ _ 0 _ (by simp only [PyData.shown]) fun _ _ z => z)
  | int i t =>
    have hs2 : i.natAbs.log2 < 1920 := by simpa [PyData.showable] using hs
    exact PySem.P.repr_of_int hs2 (str _ _ _ 0 _ (by simp only [PyData.shown]) fun _ _ z => z)
  | str y t =>
    have hz2 : (reprText y).length ≤ sizeLine := by simpa only [PyData.shown] using hz
    exact PySem.P.repr_of_str (str _ _ _ 0 _ (by simp only [PyData.shown]) fun _ _ z => z) hz2
  | list h1 h2 h3 h4 => exact repr_of_reads' (.list h1 h2 h3 h4) hs (PyData.noDict_hsm (PyData.hasDict_of_canLay _ hc)) hg (by omega) (fun _ _ z => z) (fun h' u tk kk => str _ _ _ 0 _ rfl kk) hz
  | tuple h1 h2 h3 h4 => exact repr_of_reads' (.tuple h1 h2 h3 h4) hs (PyData.noDict_hsm (PyData.hasDict_of_canLay _ hc)) hg (by omega) (fun _ _ z => z) (fun h' u tk kk => str _ _ _ 0 _ rfl kk) hz
  | dict h1 h2 h3 h4 h5 => simp [PyData.canLay0] at hc
/-! ### the law's call -/
theorem lawG {P : Program} {w : World} {K : PySem.W.Frag} {mg mb : Str → Option Value} {CX : CXT} {k : Nat} {fa a : Addr} {fd : FuncData} {x : Str} {sp : Sp} {s₁ : Shared} {vs : List Value} {ns : List Int}
    (KX : K.In s₁.heap) (hM : s₁.heap.Ns mainGlobals mg) (hB : s₁.heap.Ns builtinsNs mb) (hbb : ∀ x : Str, x ≠ "__name__" → mb x = bootBuiltins x) (hlim : s₁.heap.NoLimit) (hg : s₁.gens = #[])
    (ha : s₁.heap.get? a = some { cls := .type "list", data := .seq vs.toArray }) (hi : IntsAre vs ns) (hl : ns.length ≤ sizeLine) (hr : Room k callerA)
    (F : ∀ base : Heap, K.In base → base.Ns mainGlobals mg → FnG P w K mg base CX k fa fd [x] sp) (hbind : ∀ (s : Shared) (u : Value), BindsTo s fd ⟨[u], []⟩ [(x, u)])
    (hsp : ∀ H : Hp, Only H → SqL K H a (ns.map V.int) → sp [.ref a] H (fun v _ => v = .bl true) fun _ _ _ => False)
    (hCX : ∀ H e s', CX [] H s₁ (fun _ _ _ => False) e s' → False) :
    codeAny (model P w) callerA (.call (.ref fa) ⟨[.ref a], []⟩) (fun r s' => r = .ok (.ret (.bool true)) ∧ OldK s₁.heap s'.heap ∧ s'.os = s₁.os ∧ AllBare s'.gens) s₁ := by
  -- the script's object, and what is tracked of it
  let sob : Obj := { cls := .type "list", data := .seq vs.toArray }
  have zs : (ns.map V.int).length ≤ sizeLine := by
    rw [List.length_map]
    exact hl
  have run : ∀ H : Hp, (∀ b u, H b = some u → b = a ∧ K.lookup a = none ∧ u = .frz sob (.lst (ns.map V.int))) → SqL K H a (ns.map V.int) →
      codeAny (model P w) callerA (.call (.ref fa) ⟨[.ref a], []⟩) (fun r s' => r = .ok (.ret (.bool true)) ∧ OldK s₁.heap s'.heap ∧ s'.os = s₁.os ∧ AllBare s'.gens) s₁ := by
    intro H hH hS
    have only : Only H := fun b => by
      cases q : H b with
      | none => exact .inl rfl
      | some u => exact .inr ⟨_, _, congrArg some (hH b u q).2.2⟩
    have ok : HOk P w H s₁.heap := fun b u q => by
      obtain ⟨rfl, _, rfl⟩ := hH b u q
      exact ⟨ha, zs, vs, _, vals_ints hi, ha⟩
    have dict : ∀ {b : Addr} {o : Obj} {es : Array DictEntry} {ep : Nat}, s₁.heap.get? b = some o → o.data = .dict es ep → H b = none := fun {b o es ep} e d => by
      cases q : H b with
      | none => rfl
      | some u =>
        obtain ⟨rfl, _⟩ := hH b u q
        rw [ha] at e
        cases e
        cases d
    have ns2 : ∀ {b : Addr} {m : Str → Option Value}, s₁.heap.Ns b m → (hidT s₁.heap H).Ns b m := by
      rintro b m ⟨o, es, ep, e, d, r⟩
      exact ⟨o, es, ep, hidT_get e (dict e d), d, r⟩
    have KB : K.In (hidT s₁.heap H) := fun b o e => by
      refine hidT_get (KX b o e) ?_
      cases q : H b with
      | none => rfl
      | some u =>
        obtain ⟨rfl, z, _⟩ := hH b u q
        rw [z] at e
        cases e
    obtain ⟨mc, l1, l2⟩ := hlim
    have M : Mod K mg (hidT s₁.heap H) := ⟨KB, ns2 hM, ⟨mb, ns2 hB, hbb⟩, mc, ns2 l1, l2⟩
    have G := F _ KB (ns2 hM)
    have e0 : Env0 P w K mg (hidT s₁.heap H) callerA [] s₁ H := ⟨rfl, M, fun _ _ e => of_hidT e, Nat.le_of_eq (hidT_size _ _), trivial, (fun b hb => nomatch hb), ok, .of_eq hg⟩
    refine codeAny_mono (G.goes callerA [] s₁ H _ [.ref a] [.ref a] _ _ rfl hr e0 (hbind s₁ _) (.cons rfl .nil) (hsp H only hS)) ?_
    rintro (e | fl) s' q
    · exact (hCX H e s' q).elim
    · cases fl with
      | next => exact q.elim
      | brk => exact q.elim
      | cont => exact q.elim
      | ret u =>
        obtain ⟨v, H', os, bare, un, ok', rv, rfl⟩ := q
        cases rv
        refine ⟨rfl, .of_keep fun b o e => ?_, os, bare⟩
        cases q : H b with
        | none => exact un.keep b o e q (fun z => nomatch z) (fun z => nomatch z)
        | some u =>
          obtain ⟨rfl, _, rfl⟩ := hH b u q
          rw [ha] at e
          cases e
          exact (ok' _ _ (un.frzs _ _ _ q)).1
  by_cases hk : K.lookup a = none
  · refine run (fun b => if b = a then some (.frz sob (.lst (ns.map V.int))) else none) (fun b u q => ?_) (.inl (.inr ⟨sob, if_pos rfl⟩))
    by_cases z : b = a
    · refine ⟨z, hk, ?_⟩
      rw [if_pos z] at q
      exact (Option.some.inj q).symm
    · rw [if_neg z] at q
      cases q
  · obtain ⟨o, ho⟩ := Option.ne_none_iff_exists'.mp hk
    have e := KX a o ho
    rw [ha] at e
    cases e
    refine run (fun _ => none) (fun b u q => nomatch q) (.inr ⟨_, vs.toArray, _, ho, rfl, rfl, rfl, ?_, vals_ints hi⟩)
    rw [List.size_toArray, hi.length]
    exact hl
/-- a law's goal, by such a promise -/
theorem walkG {l : PySem.W.OpenLaw} {k : Nat} {q : Program} {loose : List Str} {XP : (Str → Option Value) → Heap → Prop} {YP : World → Heap → Prop} {d : DefRec} {K : Params → PySem.W.Frag} {CX : CXT} {sp : PySem.W.Frag → Sp} {x : Str}
    (hn : l.most = some 63) (hdf : d.params.defaults = []) (hr : Room k callerA) (hY : ∀ (w : World) (h : Heap), YP w h → (K w.params).In h)
    (F : ∀ (w : World) (mg : Str → Option Value) (fa : Addr) (h : Heap), (K w.params).In h → h.Ns mainGlobals mg → mg d.name = some (.ref fa) →
      ∃ fd : FuncData, (∀ (s : Shared) (u : Value), BindsTo s fd ⟨[u], []⟩ [(x, u)]) ∧ ∀ base : Heap, (K w.params).In base → base.Ns mainGlobals mg → FnG l.prog w (K w.params) mg base CX k fa fd [x] (sp (K w.params)))
    (hsp : ∀ (K : PySem.W.Frag) (H : Hp) (a : Addr) (ns : List Int), ns.length ≤ 63 → SqL K H a (ns.map V.int) → sp K [.ref a] H (fun v _ => v = .bl true) fun _ _ _ => False)
    (hCX : ∀ (H : Hp) (s : Shared) (e : Value) (s' : Shared), CX [] H s (fun _ _ _ => False) e s' → False) : PySem.W.WalkO q loose XP YP l.row.toRowW d [] (fun f vs => PySem.call f vs) := by
  refine Att.attach_call hn hdf fun w s₀ s₁ mg mb fa o pm cd doc a vs ns G Y ho hd hcd hmg hobj hints hlen hg => ?_
  obtain ⟨fd, hb, hF⟩ := F w mg fa _ (hY w _ Y) G.T.g hmg
  have h24 : ns.length ≤ sizeLine := Nat.le_trans hlen (by decide)
  exact lawG (hY w _ Y) G.T.g G.T.b G.T.builtins G.T.nolimit hg hobj hints h24 hr hF hb (fun H _ hS => hsp _ H a ns hlen hS) fun H e s' => hCX H s₁ e s'
end HG

namespace HG
open PySem PySem.Spec PyProof.Rows L2
/-! what holds of a wish holds of a weaker one -/
def MoE (t : TE) : Prop := ∀ σ H Q Q', (∀ v H1, Q v H1 → Q' v H1) → t σ H Q → t σ H Q'
def MoT (t : TT) : Prop := ∀ σ H Q Q', (∀ b H1, Q b H1 → Q' b H1) → t σ H Q → t σ H Q'
def MoA (t : TA) : Prop := ∀ σ H Q Q', (∀ vs H1, Q vs H1 → Q' vs H1) → t σ H Q → t σ H Q'
def MoR (r : R2) : Prop := ∀ x y H Q Q', (∀ v H1, Q v H1 → Q' v H1) → r x y H Q → r x y H Q'
theorem mo_var {i : Nat} : MoE (tVar i) := fun σ H Q Q' hq ⟨v, e, q⟩ => ⟨v, e, hq _ _ q⟩
theorem mo_c {v : V} : MoE (tC v) := fun σ H Q Q' hq q => hq _ _ q
theorem mo_op {r : R2} {ta tb : TE} (hr : MoR r) (ha : MoE ta) (hb : MoE tb) : MoE (tOp r ta tb) := fun σ H Q Q' hq h => ha σ H _ _ (fun x H1 h1 => hb σ H1 _ _ (fun y H2 h2 => hr x y H2 _ _ hq h2) h1) h
theorem mo_rI {C : Int → Int → Prop} {g : Int → Int → V} : MoR (rI C g) := fun x y H Q Q' hq ⟨i, j, e1, e2, c, q⟩ => ⟨i, j, e1, e2, c, hq _ _ q⟩
theorem mo_rI0 {g : Int → Int → V} : MoR (rI0 g) := fun x y H Q Q' hq ⟨i, j, e1, e2, q⟩ => ⟨i, j, e1, e2, hq _ _ q⟩
theorem mo_rEq : MoR rEq := fun x y H Q Q' hq ⟨c, q⟩ => ⟨c, hq _ _ q⟩
theorem mo_rNe : MoR rNe := fun x y H Q Q' hq ⟨c, q⟩ => ⟨c, hq _ _ q⟩
theorem mo_rIxL {K : PySem.W.Frag} : MoR (rIxL K) := fun x y H Q Q' hq ⟨p, xs, i, v, e1, e2, s, a, q⟩ => ⟨p, xs, i, v, e1, e2, s, a, hq _ _ q⟩
theorem mo_test {t : TE} (h : MoE t) : MoT (tTest t) := fun σ H Q Q' hq q => h σ H _ _ (fun v H1 ⟨k, e, q⟩ => ⟨k, e, hq _ _ q⟩) q
theorem mo_and {t u : TT} (ht : MoT t) (hu : MoT u) : MoT (tAnd t u) := fun σ H Q Q' hq q => ht σ H _ _ (fun c H1 q => by
  cases c with
  | true => exact iteT (hu σ H1 _ _ hq (by simpa using q))
  | false => exact iteF (hq _ _ (by simpa using q))) q
def MoC (r : List V → Hp → VK → Prop) : Prop := ∀ xs H Q Q', (∀ v H1, Q v H1 → Q' v H1) → r xs H Q → r xs H Q'
theorem mo_nil : MoA tNil := fun σ H Q Q' hq q => hq _ _ q
theorem mo_cons {t : TE} {u : TA} (ht : MoE t) (hu : MoA u) : MoA (tCons t u) := fun σ H Q Q' hq q => ht σ H _ _ (fun x H1 q1 => hu σ H1 _ _ (fun xs H2 q2 => hq _ _ q2) q1) q
theorem mo_cb {r : List V → Hp → VK → Prop} {t : TA} (hr : MoC r) (ht : MoA t) : MoE (tCB r t) := fun σ H Q Q' hq q => ht σ H _ _ (fun vs H1 q1 => hr vs H1 _ _ hq q1) q
end HG

/-! what is drawn from and what is made: a bag's steps; data that the bag is no part of -/
namespace HG
open PySem PySem.Spec PyProof.Rows L2
def Keep (p : Addr) (H H' : Hp) : Prop := ∀ b o, H b = some o → b ≠ p → H' b = some o
/-- from H to H' the bag may have been drawn from, and new things made -/
def Stp (p : Addr) (H H' : Hp) : Prop := Keep p H H' ∧ Bag H' p ∧ ∀ q, BagOff H p q → BagOff H' p q
theorem Stp.bag {p : Addr} {H H' : Hp} (s : Stp p H H') : Bag H' p := s.2.1
theorem Stp.trans {p : Addr} {H H1 H2 : Hp} (a : Stp p H H1) (b : Stp p H1 H2) : Stp p H H2 := ⟨fun c o e n => b.1 c o (a.1 c o e n) n, b.2.1, fun q z => b.2.2 q (a.2.2 q z)⟩
theorem Stp.same {p : Addr} {H H1 : Hp} (B : Bag H p) (s : Same H H1) : Stp p H H1 := ⟨fun c o e _ => s c o e, B.same s, fun q z => z.same s⟩
theorem Stp.take {p : Addr} {H : Hp} {xs : List V} (B : Bag (upd H p (.lst xs)) p) (k : ∀ q, BagOff H p q → BagOff (upd H p (.lst xs)) p q) : Stp p H (upd H p (.lst xs)) :=
  ⟨fun c o e n => by rw [upd_ne n]; exact e, B, k⟩
theorem BagOff.other {H : Hp} {p q D : Addr} {o : HO} (B : BagOff H p q) (C : BagOff H p D) : BagOff (L2.upd H D o) p q := by
  obtain ⟨c, b0, b1, b2, cs, h, g, z, n1, n2⟩ := B
  obtain ⟨c', d0, d1, d2, ds, h', g', z', m1, m2⟩ := C
  rw [h] at h'
  have e : c = c' := by
    have := HO.lst.inj (Option.some.inj h')
    simp at this
    exact this.2.2.2
  subst e
  exact ⟨c, b0, b1, b2, cs, by rw [upd_ne m1]; exact h, by rw [upd_ne m2]; exact g, z, n1, n2⟩
theorem Bag.ne_new {H : Hp} {p q : Addr} (B : Bag H p) (n : H q = none) : q ≠ p := by
  obtain ⟨xs, hx⟩ := B.lst
  exact fun z => by rw [z, hx] at n; cases n
theorem Stp.free {p D : Addr} {H H' : Hp} (s : Stp p H H') (n : H' D = none) : H D = none := by
  cases q : H D with
  | none => rfl
  | some o => rw [s.1 D o q (s.bag.ne_new n)] at n; cases n
/-- a thing that H doesn't know is changed -/
theorem Stp.put {p D : Addr} {H H' : Hp} {o : HO} (s : Stp p H H') (n : H D = none) (C : BagOff H' p D) : Stp p H (upd H' D o) :=
  ⟨fun c u e m => by rw [upd_ne (ne_of_none e n)]; exact s.1 c u e m, C.off.bag, fun q z => BagOff.other (s.2.2 q z) C⟩
/-- a new thing -/
theorem Stp.new {p D : Addr} {H H' : Hp} {o : HO} (s : Stp p H H') (n : H' D = none) : Stp p H (upd H' D o) := s.put (s.free n) (.of s.bag n)
/-- the heap but for one place -/
def off (p : Addr) (H : Hp) : Hp := fun b => if b = p then none else H b
theorem off_ne {p b : Addr} {H : Hp} (n : b ≠ p) : off p H b = H b := if_neg n
theorem off_sub (p : Addr) (H : Hp) : Same (off p H) H := fun b o e => by
  unfold off at e
  by_cases c : b = p
  · rw [if_pos c] at e; cases e
  · rw [if_neg c] at e; exact e
theorem off_same {p : Addr} {H H' : Hp} (s : Same H H') : Same (off p H) (off p H') := fun b o e => by
  unfold off at e ⊢
  by_cases c : b = p
  · rw [if_pos c] at e; cases e
  · rw [if_neg c] at e ⊢; exact s b o e
theorem Stp.off {p : Addr} {H H' : Hp} (s : Stp p H H') : Same (off p H) (HG.off p H') := fun b o e => by
  unfold HG.off at e ⊢
  by_cases c : b = p
  · rw [if_pos c] at e; cases e
  · rw [if_neg c] at e ⊢; exact s.1 b o e c
/-- what H' has and H hasn't -/
def fresh (H H' : Hp) : Hp := fun b => if H b = none then H' b else none
theorem fresh_at {H H' : Hp} {b : Addr} (n : H b = none) : fresh H H' b = H' b := if_pos n
theorem fresh_sub (H H' : Hp) : Same (fresh H H') H' := fun b o e => by
  unfold fresh at e
  by_cases c : H b = none
  · rw [if_pos c] at e; exact e
  · rw [if_neg c] at e; cases e
theorem fresh_off {p : Addr} {H H' : Hp} (h : H p ≠ none) : Same (fresh H H') (off p H') := fun b o e => by
  unfold fresh at e
  by_cases c : H b = none
  · rw [if_pos c] at e
    rw [off_ne (show b ≠ p from fun z => h (by rw [← z]; exact c))]
    exact e
  · rw [if_neg c] at e; cases e
/-- what is new goes on: later steps keep it, earlier starts see it -/
theorem Stp.fresh {p : Addr} {H H1 H2 H3 : Hp} (a : Stp p H H1) (hp : H1 p ≠ none) (k : Keep p H2 H3) : Same (HG.fresh H1 H2) (HG.fresh H H3) := fun b o e => by
  have e0 := e
  unfold HG.fresh at e
  by_cases c : H1 b = none
  · rw [if_pos c] at e
    rw [fresh_at (a.free c)]
    exact k b o e fun z => hp (by rw [← z]; exact c)
  · rw [if_neg c] at e; cases e
theorem Bag.here {H : Hp} {p : Addr} (B : Bag H p) : H p ≠ none := let ⟨_, h⟩ := B.lst; fun z => by rw [h] at z; cases z
theorem Keep.rfl' (p : Addr) (H : Hp) : Keep p H H := fun _ _ e _ => e
theorem Keep.same {p : Addr} {H H' : Hp} (s : Same H H') : Keep p H H' := fun b o e _ => s b o e
theorem fresh_keep {p : Addr} {Hb H1 H2 : Hp} (hp : Hb p ≠ none) (k : Keep p H1 H2) : Same (fresh Hb H1) (fresh Hb H2) := fun b o e => by
  unfold fresh at e
  by_cases c : Hb b = none
  · rw [if_pos c] at e
    rw [fresh_at c]
    exact k b o e fun z => hp (by rw [← z]; exact c)
  · rw [if_neg c] at e; cases e
theorem fresh_put {Hb H1 : Hp} {D : Addr} {o : HO} (hD : Hb D ≠ none) : Same (fresh Hb H1) (fresh Hb (upd H1 D o)) := fun b x e => by
  unfold fresh at e
  by_cases c : Hb b = none
  · rw [if_pos c] at e
    rw [fresh_at c, upd_ne fun z => hD (by rw [← z]; exact c)]
    exact e
  · rw [if_neg c] at e; cases e
theorem fresh_start {Ha Hb H1 : Hp} (h : ∀ b, Hb b = none → Ha b = none) : Same (fresh Hb H1) (fresh Ha H1) := fun b o e => by
  unfold fresh at e
  by_cases c : Hb b = none
  · rw [if_pos c] at e
    rw [fresh_at (h b c)]
    exact e
  · rw [if_neg c] at e; cases e
theorem Keep.trans {p : Addr} {H H1 H2 : Hp} (a : Keep p H H1) (b : Keep p H1 H2) : Keep p H H2 := fun c o e n => b c o (a c o e n) n
theorem Bag.ne_tup {H : Hp} {p b : Addr} {xs : List V} (B : Bag H p) (h : H b = some (.tup xs)) : b ≠ p := by
  obtain ⟨ys, hy⟩ := B.lst
  exact fun z => by rw [z, hy] at h; cases h
theorem dpAll_app {K : PySem.W.Frag} {H : Hp} : ∀ {xs : List V} {ds : List PyData} {ys : List V} {es : List PyData}, DpAll K H xs ds → DpAll K H ys es → DpAll K H (xs ++ ys) (ds ++ es)
  | _, [], _, _, h, g => by cases h; exact g
  | _, _ :: _, _, _, h, g => by
    cases h with
    | cons h1 h2 => exact .cons h1 (dpAll_app h2 g)
theorem dpAll_strs {K : PySem.W.Frag} {H : Hp} : ∀ zs : List Str, DpAll K H (zs.map V.str) (zs.map PyData.str)
  | [] => .nil
  | z :: zs => .cons (.str z) (dpAll_strs zs)
/-- text times number -/
def rMulS : R2 := fun x y H Q => ∃ (z : Str) (n : Int), x = .str z ∧ y = .int n ∧ MulOk z n ∧ Q (.str (Txt.mul z n)) H
theorem op_mulS {X : Cx} : OpR X (binaryOp .Mult) rMulS := by
  intro pins s σ H x y v u Q I rx ry h
  obtain ⟨z, n, rfl, rfl, ok, q⟩ := h
  obtain ⟨t, rfl⟩ := rx
  obtain ⟨t', rfl⟩ := ry
  exact SB.mul ok fun t k => ⟨.str _, H, I.kept fun _ _ z => z, ⟨_, rfl⟩, q⟩
theorem str_len (z : Str) : z.cps.toList.length = z.length := Array.length_toList
theorem take_min {α : Type} (l : List α) (a : Nat) : l.take (min a l.length) = l.take a := by
  by_cases c : a ≤ l.length
  · rw [Nat.min_eq_left c]
  · rw [Nat.min_eq_right (by omega), List.take_length, List.take_of_length_le (by omega)]
theorem cutV_take (l : List V) (a : Nat) : cutV l none (some (a : Int)) = l.take a := by
  unfold cutV
  rw [HT.sIx_none, List.drop_zero, HT.sIx_nat, Nat.sub_zero, take_min]
theorem cutV_drop (l : List V) (a : Nat) : cutV l (some (a : Int)) none = l.drop a := by
  unfold cutV
  rw [HT.sIx_none, HT.sIx_nat]
  by_cases c : a ≤ l.length
  · rw [Nat.min_eq_left c, List.take_of_length_le (by rw [List.length_drop]; exact Nat.le_refl _)]
  · rw [Nat.min_eq_right (by omega), List.drop_length, List.drop_of_length_le (by omega)]
    simp
theorem cutS_take (z : Str) (a : Nat) : (cutS z none (some (a : Int))).cps.toList = z.cps.toList.take a := by
  unfold cutS
  rw [HT.sIx_none, List.drop_zero, HT.sIx_nat, Nat.sub_zero, ← str_len, take_min]
theorem cutS_drop (z : Str) (a : Nat) : (cutS z (some (a : Int)) none).cps.toList = z.cps.toList.drop a := by
  unfold cutS
  rw [HT.sIx_none, HT.sIx_nat, ← str_len]
  by_cases c : a ≤ z.cps.toList.length
  · rw [Nat.min_eq_left c, List.take_of_length_le (by rw [List.length_drop]; exact Nat.le_refl _)]
  · rw [Nat.min_eq_right (by omega), List.drop_length, List.drop_of_length_le (by omega)]
    simp
theorem str_app (z y : Str) : (z ++ y).cps.toList = z.cps.toList ++ y.cps.toList := TL.tl_append z y
theorem str_ext {z y : Str} (h : z.cps.toList = y.cps.toList) : z = y := by
  cases z; cases y
  congr 1
  exact Array.toList_inj.mp h
/-- a text times a small number, as its signs -/
theorem mul_small {z : Str} {n : Nat} (hz : z.length ≤ 100) (hn : n ≤ 100) : MulOk z (n : Int) ∧ (Txt.mul z (n : Int)).cps.toList = (List.replicate n z.cps.toList).flatten := by
  constructor
  · refine ⟨?_, fun h1 h2 => ?_, fun h1 h2 => ?_⟩
    · simp only [Bool.or_eq_false_iff, decide_eq_false_iff_not]
      omega
    · intro h
      have h3 : (100 : Int) ≤ (2 ^ 63 - 1) / (n : Int) := by
        rw [Int.le_ediv_iff_mul_le (by omega)]
        omega
      have h4 : ((z.length : Nat) : Int) > (2 ^ 63 - 1) / (n : Int) := h
      omega
    · have h3 : z.length * n ≤ 100 * 100 := Nat.mul_le_mul hz hn
      have h4 : (n : Int).toNat = n := Int.toNat_natCast n
      rw [h4]
      unfold Builtin.Str.tooLong
      have h5 : 100 * 100 ≤ sizeLine := by decide
      simp
      omega
  · unfold Txt.mul
    by_cases h1 : (n : Int) < 1
    · rw [if_pos h1]
      obtain rfl : n = 0 := by omega
      rfl
    · rw [if_neg h1]
      by_cases h2 : ((n : Int) == 1 || z.length == 0) = true
      · rw [if_pos h2]
        rcases Bool.or_eq_true_iff.mp h2 with h2 | h2
        · have : n = 1 := by
            have := eq_of_beq h2
            omega
          subst this
          simp
        · have h3 : z.cps.toList = [] := by
            have := eq_of_beq h2
            apply List.eq_nil_of_length_eq_zero
            rw [str_len, this]
          rw [h3]
          simp
      · rw [if_neg h2, Int.toNat_natCast]
        have key : ∀ (m : Nat) (a : Array Nat), (List.foldl (fun x1 x2 => x1 ++ x2) a (List.replicate m z.cps)).toList = a.toList ++ (List.replicate m z.cps.toList).flatten := by
          intro m
          induction m with
          | zero => intro a; simp
          | succ m ih =>
            intro a
            rw [List.replicate_succ, List.foldl_cons, ih, List.replicate_succ, List.flatten_cons]
            simp
        rw [key]
        simp
end HG

/-! a choir's parts, as the laws make them: names, tables, voices -/
namespace HG
open PySem PySem.Spec PyProof.Rows L2
/-- a voice's name: one to eight small letters -/
def GoodN (z : Str) : Prop := 1 ≤ z.length ∧ z.length ≤ 8 ∧ ∀ c ∈ z.cps.toList, 97 ≤ c ∧ c ≤ 122
/-- the k-th made name -/
def wd (b : List Nat) (at_ turn k : Nat) : List Nat := (b.take at_ ++ [97 + (turn + k) % 26] ++ b.drop (at_ + 1)) ++ List.replicate (k % 2) 122
def wdS (b : List Nat) (at_ turn k : Nat) : Str := ⟨(wd b at_ turn k).toArray⟩
theorem wdS_list (b : List Nat) (at_ turn k : Nat) : (wdS b at_ turn k).cps.toList = wd b at_ turn k := List.toList_toArray
theorem wd_len {b : List Nat} {at_ : Nat} (h : at_ < b.length) (turn k : Nat) : (wd b at_ turn k).length = b.length + k % 2 := by
  unfold wd
  rw [List.length_append, List.length_append, List.length_append, List.length_take, List.length_drop, List.length_replicate]
  simp
  omega
theorem wd_at {b : List Nat} {at_ : Nat} (h : at_ < b.length) (turn k : Nat) : (wd b at_ turn k)[at_]? = some (97 + (turn + k) % 26) := by
  unfold wd
  have h1 : (b.take at_).length = at_ := by rw [List.length_take]; omega
  rw [List.append_assoc, List.append_assoc, List.getElem?_append_right (by omega), h1, Nat.sub_self]
  rfl
theorem wd_inj {b : List Nat} {at_ turn i j : Nat} (h : at_ < b.length) (hi : i < 6) (hj : j < 6) (e : wd b at_ turn i = wd b at_ turn j) : i = j := by
  have h1 := congrArg (fun l => l[at_]?) e
  simp only [wd_at h] at h1
  have h2 := Option.some.inj h1
  omega
theorem wdS_good {b : List Nat} {at_ turn k : Nat} (h : at_ < b.length) (hb : b.length ≤ 7) (hc : ∀ c ∈ b, 97 ≤ c ∧ c ≤ 122) : GoodN (wdS b at_ turn k) := by
  have hl : (wdS b at_ turn k).length = b.length + k % 2 := by rw [← str_len, wdS_list, wd_len h]
  refine ⟨by omega, by omega, fun c hcm => ?_⟩
  rw [wdS_list] at hcm
  unfold wd at hcm
  rcases List.mem_append.mp hcm with hcm | hcm
  · rcases List.mem_append.mp hcm with hcm | hcm
    · rcases List.mem_append.mp hcm with hcm | hcm
      · exact hc c (List.mem_of_mem_take hcm)
      · rw [List.mem_singleton] at hcm
        omega
    · exact hc c (List.mem_of_mem_drop hcm)
  · have := List.eq_of_mem_replicate hcm
    omega
theorem wds_nodup {b : List Nat} {at_ turn m : Nat} (h : at_ < b.length) (hm : m ≤ 6) : ((List.range m).map (wdS b at_ turn)).Nodup := by
  refine List.Pairwise.map _ (R := fun i j => i ≠ j ∧ i < m ∧ j < m) (fun i j hij e => hij.1 ?_) ?_
  · have h1 := congrArg (fun z : Str => z.cps.toList) e
    simp only [wdS_list] at h1
    exact wd_inj h (by omega) (by omega) h1
  · have h1 : (List.range m).Nodup := List.nodup_range
    refine List.Pairwise.imp_of_mem (R := fun i j => i ≠ j) (fun {i j} hi hj hij => ⟨hij, List.mem_range.mp hi, List.mem_range.mp hj⟩) h1
def words13 : List Str := [.ofString "first", .ofString "cue", .ofString "pace", .ofString "breath", .ofString "notes", .ofString "a", .ofString "b", .ofString "ab", .ofString "alto", .ofString "bass", .ofString "zz", .ofString "put", .ofString "hand"]
theorem words13_ok : words13.Nodup ∧ ∀ z ∈ words13, z.length ≤ 8 ∧ 1 ≤ z.length ∧ ∀ c ∈ z.cps.toList, 97 ≤ c ∧ c ≤ 122 := by decide +kernel
theorem turned_nodup {α : Type} {l : List α} (h : l.Nodup) (t m : Nat) : ((l.drop t ++ l.take t).take m).Nodup := by
  refine List.Nodup.sublist (List.take_sublist _ _) ?_
  have : (l.drop t ++ l.take t).Perm l := by
    have := List.perm_append_comm (l₁ := l.drop t) (l₂ := l.take t)
    rwa [List.take_append_drop] at this
  exact this.nodup_iff.mpr h
def spNames : Sp := fun vs H Q _ => ∃ (p : Addr) (m : Nat), vs = [.ref p, .int (m : Int)] ∧ Bag H p ∧ 1 ≤ m ∧ m ≤ 6 ∧ ∀ (q : Addr) (H' : Hp) (ns : List Str), Stp p H H' → H q = none → BagOff H' p q → H' q = some (.lst (ns.map V.str)) → ns.length = m → ns.Nodup → (∀ z ∈ ns, GoodN z) → Q (.ref q) H'
/-- a table of so many notes -/
def TabOk (n : Nat) (t : List Nat) : Prop := t.length = n ∧ ∀ d ∈ t, d < n
def nVs (t : List Nat) : List V := t.map fun d : Nat => V.int (d : Int)
def nDs (t : List Nat) : List PyData := t.map fun d : Nat => PyData.int (d : Int)
instance (n : Nat) (t : List Nat) : Decidable (TabOk n t) := inferInstanceAs (Decidable (_ ∧ _))
theorem rgV_nat (n : Nat) : rgV 0 (n : Int) = nVs (List.range n) := by
  unfold rgV nVs
  rw [show ((n : Int) - 0).toNat = n by omega]
  apply List.map_congr_left
  intro a _
  rw [Int.zero_add]
def movedL (n : Nat) : List Nat := (List.range n).drop 1 ++ (List.range n).take 1
def turnedL (n : Nat) : List Nat := ((List.range n).drop 1).take 1 ++ (List.range n).take 1 ++ (List.range n).drop 2
theorem tabs_ok : ∀ n : Nat, 2 ≤ n → n ≤ 5 → TabOk n (List.range n) ∧ TabOk n (movedL n) ∧ TabOk n (turnedL n) ∧ cutV (nVs (List.range n)) (some 1) (some 2) = nVs (((List.range n).drop 1).take 1) := by
  intro n h2 h5
  have : n = 2 ∨ n = 3 ∨ n = 4 ∨ n = 5 := by omega
  rcases this with rfl | rfl | rfl | rfl <;> exact ⟨by decide, by decide, by decide, rfl⟩
theorem nVs_app (a b : List Nat) : nVs (a ++ b) = nVs a ++ nVs b := List.map_append
theorem nVs_len (a : List Nat) : (nVs a).length = a.length := List.length_map ..
def spTable : Sp := fun vs H Q _ => ∃ (p : Addr) (n : Nat), vs = [.ref p, .int (n : Int)] ∧ Bag H p ∧ 2 ≤ n ∧ n ≤ 5 ∧ ∀ (q : Addr) (H' : Hp) (t : List Nat), Stp p H H' → H q = none → H' q = some (.tup (nVs t)) → TabOk n t → Q (.ref q) H'
structure Voice where
  name : Str
  elders : List Str
  tables : List (List Nat)
structure Parts where
  pace : Nat
  notes : Nat
  voices : List Voice
def Parts.names (P : Parts) : List Str := P.voices.map (·.name)
structure Parts.Ok (P : Parts) (limit : Nat) : Prop where
  p2 : 2 ≤ P.pace
  p4 : P.pace ≤ 4
  n2 : 2 ≤ P.notes
  n5 : P.notes ≤ 5
  v1 : 1 ≤ P.voices.length
  v6 : P.voices.length ≤ 6
  size : P.notes ^ P.voices.length ≤ limit
  nodup : P.names.Nodup
  sorted : sortedS P.names = true
  good : ∀ z ∈ P.names, GoodN z
  elds : ∀ v ∈ P.voices, v.elders.length = P.pace ∧ ∀ e ∈ v.elders, e ∈ P.names
  tabs : ∀ v ∈ P.voices, v.tables.length = P.pace ∧ ∀ t ∈ v.tables, TabOk P.notes t
def tabD (t : List Nat) : PyData := .tuple (nDs t)
def voiceD (v : Voice) : PyData := .tuple [.str v.name, .tuple (v.elders.map PyData.str), .tuple (v.tables.map tabD)]
def partsD (P : Parts) : PyData := .tuple [.int (P.pace : Int), .int (P.notes : Int), .list (P.voices.map voiceD)]
def spParts (K : PySem.W.Frag) : Sp := fun vs H Q _ => ∃ (p : Addr) (limit : Nat), vs = [.ref p, .int (limit : Int)] ∧ Bag H p ∧ 5 ≤ limit ∧ limit ≤ 64 ∧ ∀ (v : V) (H' : Hp) (P : Parts), Stp p H H' → Dp K (fresh H H') v (partsD P) → P.Ok limit → Q v H'
end HG

namespace HF
/-! figures of a number, the lowest first; the number of a list of rests, the foremost first -/
def low (p : Nat) : Nat → Nat → List Nat
  | 0, _ => []
  | f + 1, n => if n = 0 then [] else n % p :: low p f (n / p)
def L (p n : Nat) : List Nat := low p n n
/-- the figures of n, the foremost first -/
def figs (p n : Nat) : List Nat := (L p n).reverse
def num (p : Nat) (ds : List Nat) : Nat := ds.foldl (fun a d => a * p + d) 0
/-- of a list, the lowest first -/
def val (p : Nat) : List Nat → Nat
  | [] => 0
  | d :: r => d + p * val p r
theorem low_fuel {p : Nat} (hp : 2 ≤ p) : ∀ (f g n : Nat), n ≤ f → n ≤ g → low p f n = low p g n := by
  intro f
  induction f with
  | zero =>
    intro g n hf hg
    obtain rfl : n = 0 := by omega
    cases g <;> rfl
  | succ f ih =>
    intro g n hf hg
    cases g with
    | zero =>
      obtain rfl : n = 0 := by omega
      rfl
    | succ g =>
      unfold low
      by_cases h : n = 0
      · rw [if_pos h, if_pos h]
      · rw [if_neg h, if_neg h]
        have : n / p < n := Nat.div_lt_self (by omega) (by omega)
        rw [ih g (n / p) (by omega) (by omega)]
theorem L_zero (p : Nat) : L p 0 = [] := rfl
theorem L_pos {p n : Nat} (hp : 2 ≤ p) (hn : n ≠ 0) : L p n = n % p :: L p (n / p) := by
  obtain ⟨m, rfl⟩ : ∃ m, n = m + 1 := ⟨n - 1, by omega⟩
  unfold L
  show (if m + 1 = 0 then _ else _) = _
  rw [if_neg (by omega)]
  have : (m + 1) / p < m + 1 := Nat.div_lt_self (by omega) (by omega)
  rw [low_fuel hp m ((m + 1) / p) _ (by omega) (Nat.le_refl _)]
theorem L_ind {p : Nat} (hp : 2 ≤ p) {C : Nat → Prop} (h0 : C 0) (h1 : ∀ n, n ≠ 0 → C (n / p) → C n) (n : Nat) : C n := by
  induction n using Nat.strongRecOn with
  | _ n ih =>
    by_cases h : n = 0
    · subst h; exact h0
    · exact h1 n h (ih _ (Nat.div_lt_self (by omega) (by omega)))
theorem val_L {p : Nat} (hp : 2 ≤ p) (n : Nat) : val p (L p n) = n := by
  refine L_ind hp (C := fun n => val p (L p n) = n) rfl (fun n hn ih => ?_) n
  rw [L_pos hp hn]
  show n % p + p * val p (L p (n / p)) = n
  rw [ih]
  exact Nat.mod_add_div n p
theorem L_lt {p : Nat} (hp : 2 ≤ p) (n : Nat) : ∀ d ∈ L p n, d < p := by
  refine L_ind hp (C := fun n => ∀ d ∈ L p n, d < p) (by simp [L_zero]) (fun n hn ih d hd => ?_) n
  rw [L_pos hp hn] at hd
  rcases List.mem_cons.mp hd with rfl | hd
  · exact Nat.mod_lt _ (by omega)
  · exact ih d hd
/-- the last of L isn't 0 -/
theorem L_last {p : Nat} (hp : 2 ≤ p) (n : Nat) : ∀ d, (L p n).getLast? = some d → d ≠ 0 := by
  refine L_ind hp (C := fun n => ∀ d, (L p n).getLast? = some d → d ≠ 0) (by simp [L_zero]) (fun n hn ih d hd => ?_) n
  rw [L_pos hp hn] at hd
  by_cases z : n / p = 0
  · rw [z, L_zero] at hd
    simp at hd
    have : n % p = n := Nat.mod_eq_of_lt (by
      have := Nat.div_add_mod n p
      rw [z] at this
      have := Nat.mod_lt n (show 0 < p by omega)
      omega)
    omega
  · have e := L_pos hp z
    rw [e, List.getLast?_cons_cons] at hd
    rw [← e] at hd
    exact ih d hd
theorem L_len {p : Nat} (hp : 2 ≤ p) : ∀ (k n : Nat), n < p ^ k → (L p n).length ≤ k
  | 0, n, h => by
    obtain rfl : n = 0 := by simpa using h
    exact Nat.le_refl _
  | k + 1, n, h => by
    by_cases z : n = 0
    · subst z; exact Nat.zero_le _
    · rw [L_pos hp z, List.length_cons]
      have : n / p < p ^ k := by
        rw [Nat.div_lt_iff_lt_mul (by omega), ← Nat.pow_succ]
        exact h
      have := L_len hp k _ this
      omega
/-- a list of rests whose last isn't 0 is that of its number -/
theorem L_val {p : Nat} (hp : 2 ≤ p) : ∀ ds : List Nat, (∀ d ∈ ds, d < p) → (∀ d, ds.getLast? = some d → d ≠ 0) → L p (val p ds) = ds
  | [], _, _ => rfl
  | d :: r, h1, h2 => by
    have hd : d < p := h1 d List.mem_cons_self
    have ih := L_val hp r (fun x hx => h1 x (List.mem_cons_of_mem _ hx)) (fun x hx => by
      cases r with
      | nil => cases hx
      | cons y r => exact h2 x (by rw [List.getLast?_cons_cons]; exact hx))
    have em : (d + p * val p r) % p = d := by rw [Nat.add_mul_mod_self_left, Nat.mod_eq_of_lt hd]
    have ed : (d + p * val p r) / p = val p r := by rw [Nat.add_mul_div_left _ _ (by omega), Nat.div_eq_of_lt hd, Nat.zero_add]
    have nz : d + p * val p r ≠ 0 := by
      intro z
      have d0 : d = 0 := by omega
      have v0 : p * val p r = 0 := by omega
      have v1 : val p r = 0 := by
        rcases Nat.mul_eq_zero.mp v0 with q | q
        · omega
        · exact q
      rw [v1, L_zero] at ih
      subst ih
      exact h2 d rfl d0
    show L p (d + p * val p r) = d :: r
    rw [L_pos hp nz, em, ed, ih]
theorem num_app (p : Nat) (a b : List Nat) : num p (a ++ b) = b.foldl (fun x d => x * p + d) (num p a) := by
  unfold num
  rw [List.foldl_append]
theorem num_snoc (p : Nat) (a : List Nat) (d : Nat) : num p (a ++ [d]) = num p a * p + d := num_app p a [d]
theorem num_rev (p : Nat) : ∀ ds : List Nat, num p ds.reverse = val p ds
  | [] => rfl
  | d :: r => by
    rw [List.reverse_cons, num_snoc, num_rev p r, Nat.mul_comm, Nat.add_comm]
    rfl
theorem num_val (p : Nat) (ds : List Nat) : num p ds = val p ds.reverse := by
  rw [← num_rev, List.reverse_reverse]
theorem figs_zero (p : Nat) : figs p 0 = [] := rfl
theorem num_figs {p : Nat} (hp : 2 ≤ p) (n : Nat) : num p (figs p n) = n := by
  unfold figs
  rw [num_rev, val_L hp]
theorem figs_lt {p : Nat} (hp : 2 ≤ p) (n : Nat) : ∀ d ∈ figs p n, d < p := fun d hd => L_lt hp n d (List.mem_reverse.mp hd)
theorem figs_head {p : Nat} (hp : 2 ≤ p) (n : Nat) : ∀ d, (figs p n).head? = some d → d ≠ 0 := fun d hd => by
  unfold figs at hd
  rw [List.head?_reverse] at hd
  exact L_last hp n d hd
theorem figs_len {p : Nat} (hp : 2 ≤ p) {k n : Nat} (h : n < p ^ k) : (figs p n).length ≤ k := by
  unfold figs
  rw [List.length_reverse]
  exact L_len hp k n h
theorem figs_num {p : Nat} (hp : 2 ≤ p) {ds : List Nat} (h1 : ∀ d ∈ ds, d < p) (h2 : ∀ d, ds.head? = some d → d ≠ 0) : figs p (num p ds) = ds := by
  unfold figs
  rw [num_val, L_val hp _ (fun d hd => h1 d (List.mem_reverse.mp hd)) (fun d hd => h2 d (by rw [← List.getLast?_reverse]; exact hd)), List.reverse_reverse]
theorem num_zeros (p : Nat) : ∀ (k : Nat) (ds : List Nat), num p (List.replicate k 0 ++ ds) = num p ds
  | 0, _ => rfl
  | k + 1, ds => by
    rw [List.replicate_succ, List.cons_append]
    have e : num p (0 :: (List.replicate k 0 ++ ds)) = num p (List.replicate k 0 ++ ds) := by
      unfold num
      rw [List.foldl_cons]
      congr 1
      simp
    rw [e, num_zeros p k ds]
/-- the noughts ahead -/
def lead : List Nat → Nat
  | 0 :: r => lead r + 1
  | _ => 0
theorem lead_le : ∀ ds : List Nat, lead ds ≤ ds.length
  | [] => Nat.le_refl _
  | 0 :: r => by
    have := lead_le r
    show lead r + 1 ≤ r.length + 1
    omega
  | (_ + 1) :: _ => Nat.zero_le _
theorem lead_zero : ∀ (ds : List Nat) (i : Nat), i < lead ds → ds[i]? = some 0
  | [], _, h => absurd h (Nat.not_lt_zero _)
  | 0 :: r, 0, _ => rfl
  | 0 :: r, i + 1, h => by
    have h : i + 1 < lead r + 1 := h
    exact lead_zero r i (by omega)
  | (_ + 1) :: _, _, h => absurd h (Nat.not_lt_zero _)
theorem lead_stop : ∀ (ds : List Nat) (d : Nat), ds[lead ds]? = some d → d ≠ 0
  | [], _, h => by cases h
  | 0 :: r, d, h => lead_stop r d (by simpa [lead] using h)
  | (x + 1) :: r, d, h => by
    have h : some (x + 1) = some d := h
    have := Option.some.inj h
    omega
theorem lead_split : ∀ ds : List Nat, ds = List.replicate (lead ds) 0 ++ ds.drop (lead ds)
  | [] => rfl
  | 0 :: r => by
    show 0 :: r = List.replicate (lead r + 1) 0 ++ r.drop (lead r)
    rw [List.replicate_succ, List.cons_append]
    exact congrArg (0 :: ·) (lead_split r)
  | (_ + 1) :: _ => rfl
theorem figs_lead {p : Nat} (hp : 2 ≤ p) {ds : List Nat} (h1 : ∀ d ∈ ds, d < p) : figs p (num p ds) = ds.drop (lead ds) := by
  have e : num p ds = num p (ds.drop (lead ds)) := by
    have := congrArg (num p) (lead_split ds)
    rw [num_zeros] at this
    exact this
  rw [e]
  refine figs_num hp (fun d hd => h1 d (List.mem_of_mem_drop hd)) (fun d hd => lead_stop ds d ?_)
  rw [List.head?_drop] at hd
  exact hd
/-- the law's own sum -/
theorem val_app (p : Nat) : ∀ (a b : List Nat), val p (a ++ b) = val p a + p ^ a.length * val p b
  | [], b => by simp [val]
  | d :: r, b => by
    show d + p * val p (r ++ b) = d + p * val p r + p ^ (r.length + 1) * val p b
    rw [val_app p r b, Nat.mul_add, Nat.pow_succ, Nat.mul_comm (p ^ r.length) p, Nat.mul_assoc, Nat.add_assoc]
theorem val_lt {p : Nat} : ∀ ds : List Nat, (∀ d ∈ ds, d < p) → val p ds < p ^ ds.length
  | [], _ => by simp [val]
  | d :: r, h => by
    have hd : d < p := h d List.mem_cons_self
    have ih := val_lt r (fun x hx => h x (List.mem_cons_of_mem _ hx))
    show d + p * val p r < p ^ (r.length + 1)
    rw [Nat.pow_succ, Nat.mul_comm (p ^ r.length) p]
    have : p * (val p r + 1) ≤ p * p ^ r.length := Nat.mul_le_mul_left p ih
    rw [Nat.mul_add] at this
    omega
theorem num_lt {p : Nat} {ds : List Nat} (h : ∀ d ∈ ds, d < p) : num p ds < p ^ ds.length := by
  rw [num_val]
  have := val_lt ds.reverse (fun d hd => h d (List.mem_reverse.mp hd))
  rwa [List.length_reverse] at this
end HF

namespace HG
open PySem PySem.Spec PyProof.Rows L2 HF
def nV (d : Nat) : V := V.int (d : Int)
def nD (d : Nat) : PyData := .int (d : Int)
/-- data that can be compared and shown -/
structure Fine (d : PyData) : Prop where
  lay : d.canLay0 = true
  show_ : d.showable = true
  deep : d.depth ≤ 40
  size : d.shown.length ≤ sizeLine
theorem Fine.shaped {d : PyData} (f : Fine d) : SeqAt.shaped d = true := by
  show (d.canLay0 && decide (d.depth ≤ 64)) = true
  rw [f.lay, decide_eq_true (by have := f.deep; omega)]
  rfl
theorem fine_int {i : Int} (h : i.natAbs < 2 ^ 1000) : Fine (.int i) := by
  have hz : i.natAbs.log2 < 1920 := by
    have := PySem.Flt.log2_lt_of (by decide : 0 < 1000) h
    omega
  refine ⟨rfl, ?_, by show 0 ≤ 40; decide, ?_⟩
  · simpa [PyData.showable] using hz
  · simp only [PyData.shown]
    exact int_text_fits hz
theorem fine_list {ds : List PyData} (h : ∀ d ∈ ds, d.canLay0 = true ∧ d.showable = true ∧ d.depth ≤ 10 ∧ d.shown.length ≤ 1000) (hl : ds.length ≤ 1000) : Fine (.list ds) := by
  have key : PyData.canLayAll0 ds = true ∧ PyData.showableAll ds = true ∧ PyData.depthAll ds ≤ 10 ∧ ((PyData.shownAll ds).map (·.length)).sum ≤ 1000 * ds.length ∧ (PyData.shownAll ds).length = ds.length := by
    clear hl
    induction ds with
    | nil => exact ⟨rfl, rfl, by show 0 ≤ 10; decide, Nat.le_refl _, rfl⟩
    | cons d ds ih =>
      obtain ⟨i1, i2, i3, i4, i5⟩ := ih fun d' hd => h d' (List.mem_cons_of_mem _ hd)
      obtain ⟨j1, j2, j3, j4⟩ := h d List.mem_cons_self
      refine ⟨?_, ?_, ?_, ?_, ?_⟩
      · show (PyData.canLay0 d && PyData.canLayAll0 ds) = true
        rw [j1, i1]; rfl
      · show (PyData.showable d && PyData.showableAll ds) = true
        rw [j2, i2]; rfl
      · show max (PyData.depth d) (PyData.depthAll ds) ≤ 10
        omega
      · show ((PyData.shown d :: PyData.shownAll ds).map (·.length)).sum ≤ 1000 * (ds.length + 1)
        rw [List.map_cons, List.sum_cons]
        omega
      · show (PyData.shownAll ds).length + 1 = ds.length + 1
        rw [i5]
  obtain ⟨k1, k2, k3, k4, k5⟩ := key
  refine ⟨k1, k2, by show PyData.depthAll ds + 1 ≤ 40; omega, ?_⟩
  simp only [PyData.shown]
  have := listText_len_le (PyData.shownAll ds)
  rw [k5] at this
  have hm : 1000 * ds.length ≤ 1000 * 1000 := Nat.mul_le_mul_left _ hl
  have hz : 1000 * 1000 + 2 * 1000 + 3 ≤ sizeLine := by decide
  omega
theorem fine_nats {ds : List Nat} (h : ∀ d ∈ ds, d < 10 ^ 12) (hl : ds.length ≤ 1000) : Fine (.list (ds.map nD)) := by
  refine fine_list (fun d hd => ?_) (by rw [List.length_map]; exact hl)
  obtain ⟨n, hn, rfl⟩ := List.mem_map.mp hd
  have hn := h n hn
  have f : Fine (nD n) := fine_int (by
    have : (10 : Nat) ^ 12 < 2 ^ 1000 := by decide +kernel
    show ((n : Int)).natAbs < 2 ^ 1000
    omega)
  refine ⟨f.lay, f.show_, by show 0 ≤ 10; decide, ?_⟩
  have := PyData.shown_int_le (i := (n : Int)) (by omega)
  show (PyData.shown (.int (n : Int))).length ≤ 1000
  omega
theorem dpAll_nats {K : PySem.W.Frag} {H : Hp} : ∀ ns : List Nat, DpAll K H (ns.map nV) (ns.map nD)
  | [] => .nil
  | n :: ns => .cons (.int (n : Int)) (dpAll_nats ns)
def spFigs : Sp := fun vs H Q _ => ∃ (n p : Nat), vs = [.int (n : Int), .int (p : Int)] ∧ n < 2 ^ 1000 ∧ 2 ≤ p ∧ p ≤ 4 ∧ ∀ (q : Addr) (H' : Hp), Same H H' → H q = none → H' q = some (.lst ((figs p n).map nV)) → Q (.ref q) H'
def spNum (K : PySem.W.Frag) : Sp := fun vs H Q _ => ∃ (a : Addr) (p : Nat) (ds : List Nat), vs = [.ref a, .int (p : Int)] ∧ SqL K H a (ds.map nV) ∧ p ≤ 4 ∧ Q (.int ((num p ds : Nat) : Int)) H
def spSummed (K : PySem.W.Frag) : Sp := fun vs H Q _ => ∃ (a : Addr) (p : Nat) (ds : List Nat), vs = [.ref a, .int (p : Int)] ∧ SqL K H a (ds.map nV) ∧ p ≤ 4 ∧ (∀ d ∈ ds, d < 1000) ∧ ∀ H', Same H H' → Q (.int ((num p ds : Nat) : Int)) H'
def spRight (K : PySem.W.Frag) : Sp := fun vs H Q _ => ∃ (a : Addr) (n p : Nat), vs = [.ref a, .int (n : Int), .int (p : Int)] ∧ H a = some (.lst ((figs p n).map nV)) ∧ 2 ≤ p ∧ p ≤ 4 ∧ (figs p n).length ≤ 1000 ∧ ∀ H', Same H H' → Q (.bl true) H'
def spAlike (K : PySem.W.Frag) : Sp := fun vs H Q _ => ∃ (x y : V) (d : PyData), vs = [x, y] ∧ Dp K H x d ∧ Dp K H y d ∧ Fine d ∧ Q (.bl true) H
end HG

/-! reading a choir's parts; where a standing leads -/
namespace HG
open PySem PySem.Spec PyProof.Rows L2 HF
theorem dp_tup_inv {K : PySem.W.Frag} {H : Hp} {v : V} {ds : List PyData} (h : Dp K H v (.tuple ds)) : ∃ a xs, v = .ref a ∧ SqT K H a xs ∧ DpAll K H xs ds := by
  cases h with
  | tup h1 h2 => exact ⟨_, _, rfl, h1, h2⟩
theorem dp_lst_inv {K : PySem.W.Frag} {H : Hp} {v : V} {ds : List PyData} (h : Dp K H v (.list ds)) : ∃ a xs, v = .ref a ∧ SqL K H a xs ∧ DpAll K H xs ds := by
  cases h with
  | lst h1 h2 => exact ⟨_, _, rfl, h1, h2⟩
theorem dp_int_inv {K : PySem.W.Frag} {H : Hp} {v : V} {i : Int} (h : Dp K H v (.int i)) : v = .int i := by cases h; rfl
theorem dp_str_inv {K : PySem.W.Frag} {H : Hp} {v : V} {z : Str} (h : Dp K H v (.str z)) : v = .str z := by cases h; rfl
theorem dpAll_len {K : PySem.W.Frag} {H : Hp} : ∀ {ds : List PyData} {xs : List V}, DpAll K H xs ds → xs.length = ds.length
  | [], _, h => by cases h; rfl
  | _ :: _, _, h => by cases h with | cons h1 h2 => exact congrArg (· + 1) (dpAll_len h2)
theorem dpAll_get {K : PySem.W.Frag} {H : Hp} : ∀ {ds : List PyData} {xs : List V} {i : Nat} {d : PyData}, DpAll K H xs ds → ds[i]? = some d → ∃ x, xs[i]? = some x ∧ Dp K H x d
  | _ :: _, _, 0, _, h, e => by
    cases h with
    | cons h1 h2 => cases e; exact ⟨_, rfl, h1⟩
  | _ :: _, _, i + 1, _, h, e => by
    cases h with
    | cons h1 h2 =>
      obtain ⟨x, hx, hd⟩ := dpAll_get (i := i) h2 e
      exact ⟨x, hx, hd⟩
theorem dpAll_get' {K : PySem.W.Frag} {H : Hp} : ∀ {ds : List PyData} {xs : List V} {i : Nat} {x : V}, DpAll K H xs ds → xs[i]? = some x → ∃ d, ds[i]? = some d ∧ Dp K H x d
  | [], _, _, _, h, e => by cases h; cases e
  | _ :: _, _, 0, _, h, e => by
    cases h with
    | cons h1 h2 => cases e; exact ⟨_, rfl, h1⟩
  | _ :: _, _, i + 1, _, h, e => by
    cases h with
    | cons h1 h2 =>
      obtain ⟨x, hx, hd⟩ := dpAll_get' (i := i) h2 e
      exact ⟨x, hx, hd⟩
/-- an item of a tuple -/
theorem tup_at {K : PySem.W.Frag} {H : Hp} {v : V} {ds : List PyData} {i : Nat} {d : PyData} (h : Dp K H v (.tuple ds)) (e : ds[i]? = some d) : ∃ a xs x, v = .ref a ∧ SqT K H a xs ∧ atI xs (i : Int) = some x ∧ Dp K H x d := by
  obtain ⟨a, xs, rfl, hs, ha⟩ := dp_tup_inv h
  obtain ⟨x, hx, hd⟩ := dpAll_get ha e
  exact ⟨a, xs, x, rfl, hs, atI_nat hx, hd⟩
theorem dpAll_nats2 {K : PySem.W.Frag} {H : Hp} : ∀ t : List Nat, DpAll K H (nVs t) (nDs t)
  | [] => .nil
  | d :: t => .cons (.int (d : Int)) (dpAll_nats2 t)
theorem dp_tab {K : PySem.W.Frag} {H : Hp} {a : Addr} {t : List Nat} (h : H a = some (.tup (nVs t))) : Dp K H (.ref a) (tabD t) := .tup (.of h) (dpAll_nats2 t)
theorem nDs_at {t : List Nat} {i : Nat} (h : i < t.length) : (nDs t)[i]? = some (.int ((t.getD i 0 : Nat) : Int)) := by
  unfold nDs
  rw [List.getElem?_map, List.getElem?_eq_getElem h, List.getD_eq_getElem?_getD, List.getElem?_eq_getElem h]
  rfl
/-- a part of the heap, and what is new -/
def more (G H H' : Hp) : Hp := fun b => if H b = none then H' b else G b
theorem more_sub {G H H' : Hp} (g : Same G H) (s : Same H H') : Same (more G H H') H' := fun b o e => by
  unfold more at e
  by_cases c : H b = none
  · rw [if_pos c] at e; exact e
  · rw [if_neg c] at e; exact s _ _ (g _ _ e)
theorem more_old {G H H' : Hp} (g : Same G H) : Same G (more G H H') := fun b o e => by
  unfold more
  rw [if_neg (fun z => by rw [g b o e] at z; cases z)]
  exact e
theorem more_fresh {G H H' : Hp} : Same (fresh H H') (more G H H') := fun b o e => by
  unfold fresh at e
  unfold more
  by_cases c : H b = none
  · rw [if_pos c] at e ⊢; exact e
  · rw [if_neg c] at e; cases e
theorem more_off {p : Addr} {H H' : Hp} (s : Same H H') (hp : H p ≠ none) : Same (more (off p H) H H') (off p H') := fun b o e => by
  unfold more at e
  by_cases c : H b = none
  · rw [if_pos c] at e
    rw [off_ne (show b ≠ p from fun z => hp (by rw [← z]; exact c))]
    exact e
  · rw [if_neg c] at e
    exact off_same s b o e
theorem more_more {G H H1 H2 : Hp} (s1 : Same H H1) (s2 : Same H1 H2) : Same (more (more G H H1) H1 H2) (more G H H2) := fun b o e => by
  unfold more at e ⊢
  by_cases c1 : H1 b = none
  · rw [if_pos c1] at e
    rw [if_pos (s1.free c1)]
    exact e
  · rw [if_neg c1] at e
    by_cases c : H b = none
    · rw [if_pos c] at e ⊢
      exact s2 _ _ e
    · rw [if_neg c] at e ⊢
      exact e
theorem more_keep {G H H1 H2 : Hp} (s2 : Same H1 H2) : Same (more G H H1) (more G H H2) := fun b o e => by
  unfold more at e ⊢
  by_cases c : H b = none
  · rw [if_pos c] at e ⊢
    exact s2 _ _ e
  · rw [if_neg c] at e ⊢
    exact e
/-! what a choir's parts hold, as data -/
theorem parts_inv {K : PySem.W.Frag} {G : Hp} {v : V} {P : Parts} (h : Dp K G v (partsD P)) : ∃ a vl xs, v = .ref a ∧ SqT K G a [.int (P.pace : Int), .int (P.notes : Int), .ref vl] ∧ SqL K G vl xs ∧ DpAll K G xs (P.voices.map voiceD) := by
  obtain ⟨a, ys, rfl, hs, ha⟩ := dp_tup_inv h
  cases ha with
  | cons h1 h2 => cases h1; cases h2 with
    | cons h3 h4 => cases h3; cases h4 with
      | cons h5 h6 =>
        cases h6
        obtain ⟨vl, xs, rfl, hl, hd⟩ := dp_lst_inv h5
        exact ⟨a, vl, xs, rfl, hs, hl, hd⟩
theorem voice_inv {K : PySem.W.Frag} {G : Hp} {v : V} {c : Voice} (h : Dp K G v (voiceD c)) : ∃ a x1 x2, v = .ref a ∧ SqT K G a [.str c.name, x1, x2] ∧ Dp K G x1 (.tuple (c.elders.map PyData.str)) ∧ Dp K G x2 (.tuple (c.tables.map tabD)) := by
  obtain ⟨a, ys, rfl, hs, ha⟩ := dp_tup_inv h
  cases ha with
  | cons h1 h2 => cases h1; cases h2 with
    | cons h3 h4 => cases h4 with
      | cons h5 h6 => cases h6; exact ⟨a, _, _, rfl, hs, h3, h5⟩
/-- o.m(e, ..) of a built-in type's method, where the letters of a comprehension's block may not stand in the reading -/
theorem pe_bmK {X : Cx} {K : PySem.W.Frag} {o e : Expr} {es : List Expr} {to : TE} {t : TA} {name : Str} {apos cpos : Pos} {T id : String} {r : V → List V → Hp → VK → Prop} (hK : X.K = K) (p1 : PlainAttrs T) (p2 : Slot T name id) (p3 : typeOf (Value.builtin id) = pure (Value.type "method_descriptor"))
    (p4 : MtR X id r) (ho : PE X o to) (ha : PA X (e :: es) t) (h1 : attributeBase o name X.env (eval o X.env) = eval o X.env := by rfl)
    (h2 : (((((backTo cpos (starEach (e :: es) X.env)).all fun x => !x.fst) && (backToKw cpos (keywordEach [] X.env)).all fun x => x.fst.isSome) && decide (((e :: es).length + ([] : List Keyword).length + if ([] : List Keyword).isEmpty = true then 0 else 1) < 30)) = true) := by rfl)
    (h3 : (apos.endLine == cpos.line) = true := by rfl) (h4 : starEach (e :: es) X.env = (false, eval e X.env) :: starEach es X.env := by rfl) (h5 : ((backTo cpos (starEach es X.env)).any fun x => x.fst) = false := by rfl) :
    PE X ((o.Attribute name apos).Call (e :: es) [] cpos) (tBM K T r to t) := by
  subst hK
  exact pe_bm p1 p2 p3 p4 ho ha h1 h2 h3 h4 h5
/-- a standing of the choir -/
def StOk (P : Parts) (st : List Nat) : Prop := st.length = P.voices.length ∧ ∀ d ∈ st, d < P.notes
def elderAt (P : Parts) (v : Voice) (r : Nat) : Nat := P.names.idxOf (v.elders.getD r (Str.ofString ""))
def ledV (P : Parts) (st : List Nat) (r : Nat) (v : Voice) : Nat := (v.tables.getD r []).getD (st.getD (elderAt P v r) 0) 0
def ledL (P : Parts) (st : List Nat) (r : Nat) : List Nat := P.voices.map (ledV P st r)
def behL (P : Parts) (st : List Nat) (w : Nat) : List Nat := (figs P.pace w).foldl (ledL P) st
theorem elder_mem {P : Parts} {lim : Nat} (ok : P.Ok lim) {v : Voice} (hv : v ∈ P.voices) {r : Nat} (hr : r < P.pace) : v.elders.getD r (Str.ofString "") ∈ P.names := by
  obtain ⟨h1, h2⟩ := ok.elds v hv
  rw [List.getD_eq_getElem?_getD, List.getElem?_eq_getElem (by omega)]
  exact h2 _ (List.getElem_mem _)
theorem elder_lt {P : Parts} {lim : Nat} (ok : P.Ok lim) {v : Voice} (hv : v ∈ P.voices) {r : Nat} (hr : r < P.pace) : elderAt P v r < P.voices.length := by
  have h := List.idxOf_lt_length_of_mem (elder_mem ok hv hr)
  have e : P.names.length = P.voices.length := List.length_map ..
  unfold elderAt
  omega
theorem tab_at {P : Parts} {lim : Nat} (ok : P.Ok lim) {v : Voice} (hv : v ∈ P.voices) {r : Nat} (hr : r < P.pace) : TabOk P.notes (v.tables.getD r []) := by
  obtain ⟨h1, h2⟩ := ok.tabs v hv
  rw [List.getD_eq_getElem?_getD, List.getElem?_eq_getElem (by omega)]
  exact h2 _ (List.getElem_mem _)
theorem getD_mem_lt {t : List Nat} {i n : Nat} (h : i < t.length) (ht : ∀ d ∈ t, d < n) : t.getD i 0 < n := by
  rw [List.getD_eq_getElem?_getD, List.getElem?_eq_getElem h]
  exact ht _ (List.getElem_mem _)
theorem led_ok {P : Parts} {lim : Nat} (ok : P.Ok lim) {st : List Nat} (hs : StOk P st) {r : Nat} (hr : r < P.pace) : StOk P (ledL P st r) := by
  refine ⟨List.length_map .., fun d hd => ?_⟩
  obtain ⟨v, hv, rfl⟩ := List.mem_map.mp hd
  obtain ⟨h1, h2⟩ := tab_at ok hv hr
  refine getD_mem_lt ?_ h2
  rw [h1]
  exact getD_mem_lt (by rw [hs.1]; exact elder_lt ok hv hr) hs.2
def spStanding (K : PySem.W.Frag) : Sp := fun vs H Q _ => ∃ (p : Addr) (v : V) (P : Parts) (lim : Nat), vs = [.ref p, v] ∧ Bag H p ∧ Dp K (off p H) v (partsD P) ∧ P.Ok lim ∧ ∀ (q : Addr) (H' : Hp) (st : List Nat), Stp p H H' → H q = none → H' q = some (.tup (nVs st)) → StOk P st → Q (.ref q) H'
def spLed (K : PySem.W.Frag) : Sp := fun vs H Q _ => ∃ (G : Hp) (v sv : V) (r : Nat) (P : Parts) (st : List Nat) (lim : Nat), vs = [v, sv, .int (r : Int)] ∧ Same G H ∧ Dp K G v (partsD P) ∧ Dp K G sv (tabD st) ∧ P.Ok lim ∧ StOk P st ∧ r < P.pace ∧ ∀ (q : Addr) (H' : Hp), Same H H' → H q = none → H' q = some (.tup (nVs (ledL P st r))) → Q (.ref q) H'
def spBehind (K : PySem.W.Frag) : Sp := fun vs H Q _ => ∃ (G : Hp) (v sv : V) (w : Nat) (P : Parts) (st : List Nat) (lim : Nat), vs = [v, sv, .int (w : Int)] ∧ Same G H ∧ Dp K G v (partsD P) ∧ Dp K G sv (tabD st) ∧ P.Ok lim ∧ StOk P st ∧ w < 2 ^ 1000 ∧ ∀ (x : V) (H' : Hp), Same H H' → Dp K (more G H H') x (tabD (behL P st w)) → Q x H'
def spBeat : Sp := fun vs H Q _ => ∃ (p : Addr) (pace far : Nat), vs = [.ref p, .int (pace : Int), .int (far : Int)] ∧ Bag H p ∧ 2 ≤ pace ∧ pace ≤ 4 ∧ far < 2 ^ 500 ∧ ∀ (r : Nat) (H' : Hp), Stp p H H' → r ≤ far → Q (.int (r : Int)) H'
end HG

/-! what the laws ask of a choir that the program made -/
namespace HG
open PySem PySem.Spec PyProof.Rows L2 HF
def meths : List Str := ["_numbered", "number", "steps", "reached", "tree", "_levels_of", "pace", "notes", "names", "elder", "table", "voices", "led", "behind", "hangs", "only", "seen"]
structure ChoirK (C : Addr) (At : Hp → Addr → Parts → Prop) : Prop where
  mono : ∀ {G G' : Hp} {x : Addr} {P : Parts}, Same G G' → At G x P → At G' x P
  ins : ∀ {G : Hp} {x : Addr} {P : Parts}, At G x P → ∃ dx fs, G x = some (.ins C dx fs) ∧ ∀ m ∈ meths, fs.lookup m = none
def spLedM (K : PySem.W.Frag) (At : Hp → Addr → Parts → Prop) : Sp := fun vs H Q _ => ∃ (G : Hp) (x : Addr) (sv : V) (r : Nat) (P : Parts) (st : List Nat) (lim : Nat), vs = [.ref x, sv, .int (r : Int)] ∧ Same G H ∧ At G x P ∧ Dp K G sv (tabD st) ∧ P.Ok lim ∧ lim ≤ 64 ∧ StOk P st ∧ r < P.pace ∧ ∀ (v : V) (H' : Hp), Same H H' → Dp K (more G H H') v (tabD (ledL P st r)) → Q v H'
def spBehindM (K : PySem.W.Frag) (At : Hp → Addr → Parts → Prop) : Sp := fun vs H Q _ => ∃ (G : Hp) (x : Addr) (sv : V) (w : Nat) (P : Parts) (st : List Nat) (lim : Nat), vs = [.ref x, sv, .int (w : Int)] ∧ Same G H ∧ At G x P ∧ Dp K G sv (tabD st) ∧ P.Ok lim ∧ lim ≤ 64 ∧ StOk P st ∧ w < 2 ^ 1000 ∧ ∀ (v : V) (H' : Hp), Same H H' → Dp K (more G H H') v (tabD (behL P st w)) → Q v H'
def spPaceM (At : Hp → Addr → Parts → Prop) : Sp := fun vs H Q _ => ∃ (G : Hp) (x : Addr) (P : Parts), vs = [.ref x] ∧ Same G H ∧ At G x P ∧ Q (.int (P.pace : Int)) H
theorem beh_ok {P : Parts} {lim : Nat} (ok : P.Ok lim) {st : List Nat} (hs : StOk P st) (w : Nat) : StOk P (behL P st w) := by
  have h : ∀ (ds st : List Nat), (∀ d ∈ ds, d < P.pace) → StOk P st → StOk P (ds.foldl (ledL P) st) := by
    intro ds
    induction ds with
    | nil => exact fun st _ h => h
    | cons d ds ih => exact fun st hd h => ih _ (fun e he => hd e (List.mem_cons_of_mem _ he)) (led_ok ok h (hd d List.mem_cons_self))
  exact h _ _ (figs_lt ok.p2 w) hs
theorem shown_nat {d : Nat} (h : d < 10 ^ 12) : (nD d).canLay0 = true ∧ (nD d).showable = true ∧ (nD d).depth ≤ 10 ∧ (nD d).shown.length ≤ 1000 := by
  have f : Fine (nD d) := fine_int (by
    have : (10 : Nat) ^ 12 < 2 ^ 1000 := by decide +kernel
    show ((d : Int)).natAbs < 2 ^ 1000
    omega)
  refine ⟨f.lay, f.show_, by show 0 ≤ 10; decide, ?_⟩
  have := PyData.shown_int_le (i := (d : Int)) (by omega)
  show (PyData.shown (.int (d : Int))).length ≤ 1000
  omega
/-- a tuple of numbers can be compared and shown -/
theorem fine_tab {t : List Nat} (h : ∀ d ∈ t, d < 10 ^ 12) (hl : t.length ≤ 100) : Fine (tabD t) := by
  have key : PyData.canLayAll0 (nDs t) = true ∧ PyData.showableAll (nDs t) = true ∧ PyData.depthAll (nDs t) ≤ 10 ∧ ((PyData.shownAll (nDs t)).map (·.length)).sum ≤ 1000 * t.length ∧ (PyData.shownAll (nDs t)).length = t.length := by
    clear hl
    induction t with
    | nil => exact ⟨rfl, rfl, by show 0 ≤ 10; decide, Nat.le_refl _, rfl⟩
    | cons d t ih =>
      obtain ⟨i1, i2, i3, i4, i5⟩ := ih fun d' hd => h d' (List.mem_cons_of_mem _ hd)
      obtain ⟨j1, j2, j3, j4⟩ := shown_nat (h d List.mem_cons_self)
      refine ⟨?_, ?_, ?_, ?_, ?_⟩
      · show (PyData.canLay0 (nD d) && PyData.canLayAll0 (nDs t)) = true
        rw [j1, i1]; rfl
      · show (PyData.showable (nD d) && PyData.showableAll (nDs t)) = true
        rw [j2, i2]; rfl
      · show max (PyData.depth (nD d)) (PyData.depthAll (nDs t)) ≤ 10
        omega
      · show ((PyData.shown (nD d) :: PyData.shownAll (nDs t)).map (·.length)).sum ≤ 1000 * (t.length + 1)
        rw [List.map_cons, List.sum_cons]
        omega
      · show (PyData.shownAll (nDs t)).length + 1 = t.length + 1
        rw [i5]
  obtain ⟨k1, k2, k3, k4, k5⟩ := key
  refine ⟨k1, k2, by show PyData.depthAll (nDs t) + 1 ≤ 40; omega, ?_⟩
  unfold tabD
  simp only [PyData.shown]
  have := tupleText_len_le (PyData.shownAll (nDs t))
  rw [k5] at this
  have hm : 1000 * t.length ≤ 1000 * 100 := Nat.mul_le_mul_left _ hl
  have hz : 1000 * 100 + 2 * 100 + 5 ≤ sizeLine := by decide
  omega
end HG
namespace HG
open PySem PySem.Spec PyProof.Rows L2 HF
def plus (x dx : Addr) (A H' : Hp) : Hp := fun b => if b = x ∨ b = dx then H' b else A b
def spMakeC (K : PySem.W.Frag) (C : Addr) (At : Hp → Addr → Parts → Prop) : Sp := fun vs H Q _ => ∃ (G : Hp) (x dx : Addr) (v : V) (vs' : List Voice) (P : Parts) (lim : Nat), vs = [.ref x, .int (P.pace : Int), .int (P.notes : Int), v] ∧ Same G H ∧ H x = some (.ins C dx []) ∧ H dx = some (.own x) ∧ G x = none ∧ G dx = none ∧ Dp K G v (.list (vs'.map voiceD)) ∧ vs'.Perm P.voices ∧ P.Ok lim ∧ lim ≤ 64 ∧
  ∀ H' : Hp, (∀ b o, H b = some o → b ≠ x → H' b = some o) → At (plus x dx (more G H H') H') x P → Q .non H'
def spChoir (K : PySem.W.Frag) (At : Hp → Addr → Parts → Prop) : Sp := fun vs H Q _ => ∃ (G : Hp) (v : V) (P : Parts) (lim : Nat), vs = [v] ∧ Same G H ∧ Dp K G v (partsD P) ∧ P.Ok lim ∧ lim ≤ 64 ∧ ∀ (x : Addr) (H' : Hp), Same H H' → H x = none → At (more G H H') x P → Q (.ref x) H'
theorem dpAll_rev {K : PySem.W.Frag} {H : Hp} : ∀ {ds : List PyData} {xs : List V}, DpAll K H xs ds → DpAll K H xs.reverse ds.reverse
  | [], _, h => by cases h; exact .nil
  | d :: ds, _, h => by
    cases h with
    | cons h1 h2 =>
      rw [List.reverse_cons, List.reverse_cons]
      exact dpAll_app (dpAll_rev h2) (.cons h1 .nil)
theorem Parts.Ok.up {P : Parts} {a b : Nat} (h : P.Ok a) (l : a ≤ b) : P.Ok b := ⟨h.p2, h.p4, h.n2, h.n5, h.v1, h.v6, Nat.le_trans h.size l, h.nodup, h.sorted, h.good, h.elds, h.tabs⟩
end HG
namespace HG
open PySem PySem.Spec PyProof.Rows L2 HF
theorem off2 {D p b : Addr} {H : Hp} (h1 : b ≠ D) (h2 : b ≠ p) : off D (off p H) b = H b := by rw [off_ne h1, off_ne h2]
theorem off2_inv {D p b : Addr} {H : Hp} {o : HO} (e : off D (off p H) b = some o) : b ≠ D ∧ b ≠ p ∧ H b = some o := by
  unfold off at e
  by_cases c : b = D
  · rw [if_pos c] at e; cases e
  · rw [if_neg c] at e
    by_cases c2 : b = p
    · rw [if_pos c2] at e; cases e
    · rw [if_neg c2] at e; exact ⟨c, c2, e⟩
theorem off2_more {D p : Addr} {H H' : Hp} (s : Same H H') (hD : H D ≠ none) (hp : H p ≠ none) : Same (more (off D (off p H)) H H') (off D (off p H')) := fun b o e => by
  unfold more at e
  by_cases c : H b = none
  · rw [if_pos c] at e
    rw [off2 (fun z => hD (by rw [← z]; exact c)) (fun z => hp (by rw [← z]; exact c))]
    exact e
  · rw [if_neg c] at e
    obtain ⟨h1, h2, h3⟩ := off2_inv e
    rw [off2 h1 h2]
    exact s _ _ h3
theorem off2_upd {D p : Addr} {H : Hp} {o : HO} : Same (off D (off p H)) (off D (off p (upd H D o))) := fun b x e => by
  obtain ⟨h1, h2, h3⟩ := off2_inv e
  rw [off2 h1 h2, upd_ne h1]
  exact h3
theorem off2_same {D p : Addr} {H H' : Hp} (s : Same H H') : Same (off D (off p H)) (off D (off p H')) := off_same (off_same s)
theorem off2_new {D p : Addr} {H H' : Hp} (s : Same H H') (nD : H D = none) : Same (off p H) (off D (off p H')) := fun b o e => by
  have h : b ≠ p := fun z => by rw [z] at e; unfold off at e; rw [if_pos rfl] at e; cases e
  rw [off_ne h] at e
  rw [off2 (ne_of_none e nD) h]
  exact s _ _ e
end HG
namespace HG
open PySem PySem.Spec PyProof.Rows L2 HF
theorem lookup_no : ∀ {fs : List (Str × V)} {m : Str}, m ∉ fs.map (·.1) → fs.lookup m = none
  | [], _, _ => rfl
  | (k, v) :: r, m, h => by
    have h1 : m ≠ k := fun z => h (by rw [z]; exact List.mem_cons_self)
    have h2 : (m == k) = false := beq_eq_false_iff_ne.mpr h1
    show (match m == k with | true => some v | false => r.lookup m) = none
    rw [h2]
    exact lookup_no fun z => h (List.mem_cons_of_mem _ z)
end HG

/-! dict comprehensions whose keys are tuples -/
namespace HG
open PySem PySem.Spec PyProof.Rows L2
/-- D[k] = v in a comprehension's turn, keys ints, texts or tuples of these -/
theorem putTurn {X : Cx} {A : Around} {pins : List (Addr × Obj)} {σ : L2.St} {Ha Hb : Hp} {s : Shared} {E : Value → Shared → Prop} {D : Addr} {y v : V} {u r : Value} {Q : Unit → Shared → Prop} (hu : A.units < cLine) (I : Inv X pins σ Ha s)
    (g : DPut Ha D y v Hb) (ry : RelV y u) (rv : RelV v r) (done : ∀ t, Inv X pins σ Hb t → Q () t) : wpAny (model X.prog X.w) A (dictSet D u r) Q E s := by
  rcases g with ⟨kvs, k, e, rfl, l, rfl⟩ | ⟨kvs, k, b, e, rfl, eb, l, rfl⟩
  · obtain ⟨z, nd, vs, rel, dd⟩ := dk_of I.hok e
    have z2 : vs.length ≤ sizeLine := by rw [← rel.length]; exact z
    have z3 : (putK kvs k v).length ≤ sizeLine := Nat.le_trans (length_putK kvs k v) l
    refine wpAny_dictSet_pairs (hsz := z2) (kV_is ry) dd fun h2 d2 sb => done _ ?_
    obtain ⟨q, es, ep, hq, rest⟩ := id d2
    exact d_write I (by rw [e]; trivial) sb ⟨q, hq⟩ (dk_new z3 nd (rel.put k rv) d2)
  · obtain rfl : u = Value.ref b := ry
    obtain ⟨z, nd, xs, rel, dd⟩ := dt_of I.hok e
    have z2 : xs.length ≤ sizeLine := by rw [← Paired.length rel]; exact z
    have z3 : (putK kvs k v).length ≤ sizeLine := Nat.le_trans (length_putK kvs k v) l
    refine wpAny_dictSet_heap (hsz := z2) (knd := tupleKind (mixKind X.prog X.w)) hu (key_of I.hok eb) dd fun h2 d2 sb => done _ ?_
    obtain ⟨q, es, ep, hq, r2, r3, r4, _, r5⟩ := d2
    refine d_write I (by rw [e]; trivial) sb ⟨q, hq⟩ ⟨z3, nd, _, (rel.put k eb rv).keeps fun c ys ec => ?_, q, es, ep, hq, r2, r3, r4, r5⟩
    rw [upd_ne (ne_of ec e nofun)]
    exact ec
/-- {k: v for target in iter if ..}: the new dict begins as o0 ({} of ints and texts, or of tuples), a turn puts one pair -/
def tDcG (o0 : HO) (wi : TI) (g : TG) (tt : TT) (tk tv : TE) (vs : List Nat) : TE := fun σ H Q => wi σ H fun J H1 => ∀ D, H1 D = none →
  ∃ W : Nat → Nat → Hp → Prop, (∃ m, W 0 m (upd H1 D o0)) ∧ ∀ i m H, W i m H → (J.stop i H ∧ Q (.ref D) H) ∨
    (J.go i H ∧ ∃ Nx : Hp → Prop, (∀ H', Nx H' → ∃ m', m' < m ∧ W (i + 1) m' H') ∧ ∀ x H', J.yld i H x H' → g x (wipe σ vs) H' fun σ2 H2 =>
      wipe σ2 vs = wipe σ vs ∧ tt σ2 H2 fun b H3 => if b = true then tk σ2 H3 fun y H4 => tv σ2 H4 fun z H5 => ∃ H6, DPut H5 D y z H6 ∧ Nx H6 else Nx H3)
/-- what may stand as the empty dict -/
def Empt (o0 : HO) : Prop := o0 = .dK [] ∨ o0 = .dT []
theorem empt_ok {P : Program} {w : World} {H : Hp} {o0 : HO} (z : Empt o0) (h : Heap) (hb : sysModules < h.objs.size) : ObjOk P w H (h.push { cls := .type "dict", data := .dict #[] }) h.objs.size o0 := by
  rcases z with rfl | rfl
  · exact dk_empty h hb
  · exact dt_empty h hb
theorem pe_dcG {X : Cx} {o0 : HO} {kx vx tg iter : Expr} {ifs : List Expr} {sc : Scope} {own : List (Str × Nat)} {pos : Pos} {wi : TI} {g : TG} {tt : TT} {tk tv : TE} (z0 : Empt o0) (hu : X.A.units < cLine) (hc : X.calm = true) (hN : X.N.Nodup) (hi : PI X tg iter wi)
    (ok : BlkOk X.N X.env.scope sc own)
    (hg : ∀ (s : Shared) (H : Hp) (C : Addr) (cl : List (Str × Addr)) (fp : List Addr), PG (X.blk s H sc (compEnvC sc cl C X.env) fp) tg g)
    (ht : ∀ (s : Shared) (H : Hp) (C : Addr) (cl : List (Str × Addr)) (fp : List Addr), PTs (X.blk s H sc (compEnvC sc cl C X.env) fp) ifs tt)
    (hk : ∀ (s : Shared) (H : Hp) (C : Addr) (cl : List (Str × Addr)) (fp : List Addr), PE (X.blk s H sc (compEnvC sc cl C X.env) fp) kx tk)
    (he : ∀ (s : Shared) (H : Hp) (C : Addr) (cl : List (Str × Addr)) (fp : List Addr), PE (X.blk s H sc (compEnvC sc cl C X.env) fp) vx tv)
    (hs : ∀ x, foldedSetIterable iter X.env x = pure x := by intro _; rfl) : PE X (.DictComp kx vx [⟨tg, iter, ifs, 0⟩] sc pos) (tDcG o0 wi g tt tk tv (own.map (·.2))) := by
  refine ⟨fun pins s0 σ H Q I hwish => ?_⟩
  rw [arm_eval_DictComp]
  have frees : ∀ n ∈ sc.names, n.2 = .free → ∃ c, X.env.cells.lookup n.1 = some c := by
    intro n hn e
    rcases ok.free n hn e with q | q
    · exact I.ok.has _ (.inl q)
    · exact I.ok.has _ (.inr q)
  refine wpAny_comprehension_free (use := none) rfl hs (closure_ok frees) ok.kind (fun n hn e => by rw [ok.uniq n hn, e]) (thn (hi.run pins s0 σ H _ I hwish) fun xv sA hA => thn hA fun itv sB hB => ?_)
  obtain ⟨it, fp, tn, J, HB, rfl, IB, T, stB, fB, wish⟩ := hB
  refine wpAny_newObj_type (newEnv_comp ?_)
  -- the dict's place
  generalize hDn : sB.heap.objs.size = D
  have freeD : HB D = none := IB.hok.fresh (Nat.le_of_eq hDn)
  obtain ⟨W, ⟨mStart, wStart⟩, turns⟩ := wish D freeD
  show (fun sC : Shared => codeAny (model X.prog X.w) X.A (.compStart (.DictComp kx vx [⟨tg, iter, ifs, 0⟩] sc pos) 0 (.ref it) (.ref D) (compEnvC sc (cellsFrom (sC.heap.objs.size + 1) sc.names (cloFrom X.env.cells sc.names [])) sC.heap.objs.size X.env))
    (compPost (model X.prog X.w) X.A X.xe none (EP X pins σ Q) (.ref D) sC.heap.objs.size) { sC with heap := pushCells (sC.heap.push { cls := .type "dict", data := .dict #[] }) sc.names }) { sB with heap := sB.heap.push { cls := .type "dict", data := .dict #[] } }
  generalize hsC : ({ sB with heap := sB.heap.push { cls := .type "dict", data := .dict #[] } } : Shared) = sC
  have heapC : sC.heap = sB.heap.push { cls := .type "dict", data := .dict #[] } := by rw [← hsC]
  have stays : ∀ b o, sB.heap.get? b = some o → sC.heap.get? b = some o := fun b o e => by
    rw [heapC]
    exact Heap.get?_push_of_some _ e
  have IC : Inv X pins σ (upd HB D o0) sC := by
    rw [← hsC]
    refine IB.laid (t' := sB.toks) (fun b o e => Heap.get?_push_of_some _ e) (Nat.le_of_eq hDn) ?_
    rw [← hDn]
    exact empt_ok z0 sB.heap IB.big
  have below : ∀ b ∈ fp, b < sB.heap.objs.size := fun b hb => Heap.lt_size (T.obj _ _ stB b hb).choose_spec.1
  have fC : ∀ b ∈ fp, FpOk X pins (upd HB D o0) b ∧ b < sC.heap.objs.size := by
    intro b hb
    have lt := below b hb
    refine ⟨⟨?_, (fB b hb).2⟩, ?_⟩
    · rw [upd_ne (fun z => by rw [z, ← hDn] at lt; exact Nat.lt_irrefl _ lt)]
      exact (fB b hb).1
    · rw [heapC, Heap.size_push]
      exact Nat.lt_succ_of_lt lt
  have stC : tn 0 sC.heap := T.keep _ _ _ stB fun b _ o e => stays b o e
  have ID := block_start IC ok hN fC
  have pg := hg sC (upd HB D o0) sC.heap.objs.size (cellsFrom (sC.heap.objs.size + 1) sc.names (cloFrom X.env.cells sc.names [])) fp
  have pt := ht sC (upd HB D o0) sC.heap.objs.size (cellsFrom (sC.heap.objs.size + 1) sc.names (cloFrom X.env.cells sc.names [])) fp
  have pk := hk sC (upd HB D o0) sC.heap.objs.size (cellsFrom (sC.heap.objs.size + 1) sc.names (cloFrom X.env.cells sc.names [])) fp
  have pv := he sC (upd HB D o0) sC.heap.objs.size (cellsFrom (sC.heap.objs.size + 1) sc.names (cloFrom X.env.cells sc.names [])) fp
  generalize hcells : compEnvC sc (cellsFrom (sC.heap.objs.size + 1) sc.names (cloFrom X.env.cells sc.names [])) sC.heap.objs.size X.env = ce at ID pg pt pk pv ⊢
  have ceL : ce.locals = sC.heap.objs.size := by subst hcells; rfl
  generalize hHC : upd HB D o0 = HC at IC ID pg pt pk pv wStart fC
  generalize hsD : ({ sC with heap := pushCells (sC.heap.push { cls := .type "dict", data := .dict #[] }) sc.names } : Shared) = sD at ID ⊢
  have stD : tn 0 sD.heap := T.keep _ _ _ stC fun b _ o e => by rw [← hsD]; exact pushCells_keeps _ _ _ _ (Heap.get?_push_of_some _ e)
  -- a turn's iterator stays out of the heap that is told
  have outside : ∀ {τ : L2.St} {Hx : Hp} {sx : Shared}, Inv (X.blk sC HC sc ce fp) [] τ Hx sx → (∀ b ∈ fp, Hx b = none) → ∀ b ∈ fp, FpOk (X.blk sC HC sc ce fp) [] Hx b := by
    intro τ Hx sx Ix free b hb
    exact ⟨free b hb, (Ix.ok.exf b hb).1, Ix.ok.exfs b hb, .inl hb, fun y c e => (Ix.ok.exf b hb).2 y c e, fun q hq => absurd (show q ∈ ([] : List (Addr × Obj)) ++ [] from hq) (by simp)⟩
  have run : codeAny (model X.prog X.w) X.A (.compLoop (.DictComp kx vx [⟨tg, iter, ifs, 0⟩] sc pos) 0 (.ref it) (.ref D) ce) (compPost (model X.prog X.w) X.A X.xe none (EP X pins σ Q) (.ref D) sC.heap.objs.size) sD := by
    refine compLoop_anyD (fun m sx => ∃ i Hx, W i m Hx ∧ Inv (X.blk sC HC sc ce fp) [] (wipe σ (own.map (·.2))) Hx sx ∧ tn i sx.heap ∧ ∀ b ∈ fp, Hx b = none) ?_ mStart ⟨0, HC, wStart, ID, stD, fun b hb => (fC b hb).1.1⟩
    rintro m sx ⟨i, Hx, wx, Ix, stx, freex⟩
    rcases turns i m Hx wx with ⟨ends, toQ⟩ | ⟨goes, Nx, next, turn⟩
    · refine thnF (T.done (X.blk sC HC sc ce fp) rfl rfl rfl hc i [] sx _ Hx (fun _ _ => False) Ix (outside Ix freex) stx ends) fun r sy ⟨er, Iy⟩ => ?_
      subst er
      have Iz : Inv X pins σ Hx sy := IC.call' (ch := fp) Iy.os Iy.base Iy.hok Iy.bare fun b hb =>
        let q := (fC b hb).1.2
        ⟨q.2.2.1, q.1, q.2.2.2.1, q.2.2.2.2⟩
      have nope : Hx sC.heap.objs.size = none := by
        have z : Hx ce.locals = none := Iy.free
        rwa [ceL] at z
      obtain ⟨mp, hmp, _⟩ := Iy.loc
      have hmp : sy.heap.Ns ce.locals mp := hmp
      rw [ceL] at hmp
      obtain ⟨g0, g1, g2, g3, g4, g5⟩ := IC.fpOk (Nat.le_refl _) nope
      exact ⟨mp, hmp, fun hz sb => ⟨.ref D, Hx, Iz.turned (t' := sy.toks) (fun b o hb e => (sb.2 b hb).trans e) g0 g1 g3 g4 g5, rfl, toQ⟩⟩
    · refine thnF (T.item (X.blk sC HC sc ce fp) rfl rfl rfl hc i [] sx _ Hx (fun _ _ => False) Ix (outside Ix freex) stx goes) fun r sy ⟨u, er, hy⟩ => ?_
      subst er
      refine thnF hy fun _ sz ⟨x, Hz, Iz, rz, yz, stz, freez⟩ => ?_
      refine thnF (pg.run _ sz _ Hz x u _ (Iz.pinned (outside Iz freez) (T.obj _ _ stz)) rz (turn x Hz yz)) fun _ s1 ⟨σ1, H1, I1, keepsW, q1⟩ => ?_
      refine thnF (pt.run _ s1 σ1 H1 _ I1 q1) fun b s2 ⟨H2, I2, q2⟩ => ?_
      have back : ∀ {st : Shared} {Ht : Hp}, Inv (X.blk sC HC sc ce fp) ([] ++ pinsAt fp sz.heap) σ1 Ht st → Nx Ht → ∃ m', m' < m ∧ ∃ i Hx, W i m' Hx ∧ Inv (X.blk sC HC sc ce fp) [] (wipe σ (own.map (·.2))) Hx st ∧ tn i st.heap ∧ ∀ b ∈ fp, Hx b = none := by
        intro st Ht It nt
        obtain ⟨m', lt, wt⟩ := next Ht nt
        have pinned : ∀ b ∈ fp, ∀ o, sz.heap.get? b = some o → st.heap.get? b = some o ∧ Ht b = none := fun b hb o e =>
          let z := It.pin (b, o) (List.mem_append_right _ (List.mem_append_right _ (mem_pinsAt hb e)))
          ⟨z.1, z.2.1⟩
        refine ⟨m', lt, i + 1, Ht, wt, (It.unpinned (pins := [])).weak (by rw [← keepsW, wipe_length]) (fun j v e => (wipe_some (by rw [← keepsW] at e; exact e)).1), T.keep _ _ _ stz fun b hb o e => (pinned b hb o e).1, fun b hb => ?_⟩
        obtain ⟨o, e, _⟩ := T.obj _ _ stz b hb
        exact (pinned b hb o e).2
      cases b with
      | false =>
        simp only [Bool.false_eq_true, if_false] at q2 ⊢
        exact back I2 q2
      | true =>
        simp only [if_true] at q2 ⊢
        refine thnF (pk.run _ s2 σ1 H2 _ I2 q2) fun vk s3 ⟨yk, H3, I3, r3, q3⟩ => ?_
        refine thnF (pv.run _ s3 σ1 H3 _ I3 q3) fun vv s4 ⟨yv, H4, I4, r4, H5, put, nx⟩ => ?_
        exact putTurn (X := X.blk sC HC sc ce fp) hu I4 put r3 r4 fun s5 I5 => back I5 nx
  exact codeAny_compStart_dict run (T.self X.A 0 _ _ _ stD run)
end HG

/-! a choir that the program made: its fields, and what its methods promise -/
namespace HG
open PySem PySem.Spec PyProof.Rows L2 HF
theorem hu_of1 {A : Around} {k : Nat} (hr : Room k A) : A.units < cLine := Nat.lt_of_succ_lt (hu_of hr)
theorem iteP {c : Bool} {a b : Prop} (h : c = true) (x : a) : if c = true then a else b := by rw [if_pos h]; exact x
theorem iteN {c : Bool} {a b : Prop} (h : c = false) (x : b) : if c = true then a else b := by rw [h]; exact x
theorem notT {p : Prop} [Decidable p] (h : p) : (!decide p) = false := by rw [decide_eq_true h]; rfl
theorem notF {p : Prop} [Decidable p] (h : ¬ p) : (!decide p) = true := by rw [decide_eq_false h]; rfl
/-! ### things of a known kind -/
def Known (K : PySem.W.Frag) (H : Hp) : V → Prop
  | .non => True | .bl _ => True | .int _ => True
  | .str z => z.length ≤ 100 ∧ ∀ c ∈ z.cps.toList, c < 1000
  | .ref a => ∃ t : String, (t = "list" ∨ t = "tuple" ∨ t = "dict") ∧ TyX K H (.ref a) (.type t)
  | _ => False
def xInt : V → Bool | .int _ => true | .bl _ => true | _ => false
def xBool : V → Bool | .bl _ => true | _ => false
def xStr : V → Bool | .str _ => true | _ => false
theorem known_ty {K : PySem.W.Frag} {H : Hp} {x : V} (h : Known K H x) : ∃ t : String, TyX K H x (.type t) ∧ PySem.W.kitOne K (.type t) (.type "int") = some (xInt x) ∧ PySem.W.kitOne K (.type t) (.type "bool") = some (xBool x) ∧ PySem.W.kitOne K (.type t) (.type "str") = some (xStr x) := by
  cases x with
  | non => exact ⟨_, .base .non, kit_ty (show kitB "NoneType" "int" = some false by decide +kernel), kit_ty (show kitB "NoneType" "bool" = some false by decide +kernel), kit_ty (show kitB "NoneType" "str" = some false by decide +kernel)⟩
  | bl b => exact ⟨_, .base (.bl b), kit_ty (show kitB "bool" "int" = some true by decide +kernel), kit_ty (show kitB "bool" "bool" = some true by decide +kernel), kit_ty (show kitB "bool" "str" = some false by decide +kernel)⟩
  | int i => exact ⟨_, .base (.int i), kit_ty (show kitB "int" "int" = some true by decide +kernel), kit_ty (show kitB "int" "bool" = some false by decide +kernel), kit_ty (show kitB "int" "str" = some false by decide +kernel)⟩
  | str z => exact ⟨_, .base (.str z), kit_ty (show kitB "str" "int" = some false by decide +kernel), kit_ty (show kitB "str" "bool" = some false by decide +kernel), kit_ty (show kitB "str" "str" = some true by decide +kernel)⟩
  | ref a =>
    obtain ⟨t, ht, ty⟩ := h
    rcases ht with rfl | rfl | rfl
    · exact ⟨_, ty, kit_ty (show kitB "list" "int" = some false by decide +kernel), kit_ty (show kitB "list" "bool" = some false by decide +kernel), kit_ty (show kitB "list" "str" = some false by decide +kernel)⟩
    · exact ⟨_, ty, kit_ty (show kitB "tuple" "int" = some false by decide +kernel), kit_ty (show kitB "tuple" "bool" = some false by decide +kernel), kit_ty (show kitB "tuple" "str" = some false by decide +kernel)⟩
    · exact ⟨_, ty, kit_ty (show kitB "dict" "int" = some false by decide +kernel), kit_ty (show kitB "dict" "bool" = some false by decide +kernel), kit_ty (show kitB "dict" "str" = some false by decide +kernel)⟩
  | byt b => exact h.elim
  | flt b => exact h.elim
  | ty n => exact h.elim
def wh : V → Bool | .int _ => true | _ => false
def bt : V → Bool | .int i => decide (0 ≤ i) && decide (i ≤ 10 ^ 18) | _ => false
def pc : V → Bool | .int i => decide (2 ≤ i) && decide (i ≤ 4) | _ => false
def blw (n : Int) : V → Bool | .int i => decide (0 ≤ i) && decide (i < n) | _ => false
def small (z : Str) : Bool := z.cps.toList.all fun c => decide (97 ≤ c) && decide (c ≤ 122)
def nm : V → Bool | .str z => decide (1 ≤ z.length) && (decide (z.length ≤ 8) && small z) | _ => false
theorem wh_eq (x : V) : (xInt x && !xBool x) = wh x := by cases x <;> rfl
def spK (K : PySem.W.Frag) (g : V → Bool) : Sp := fun vs H Q _ => ∃ x : V, vs = [x] ∧ Known K H x ∧ ∀ H', Same H H' → Q (.bl (g x)) H'
def spS (g : Str → Bool) : Sp := fun vs H Q _ => ∃ z : Str, vs = [.str z] ∧ z.length ≤ 100 ∧ ∀ H', Same H H' → Q (.bl (g z)) H'
def spBlw (K : PySem.W.Frag) : Sp := fun vs H Q _ => ∃ (x : V) (n : Int), vs = [x, .int n] ∧ Known K H x ∧ ∀ H', Same H H' → Q (.bl (blw n x)) H'
theorem same_put {H H1 : Hp} {D : Addr} {o : HO} (s : Same H H1) (n : H D = none) : Same H (upd H1 D o) := fun b x e => by
  rw [upd_ne (ne_of_none e n)]
  exact s _ _ e
theorem ty_tup {K : PySem.W.Frag} {H : Hp} {a : Addr} {xs : List V} (h : SqT K H a xs) : TyX K H (.ref a) (.type "tuple") := by
  rcases h with (h | ⟨o, h⟩) | ⟨o, its, n, h1, h2, _⟩
  · exact .base (.tup h)
  · exact .fTuple h
  · exact .kTuple h1 h2
theorem ty_lst {K : PySem.W.Frag} {H : Hp} {a : Addr} {xs : List V} (h : SqL K H a xs) : TyX K H (.ref a) (.type "list") := by
  rcases h with (h | ⟨o, h⟩) | ⟨o, its, n, h1, h2, _⟩
  · exact .base (.lst h)
  · exact .base (.frz h)
  · exact .kList h1 h2
/-! ### signs -/
def fsm (c : Nat) : Bool := decide (97 ≤ c) && decide (c ≤ 122)
theorem lt_one (c d : Nat) : decide (([c] : List Nat) < [d]) = decide (c < d) := by
  by_cases h : c < d
  · rw [decide_eq_true h, decide_eq_true (List.cons_lt_cons_iff.mpr (.inl h))]
  · rw [decide_eq_false h, decide_eq_false]
    intro z
    rcases List.cons_lt_cons_iff.mp z with z | ⟨_, z⟩
    · exact h z
    · cases z
theorem cps_a : (Str.ofString "a").cps.toList = [97] := by decide +kernel
theorem cps_z : (Str.ofString "z").cps.toList = [122] := by decide +kernel
theorem take_snoc {α β : Type} {l : List α} {i : Nat} {c : α} (f : α → β) (h : l[i]? = some c) : (l.take (i + 1)).map f = (l.take i).map f ++ [f c] := by
  rw [List.take_add_one, h, List.map_append]
  rfl
theorem at_cps {z : Str} {i : Nat} {c : Nat} (h : z.cps[i]? = some c) : z.cps.toList[i]? = some c := by
  rw [Array.getElem?_toList]
  exact h
theorem nm_good {z : Str} (h : GoodN z) : nm (.str z) = true := by
  show (decide (1 ≤ z.length) && (decide (z.length ≤ 8) && small z)) = true
  rw [decide_eq_true h.1, decide_eq_true h.2.1]
  show (true && (true && small z)) = true
  rw [Bool.true_and, Bool.true_and]
  unfold small
  rw [List.all_eq_true]
  intro c hc
  obtain ⟨h1, h2⟩ := h.2.2 c hc
  rw [decide_eq_true h1, decide_eq_true h2]
  rfl
theorem known_name {K : PySem.W.Frag} {H : Hp} {z : Str} (h : GoodN z) : Known K H (.str z) := ⟨by have := h.2.1; omega, fun c hc => by have := h.2.2 c hc; omega⟩
/-! ### walks of comprehensions with two clauses, and into dicts -/
section
variable {J : It} {n : Nat} {G : Hp → Prop} {Y : Nat → Hp → V → Hp → Prop}
/-- what begins at H0 and is walked: at each turn the block, to the next -/
theorem it_walk (w : Walk J n G Y) {H0 : Hp} {Qd : Hp → Prop} {B : (Hp → Prop) → V → Hp → Prop} (Pv : Nat → Hp → Prop) (h0 : Pv 0 H0) (hG : ∀ i H, i ≤ n → Pv i H → G H) (hs : ∀ i x H H', i < n → Pv i H → Y i H x H' → B (Pv (i + 1)) x H') (hd : ∀ H, Pv n H → Qd H) :
    ∃ W : Nat → Nat → Hp → Prop, (∃ m, W 0 m H0) ∧ ∀ i m H, W i m H → (J.stop i H ∧ Qd H) ∨ (J.go i H ∧ ∃ Nx : Hp → Prop, (∀ H', Nx H' → ∃ m', m' < m ∧ W (i + 1) m' H') ∧ ∀ x H', J.yld i H x H' → B Nx x H') := by
  refine ⟨fun i m H => m + i = n ∧ Pv i H, ⟨n, rfl, h0⟩, fun i m H ⟨e, p⟩ => ?_⟩
  have q := hG i H (by omega) p
  rcases Nat.lt_or_ge i n with c | c
  · exact .inr ⟨w.goes i H c q, Pv (i + 1), fun H' p' => ⟨m - 1, by omega, by omega, p'⟩, fun x H' y => hs i x H H' c p (w.yields i H x H' c q y)⟩
  · obtain rfl : i = n := by omega
    exact .inl ⟨w.stops H q, hd H p⟩
end
/-- a comprehension of truths, each True -/
theorem lc_true {K : PySem.W.Frag} {a : Addr} {xs : List V} {g : TG} {tt : TT} {te : TE} {vs : List Nat} {σ : L2.St} {H1 : Hp} {D : Addr} {Qd : Hp → Prop} (hq : SqT K H1 a xs) (nD : H1 D = none) (hl : xs.length ≤ 1000)
    (hs : ∀ (j : Nat) (x : V) (H : Hp) (Kk : V → Hp → Prop) (Nx : Hp → Prop), xs[j]? = some x → Same H1 H → (∀ H', Same H H' → Kk (.bl true) H') → g x (wipe σ vs) H fun σ2 H2 => wipe σ2 vs = wipe σ vs ∧ tt σ2 H2 fun b H3 => if b = true then te σ2 H3 Kk else Nx H3)
    (hd : ∀ H, Same H1 H → H D = some (.lst ((List.replicate xs.length true).map V.bl)) → Qd H) :
    ∃ W : Nat → Nat → Hp → Prop, (∃ m, W 0 m (upd H1 D (.lst []))) ∧ ∀ i m H, W i m H → ((Itt K a).stop i H ∧ Qd H) ∨ ((Itt K a).go i H ∧ ∃ Nx : Hp → Prop, (∀ H', Nx H' → ∃ m', m' < m ∧ W (i + 1) m' H') ∧ ∀ x H', (Itt K a).yld i H x H' → g x (wipe σ vs) H' fun σ2 H2 =>
      wipe σ2 vs = wipe σ vs ∧ tt σ2 H2 fun b H3 => if b = true then te σ2 H3 fun y H4 => ∃ acc, H4 D = some (.lst acc) ∧ acc.length < sizeLine ∧ Nx (upd H4 D (.lst (acc ++ [y]))) else Nx H3) := by
  refine lc_it (walk_tup (K := K) (a := a) (xs := xs)) (fun j H' => Same H1 H' ∧ H' D = some (.lst ((List.replicate j true).map V.bl))) ⟨same_upd nD, upd_same⟩ (fun j H2 _ ⟨s2, _⟩ => sqT_same s2 hq) ?_ (fun H ⟨s, e⟩ => hd H s e)
  rintro j x H2 H3 hj ⟨s2, hD⟩ ⟨rfl, hx⟩
  refine hs j x H3 _ _ hx s2 fun H4 s4 => ⟨_, s4 _ _ hD, ?_, same_put (s2.trans s4) nD, ?_⟩
  · rw [List.length_map, List.length_replicate]
    exact small1000 (by omega)
  · rw [upd_same, List.replicate_succ', List.map_append]
    rfl
theorem all_rep (n : Nat) : (List.replicate n true).all id = true := by
  rw [List.all_eq_true]
  intro b hb
  exact List.eq_of_mem_replicate hb
/-- a dict that serves as a set of names -/
def nk (ns : List Str) : List (Key × V) := ns.map fun z => (Sum.inr z, V.bl true)
theorem nk_len (ns : List Str) : (nk ns).length = ns.length := List.length_map ..
theorem nk_val : ∀ (ns : List Str) (z : Str), valV (nk ns) (Sum.inr z) = if z ∈ ns then some (.bl true) else none
  | [], z => rfl
  | y :: ns, z => by
    by_cases c : z = y
    · subst c
      rw [if_pos List.mem_cons_self]
      exact valV_pos (p := (Sum.inr z, V.bl true)) (r := nk ns) rfl
    · have h := valV_neg (p := (Sum.inr y, V.bl true)) (r := nk ns) (k := Sum.inr z) (fun e => c (Sum.inr.inj e).symm)
      show valV ((Sum.inr y, V.bl true) :: nk ns) _ = _
      rw [h, nk_val ns z]
      by_cases d : z ∈ ns
      · rw [if_pos d, if_pos (List.mem_cons_of_mem _ d)]
      · rw [if_neg d, if_neg (fun e => (List.mem_cons.mp e).elim c d)]
theorem nk_put {ns : List Str} {z : Str} (h : z ∉ ns) : putK (nk ns) (Sum.inr z) (.bl true) = nk (ns ++ [z]) := by
  rw [putK_new _ (by rw [nk_val, if_neg h])]
  unfold nk
  rw [List.map_append]
  rfl
theorem not_ahead {α β : Type} {f : α → β} {l : List α} {i : Nat} {c : α} (h : (l.map f).Nodup) (e : l[i]? = some c) : f c ∉ (l.take i).map f := by
  have h2 : ((l.take (i + 1)).map f).Nodup := h.sublist ((List.take_sublist _ _).map f)
  rw [List.take_add_one, e, List.map_append, List.nodup_append] at h2
  exact fun hm => h2.2.2 _ hm (f c) (by simp) rfl
theorem map_take1 {α β : Type} {f : α → β} {l : List α} {i : Nat} {c : α} (e : l[i]? = some c) : (l.take (i + 1)).map f = (l.take i).map f ++ [f c] := by
  rw [List.take_add_one, e, List.map_append]
  rfl
/-! ### all the rows of notes -/
def rowsL (n : Nat) : Nat → List (List Nat)
  | 0 => [[]]
  | m + 1 => (rowsL n m).flatMap fun row => (List.range n).map fun d => row ++ [d]
theorem rows_mem {n : Nat} : ∀ {m : Nat} {t : List Nat}, t ∈ rowsL n m ↔ t.length = m ∧ ∀ d ∈ t, d < n
  | 0, t => by
    show t ∈ [[]] ↔ _
    rw [List.mem_singleton]
    constructor
    · rintro rfl; exact ⟨rfl, fun d hd => nomatch hd⟩
    · rintro ⟨h, _⟩; exact List.eq_nil_of_length_eq_zero h
  | m + 1, t => by
    show t ∈ (rowsL n m).flatMap _ ↔ _
    rw [List.mem_flatMap]
    constructor
    · rintro ⟨row, hr, ht⟩
      obtain ⟨d, hd, rfl⟩ := List.mem_map.mp ht
      obtain ⟨h1, h2⟩ := rows_mem.mp hr
      refine ⟨by rw [List.length_append, h1]; rfl, fun e he => ?_⟩
      rcases List.mem_append.mp he with he | he
      · exact h2 e he
      · rw [List.mem_singleton.mp he]; exact List.mem_range.mp hd
    · rintro ⟨h1, h2⟩
      have hne : t ≠ [] := fun z => by rw [z] at h1; cases h1
      refine ⟨t.dropLast, rows_mem.mpr ⟨by rw [List.length_dropLast, h1]; rfl, fun d hd => h2 d (List.dropLast_subset t hd)⟩, ?_⟩
      refine List.mem_map.mpr ⟨t.getLast hne, List.mem_range.mpr (h2 _ (List.getLast_mem hne)), List.dropLast_concat_getLast hne⟩
theorem flat_len (n : Nat) (l : List (List Nat)) : (l.flatMap fun row => (List.range n).map fun d => row ++ [d]).length = l.length * n := by
  induction l with
  | nil => simp
  | cons x l ih => rw [List.flatMap_cons, List.length_append, ih, List.length_map, List.length_range, List.length_cons, Nat.succ_mul, Nat.add_comm]
theorem rows_len (n : Nat) : ∀ m, (rowsL n m).length = n ^ m
  | 0 => rfl
  | m + 1 => by
    show ((rowsL n m).flatMap _).length = _
    have : ∀ l : List (List Nat), (l.flatMap fun row => (List.range n).map fun d => row ++ [d]).length = l.length * n := by
      intro l
      induction l with
      | nil => simp
      | cons x l ih => rw [List.flatMap_cons, List.length_append, ih, List.length_map, List.length_range, List.length_cons, Nat.succ_mul, Nat.add_comm]
    rw [this, rows_len n m, Nat.pow_succ]
/-! ### tuples of notes that stand in the heap themselves -/
def TrT (G : Hp) (v : V) (t : List Nat) : Prop := ∃ a, v = .ref a ∧ G a = some (.tup (nVs t))
theorem TrT.same {G G' : Hp} (s : Same G G') {v : V} {t : List Nat} (h : TrT G v t) : TrT G' v t := let ⟨a, e, h⟩ := h; ⟨a, e, s _ _ h⟩
theorem TrT.dp {K : PySem.W.Frag} {G : Hp} {v : V} {t : List Nat} (h : TrT G v t) : Dp K G v (tabD t) := by obtain ⟨a, rfl, h⟩ := h; exact dp_tab h
def keyT (t : List Nat) : List Key := t.map fun d : Nat => Sum.inl (d : Int)
theorem keyT_v (t : List Nat) : (keyT t).map kV = nVs t := by unfold keyT nVs; rw [List.map_map]; rfl
theorem keyT_inj {a b : List Nat} (h : keyT a = keyT b) : a = b := by
  have h2 := congrArg (List.map fun k : Key => match k with | .inl i => i.toNat | .inr _ => 0) h
  unfold keyT at h2
  rw [List.map_map, List.map_map] at h2
  have e : ((fun k : Key => match k with | .inl i => i.toNat | .inr _ => 0) ∘ fun d : Nat => (Sum.inl (d : Int) : Key)) = id := by funext d; exact Int.toNat_natCast d
  rw [e, List.map_id, List.map_id] at h2
  exact h2
/-- things that are these tuples, one by one -/
def TrAll (H : Hp) (ys : List V) (ts : List (List Nat)) : Prop := ys.length = ts.length ∧ ∀ (k : Nat) (x : V), ys[k]? = some x → ∃ t, ts[k]? = some t ∧ TrT H x t
theorem TrAll.nil {H : Hp} : TrAll H [] [] := ⟨rfl, fun k x h => by simp at h⟩
theorem TrAll.same {H H' : Hp} {ys : List V} {ts : List (List Nat)} (s : Same H H') (h : TrAll H ys ts) : TrAll H' ys ts := ⟨h.1, fun k x e => let ⟨t, a, b⟩ := h.2 k x e; ⟨t, a, b.same s⟩⟩
theorem TrAll.snoc {H : Hp} {ys : List V} {ts : List (List Nat)} {y : V} {t : List Nat} (h : TrAll H ys ts) (g : TrT H y t) : TrAll H (ys ++ [y]) (ts ++ [t]) := by
  refine ⟨by rw [List.length_append, List.length_append, h.1]; rfl, fun k x e => ?_⟩
  rcases Nat.lt_trichotomy k ys.length with c | c | c
  · rw [List.getElem?_append_left c] at e
    obtain ⟨t', a, b⟩ := h.2 k x e
    exact ⟨t', by rw [List.getElem?_append_left (by rw [← h.1]; exact c)]; exact a, b⟩
  · subst c
    rw [List.getElem?_concat_length] at e
    cases e
    exact ⟨t, by rw [h.1, List.getElem?_concat_length], g⟩
  · rw [List.getElem?_eq_none (by rw [List.length_append]; simp; omega)] at e
    cases e
theorem TrAll.dp {K : PySem.W.Frag} {H : Hp} : ∀ {ys : List V} {ts : List (List Nat)}, TrAll H ys ts → DpAll K H ys (ts.map tabD)
  | [], [], _ => .nil
  | [], _ :: _, h => nomatch h.1
  | _ :: _, [], h => nomatch h.1
  | y :: ys, t :: ts, h => by
    obtain ⟨t', a, b⟩ := h.2 0 y rfl
    cases a
    exact .cons b.dp (TrAll.dp ⟨Nat.succ.inj h.1, fun k x e => h.2 (k + 1) x e⟩)
def spRows : Sp := fun vs H Q _ => ∃ n m : Nat, vs = [.int (n : Int), .int (m : Int)] ∧ 1 ≤ n ∧ n ≤ 5 ∧ m ≤ 6 ∧ n ^ m ≤ 64 ∧ ∀ (q : Addr) (H' : Hp) (xs : List V), Same H H' → H q = none → H' q = some (.lst xs) → TrAll H' xs (rowsL n m) → Q (.ref q) H'
/-! ### the fields -/
/-- a name's place -/
def PlacesOk (kvs : List (Key × V)) (ns : List Str) : Prop := (∀ (i : Nat) (z : Str), ns[i]? = some z → valV kvs (.inr z) = some (.int (i : Int)))
structure Core (K : PySem.W.Frag) (C : Addr) (G : Hp) (x : Addr) (P : Parts) (dx : Addr) (fs : List (Str × V)) : Prop where
  ins : G x = some (.ins C dx fs)
  meth : ∀ m ∈ ("_ways_of" :: "_way" :: "_fill" :: "place" :: meths : List Str), fs.lookup m = none
  pace : fs.lookup ("_pace" : Str) = some (.int (P.pace : Int))
  notes : fs.lookup ("_notes" : Str) = some (.int (P.notes : Int))
  voices : ∃ vl xs, fs.lookup ("_voices" : Str) = some (.ref vl) ∧ G vl = some (.lst xs) ∧ DpAll K G xs (P.voices.map voiceD)
  names : ∃ nl, fs.lookup ("_names" : Str) = some (.ref nl) ∧ G nl = some (.lst (P.names.map V.str))
  places : ∃ pl kvs, fs.lookup ("_places" : Str) = some (.ref pl) ∧ G pl = some (.dK kvs) ∧ PlacesOk kvs P.names
theorem Core.same {K : PySem.W.Frag} {C : Addr} {G G' : Hp} {x : Addr} {P : Parts} {dx : Addr} {fs : List (Str × V)} (s : Same G G') (h : Core K C G x P dx fs) : Core K C G' x P dx fs := by
  obtain ⟨h1, h2, h3, h4, ⟨vl, xs, a1, a2, a3⟩, ⟨nl, b1, b2⟩, ⟨pl, kvs, c1, c2, c3⟩⟩ := h
  exact ⟨s _ _ h1, h2, h3, h4, ⟨vl, xs, a1, s _ _ a2, dpAll_same s _ _ a3⟩, ⟨nl, b1, s _ _ b2⟩, ⟨pl, kvs, c1, s _ _ c2, c3⟩⟩
/-- where a standing leads by each rest -/
def WaysAt (G : Hp) (P : Parts) (st : List Nat) (v : V) : Prop := ∃ a ts, v = .ref a ∧ G a = some (.tup ts) ∧ ts.length = P.pace ∧ ∀ r, r < P.pace → ∃ y, ts[r]? = some y ∧ TrT G y (ledL P st r)
theorem WaysAt.same {G G' : Hp} {P : Parts} {st : List Nat} {v : V} (s : Same G G') (h : WaysAt G P st v) : WaysAt G' P st v := by
  obtain ⟨a, ts, e, h1, h2, h3⟩ := h
  exact ⟨a, ts, e, s _ _ h1, h2, fun r hr => let ⟨y, h4, h5⟩ := h3 r hr; ⟨y, h4, h5.same s⟩⟩
def AtC (K : PySem.W.Frag) (C : Addr) : Hp → Addr → Parts → Prop := fun G x P => ∃ dx fs wl ws, Core K C G x P dx fs ∧ fs.lookup ("_ways" : Str) = some (.ref wl) ∧ G wl = some (.dT ws) ∧ ∀ st, StOk P st → ∃ v, valV ws (keyT st) = some v ∧ WaysAt G P st v
theorem atC_k {K : PySem.W.Frag} {C : Addr} : ChoirK C (AtC K C) := by
  refine ⟨fun {G G' x P} s ⟨dx, fs, wl, ws, h1, h2, h3, h4⟩ => ⟨dx, fs, wl, ws, h1.same s, h2, s _ _ h3, fun st hs => let ⟨v, a, b⟩ := h4 st hs; ⟨v, a, b.same s⟩⟩, fun {G x P} ⟨dx, fs, wl, ws, h1, _⟩ => ⟨dx, fs, h1.ins, fun m hm => h1.meth m ?_⟩⟩
  exact List.mem_cons_of_mem _ (List.mem_cons_of_mem _ (List.mem_cons_of_mem _ (List.mem_cons_of_mem _ hm)))
/-! ### what the methods promise -/
def spWay (K : PySem.W.Frag) (C : Addr) : Sp := fun vs H Q _ => ∃ (G : Hp) (x : Addr) (sv : V) (r : Nat) (P : Parts) (dx : Addr) (fs : List (Str × V)) (st : List Nat) (lim : Nat), vs = [.ref x, sv, .int (r : Int)] ∧ Same G H ∧ Core K C G x P dx fs ∧ TrT G sv st ∧ P.Ok lim ∧ lim ≤ 64 ∧ StOk P st ∧ r < P.pace ∧
  ∀ (q : Addr) (H' : Hp), Same H H' → H q = none → H' q = some (.tup (nVs (ledL P st r))) → Q (.ref q) H'
def spWaysOf (K : PySem.W.Frag) (C : Addr) : Sp := fun vs H Q _ => ∃ (G : Hp) (x : Addr) (sv : V) (P : Parts) (dx : Addr) (fs : List (Str × V)) (st : List Nat) (lim : Nat), vs = [.ref x, sv] ∧ Same G H ∧ Core K C G x P dx fs ∧ TrT G sv st ∧ P.Ok lim ∧ lim ≤ 64 ∧ StOk P st ∧
  ∀ (v : V) (H' : Hp), Same H H' → WaysAt (fresh H H') P st v → Q v H'
def spLedM2 (K : PySem.W.Frag) (At : Hp → Addr → Parts → Prop) : Sp := fun vs H Q _ => ∃ (G : Hp) (x : Addr) (sv : V) (r : Nat) (P : Parts) (st : List Nat), vs = [.ref x, sv, .int (r : Int)] ∧ Same G H ∧ At G x P ∧ TrT G sv st ∧ StOk P st ∧ r < P.pace ∧ ∀ (v : V) (H' : Hp), Same H H' → TrT (more G H H') v (ledL P st r) → Q v H'
def spBehindM2 (K : PySem.W.Frag) (At : Hp → Addr → Parts → Prop) : Sp := fun vs H Q _ => ∃ (G : Hp) (x : Addr) (sv : V) (w : Nat) (P : Parts) (st : List Nat) (lim : Nat), vs = [.ref x, sv, .int (w : Int)] ∧ Same G H ∧ At G x P ∧ TrT G sv st ∧ P.Ok lim ∧ StOk P st ∧ w < 2 ^ 1000 ∧ ∀ (v : V) (H' : Hp), Same H H' → TrT (more G H H') v (behL P st w) → Q v H'
def spFldM (At : Hp → Addr → Parts → Prop) (g : Parts → Int) : Sp := fun vs H Q _ => ∃ (G : Hp) (x : Addr) (P : Parts), vs = [.ref x] ∧ Same G H ∧ At G x P ∧ Q (.int (g P)) H
/-- a new list of what the choir has -/
def spNamesM (At : Hp → Addr → Parts → Prop) : Sp := fun vs H Q _ => ∃ (G : Hp) (x : Addr) (P : Parts), vs = [.ref x] ∧ Same G H ∧ At G x P ∧ ∀ (q : Addr) (H' : Hp), Same H H' → H q = none → H' q = some (.lst (P.names.map V.str)) → Q (.ref q) H'
def spVoicesM (K : PySem.W.Frag) (At : Hp → Addr → Parts → Prop) : Sp := fun vs H Q _ => ∃ (G : Hp) (x : Addr) (P : Parts), vs = [.ref x] ∧ Same G H ∧ At G x P ∧ ∀ (q : Addr) (ys : List V) (H' : Hp), Same H H' → H q = none → H' q = some (.lst ys) → DpAll K G ys (P.voices.map voiceD) → Q (.ref q) H'
def spPlaceM (At : Hp → Addr → Parts → Prop) : Sp := fun vs H Q _ => ∃ (G : Hp) (x : Addr) (P : Parts) (i : Nat) (z : Str), vs = [.ref x, .str z] ∧ Same G H ∧ At G x P ∧ P.names[i]? = some z ∧ Q (.int (i : Int)) H
def spElderM (At : Hp → Addr → Parts → Prop) : Sp := fun vs H Q _ => ∃ (G : Hp) (x : Addr) (P : Parts) (lim : Nat) (c : Voice) (i r : Nat), vs = [.ref x, .str c.name, .int (r : Int)] ∧ Same G H ∧ At G x P ∧ P.Ok lim ∧ P.voices[i]? = some c ∧ r < P.pace ∧ Q (.str (c.elders.getD r (Str.ofString ""))) H
def spTableM (K : PySem.W.Frag) (At : Hp → Addr → Parts → Prop) : Sp := fun vs H Q _ => ∃ (G : Hp) (x : Addr) (P : Parts) (lim : Nat) (c : Voice) (i r : Nat), vs = [.ref x, .str c.name, .int (r : Int)] ∧ Same G H ∧ At G x P ∧ P.Ok lim ∧ P.voices[i]? = some c ∧ r < P.pace ∧ ∀ v : V, Dp K G v (tabD (c.tables.getD r [])) → Q v H
def spFigsN : Sp := fun vs H Q _ => ∃ n p : Nat, vs = [.int (n : Int), .int (p : Int)] ∧ 2 ≤ p ∧ p ≤ 4 ∧ n < 2 ^ 1000 ∧ ∀ (q : Addr) (H' : Hp), Same H H' → H q = none → H' q = some (.lst (nVs (figs p n))) → Q (.ref q) H'
def spGood (K : PySem.W.Frag) : Sp := fun vs H Q _ => ∃ (G : Hp) (v : V) (vs' : List Voice) (P : Parts) (lim : Nat), vs = [.int (P.pace : Int), .int (P.notes : Int), v] ∧ Same G H ∧ Dp K G v (.list (vs'.map voiceD)) ∧ vs'.Perm P.voices ∧ P.Ok lim ∧ lim ≤ 64 ∧ ∀ H' : Hp, Same H H' → Q .non H'
def spFill (K : PySem.W.Frag) (C : Addr) (At : Hp → Addr → Parts → Prop) : Sp := spMakeC K C At
/-! ### attributes put one by one -/
theorem lk_put {f : Str} {v : V} {fs : List (Str × V)} : (putF f v fs).lookup f = some v := by rw [lookup_putF, if_pos rfl]
theorem lk_skip {f g : Str} {v : V} {fs : List (Str × V)} (h : g ≠ f) : (putF f v fs).lookup g = fs.lookup g := by rw [lookup_putF, if_neg h]
theorem putF_len (f : Str) (v : V) : ∀ fs : List (Str × V), (putF f v fs).length ≤ fs.length + 1
  | [] => Nat.le_refl _
  | (g, y) :: r => by
    show (if g = f then (g, v) :: r else (g, y) :: putF f v r).length ≤ _
    by_cases c : g = f
    · rw [if_pos c]; exact Nat.le_succ _
    · rw [if_neg c]; exact Nat.succ_le_succ (putF_len f v r)
/-- a name that is none of these is none of them behind a store either -/
theorem lk_none {f : Str} {v : V} {fs : List (Str × V)} {ms : List Str} (h : ∀ m ∈ ms, fs.lookup m = none) (hf : f ∉ ms) : ∀ m ∈ ms, (putF f v fs).lookup m = none := fun m hm => by
  rw [lk_skip (fun e => hf (by rw [← e]; exact hm))]
  exact h m hm
/-- all but the one place stays -/
def Kx (x : Addr) (H H' : Hp) : Prop := ∀ b o, H b = some o → b ≠ x → H' b = some o
theorem Kx.rfl' {x : Addr} {H : Hp} : Kx x H H := fun _ _ e _ => e
theorem Kx.trans {x : Addr} {H H1 H2 : Hp} (a : Kx x H H1) (b : Kx x H1 H2) : Kx x H H2 := fun c o e n => b c o (a c o e n) n
theorem Kx.same {x : Addr} {H H' : Hp} (s : Same H H') : Kx x H H' := fun b o e _ => s b o e
theorem Kx.upd {x : Addr} {H : Hp} {o : HO} : Kx x H (upd H x o) := fun b u e n => by rw [upd_ne n]; exact e
theorem Kx.sub {x : Addr} {G H H' : Hp} (g : Same G H) (gx : G x = none) (k : Kx x H H') : Same G H' := fun b o e => k b o (g b o e) fun z => by rw [z, gx] at e; cases e
theorem Kx.free {x p : Addr} {H H' : Hp} (k : Kx x H H') (hx : H' x ≠ none) (n : H' p = none) : H p = none := by
  cases e : H p with
  | none => rfl
  | some o =>
    have h : p ≠ x := fun z => hx (by rw [← z]; exact n)
    rw [k p o e h] at n
    cases n
theorem plus_new {x dx b : Addr} {G H H' : Hp} (n : H b = none) : plus x dx (more G H H') H' b = H' b := by
  unfold plus more
  by_cases c : b = x ∨ b = dx
  · rw [if_pos c]
  · rw [if_neg c, if_pos n]
theorem plus_x {x dx : Addr} {G H H' : Hp} : plus x dx (more G H H') H' x = H' x := if_pos (.inl rfl)
theorem plus_old {x dx : Addr} {G H H' : Hp} (g : Same G H) (gx : G x = none) (gdx : G dx = none) : Same G (plus x dx (more G H H') H') := fun b o e => by
  have n1 : b ≠ x := fun z => by rw [z, gx] at e; cases e
  have n2 : b ≠ dx := fun z => by rw [z, gdx] at e; cases e
  unfold plus
  rw [if_neg (fun z => z.elim n1 n2)]
  exact more_old g b o e
theorem WaysAt.tups {G G' : Hp} {P : Parts} {st : List Nat} {v : V} (s : ∀ b ts, G b = some (.tup ts) → G' b = some (.tup ts)) (h : WaysAt G P st v) : WaysAt G' P st v := by
  obtain ⟨a, ts, e, h1, h2, h3⟩ := h
  exact ⟨a, ts, e, s _ _ h1, h2, fun r hr => let ⟨y, h4, b, e2, h5⟩ := h3 r hr; ⟨y, h4, b, e2, s _ _ h5⟩⟩
/-- a standing of so many voices -/
def spStanding2 (K : PySem.W.Frag) : Sp := fun vs H Q _ => ∃ (p : Addr) (v : V) (pp : PyData) (n : Nat) (ds : List PyData), vs = [.ref p, v] ∧ Bag H p ∧ Dp K (off p H) v (.tuple [pp, .int (n : Int), .list ds]) ∧ 2 ≤ n ∧ n ≤ 5 ∧ ds.length ≤ 6 ∧ ∀ (q : Addr) (H' : Hp) (st : List Nat), Stp p H H' → H q = none → H' q = some (.tup (nVs st)) → st.length = ds.length → (∀ d ∈ st, d < n) → Q (.ref q) H'
theorem standing_imp (K : PySem.W.Frag) : ∀ (vs : List V) (H : Hp) (Q : VK) (E : XK), spStanding K vs H Q E → spStanding2 K vs H Q E := fun vs H Q E ⟨p, v, P, lim, e, hB, hd, ok, k⟩ =>
  ⟨p, v, _, P.notes, _, e, hB, hd, ok.n2, ok.n5, by rw [List.length_map]; exact ok.v6, fun q H' st s nq hq hl hn => k q H' st s nq hq ⟨by rw [List.length_map] at hl; exact hl, hn⟩⟩
theorem parts_inv2 {K : PySem.W.Frag} {G : Hp} {v : V} {pp : PyData} {n : Nat} {ds : List PyData} (h : Dp K G v (.tuple [pp, .int (n : Int), .list ds])) : ∃ a p1 vl xs, v = .ref a ∧ SqT K G a [p1, .int (n : Int), .ref vl] ∧ SqL K G vl xs ∧ DpAll K G xs ds := by
  obtain ⟨a, ys, rfl, hs, ha⟩ := dp_tup_inv h
  cases ha with
  | cons h1 h2 => cases h2 with
    | cons h3 h4 => cases h3; cases h4 with
      | cons h5 h6 =>
        cases h6
        obtain ⟨vl, xs, rfl, hl, hd⟩ := dp_lst_inv h5
        exact ⟨a, _, vl, xs, rfl, hs, hl, hd⟩
/-! ### defs and methods, as callers have them -/
section
variable (P : Program) (w : World) (K : PySem.W.Frag) (mg : Str → Option Value) (base : Heap)
def Df (x : Str) (k : Nat) (ps : List Str) (sp : Sp) : Prop := ∃ f fd, mg x = some (.ref f) ∧ PySem.W.keepIn K (.ref f) = true ∧ Binds K fd ps [] ∧ FnOk P w K mg base CX0 k f fd ps sp
def Mf (C : Addr) (m : Str) (k : Nat) (ps : List Str) (sp : Sp) : Prop := ∃ f fd, Meth K C m f ∧ Binds K fd ps [] ∧ FnOk P w K mg base CX0 k f fd ps sp
/-- a class of the text with an own __init__ -/
def Kf (x : Str) (C : Addr) (k : Nat) (ps : List Str) (sp : Sp) : Prop := ∃ f fd, mg x = some (.ref C) ∧ Mk K C f ∧ Binds K fd ps [] ∧ FnOk P w K mg base CX0 k f fd ps sp
end
section
variable {X : Cx} {x m : Str} {C : Addr} {k n : Nat} {ps : List Str} {sp : Sp} {e o : Expr} {es : List Expr} {p pos apos : Pos} {t : TA} {ta : TE}
theorem pe_cD (D : Df X.prog X.w X.K X.mg X.base x k ps sp) (hr : Room n X.A) (hg : Gl X x) (ha : PA X (e :: es) t) (hk : k ≤ n := by decide) (hdb : (x == ("__debug__" : Str)) = false := by decide)
    (he : starEach (e :: es) X.env = (false, eval e X.env) :: starEach es X.env := by rfl) (hpl : (backTo pos (starEach es X.env)).any (·.1) = false := by rfl) : PE X (.Call (.Name x p) (e :: es) [] pos) (tCall sp [] E0 t) := by
  obtain ⟨f, fd, h1, h2, h3, h4⟩ := D
  exact pe_call h4 (hr.mono hk) hg h1 h2 h3 .nil pass0 ha hdb he hpl
theorem pe_cD0 (D : Df X.prog X.w X.K X.mg X.base x k ps sp) (hr : Room n X.A) (hg : Gl X x) (hk : k ≤ n := by decide) (hdb : (x == ("__debug__" : Str)) = false := by decide) : PE X (.Call (.Name x p) [] [] pos) (tCall sp [] E0 tNil) := by
  obtain ⟨f, fd, h1, h2, h3, h4⟩ := D
  exact pe_call0 h4 (hr.mono hk) hg h1 h2 h3 .nil pass0 hdb
theorem pe_mD {pl : Sem Bool} (he : PE X o ta) (c : Cls X.K C) (D : Mf X.prog X.w X.K X.mg X.base C m k ps sp) (hr : Room n X.A) (ha : PA X (e :: es) t) (hk : k ≤ n := by decide)
    (hst : starEach (e :: es) X.env = (false, eval e X.env) :: starEach es X.env := by rfl) (hpl : (backTo pos (starEach es X.env)).any (·.1) = false := by rfl)
    (ht : eval (.Call (.Attribute o m apos) (e :: es) [] pos) X.env = (do
      let ov ← eval o X.env
      standAt apos.atName
      let (f, first) ← holding [ov] (getMethod ov m pl)
      callWith pos f first (backTo pos (starEach (e :: es) X.env)) (backToKw pos (keywordEach [] X.env))) := by rfl) : PE X (.Call (.Attribute o m apos) (e :: es) [] pos) (tMeth C m sp [] E0 ta t) := by
  obtain ⟨f, fd, h1, h2, h3⟩ := D
  exact pe_meth he c h1 h3 (hr.mono hk) h2 .nil pass0 ha hst hpl ht
theorem pe_mD0 {pl : Sem Bool} (he : PE X o ta) (c : Cls X.K C) (D : Mf X.prog X.w X.K X.mg X.base C m k ps sp) (hr : Room n X.A) (hk : k ≤ n := by decide)
    (ht : eval (.Call (.Attribute o m apos) [] [] pos) X.env = (do
      let ov ← eval o X.env
      standAt apos.atName
      let (f, first) ← holding [ov] (getMethod ov m pl)
      callWith pos f first (backTo pos (starEach [] X.env)) (backToKw pos (keywordEach [] X.env))) := by rfl) : PE X (.Call (.Attribute o m apos) [] [] pos) (tMeth C m sp [] E0 ta tNil) := by
  obtain ⟨f, fd, h1, h2, h3⟩ := D
  exact pe_meth0 he c h1 h3 (hr.mono hk) h2 .nil pass0 ht
theorem pe_kD (D : Kf X.prog X.w X.K X.mg X.base x C k ps sp) (hr : Room n X.A) (hg : Gl X x) (ha : PA X (e :: es) t) (hk : k + 1 ≤ n := by decide) (hdb : (x == ("__debug__" : Str)) = false := by decide)
    (he : starEach (e :: es) X.env = (false, eval e X.env) :: starEach es X.env := by rfl) (hpl : (backTo pos (starEach es X.env)).any (·.1) = false := by rfl) : PE X (.Call (.Name x p) (e :: es) [] pos) (tMake C sp [] E0 t) := by
  obtain ⟨f, fd, h1, h2, h3, h4⟩ := D
  exact pe_make h2 h4 (hr.mono hk) hg h1 h3 .nil pass0 ha hdb he hpl
end
/-! ### sorted of data -/
def rSortedDat {β : Type} (enc : β → PyData) (K : PySem.W.Frag) : List V → Hp → VK → Prop := fun vs H Q => ∃ (G : Hp) (a : Addr) (xs : List V) (bs : List β), vs = [V.ref a] ∧ Same G H ∧ SqL K H a xs ∧ DpAll K G xs (bs.map enc) ∧ PySem.W.AllAlike (bs.map enc) ∧ PySem.W.Sortable (bs.map enc) ∧ (∀ b ∈ bs, (enc b).depth ≤ 40) ∧
  ∀ (p : Addr) (ys : List V), H p = none → DpAll K G ys ((bs.mergeSort (PySem.W.dataLe false enc)).map enc) → Q (.ref p) (upd H p (.lst ys))
end HG

/-! sorted(list) of data -/
namespace HG
open PySem PySem.Spec PyProof.Rows L2 HF
section
variable {β : Type} (enc : β → PyData)
theorem zip_each {X : Cx} {pins : List (Addr × Obj)} {σ : L2.St} {H : Hp} {s : Shared} (I : Inv X pins σ H s) : ∀ {xs : List V} {its : List Value} {bs : List β}, Vals xs its → DpAll X.K H xs (bs.map enc) →
    PySem.W.EachIs (fun (v : Value) (b : V × β) => RelV b.1 v) its (xs.zip bs) ∧ PySem.W.EachIs (fun (v : Value) (b : V × β) => ∃ as, Reads s.heap v (enc b.2) as) its (xs.zip bs)
  | [], _, bs, hv, hd => by
    cases hv
    exact ⟨.nil, .nil⟩
  | x :: xs, _, [], hv, hd => by cases hd
  | x :: xs, _, b :: bs, hv, hd => by
    cases hv with
    | cons h1 h2 =>
      have hd' : DpAll X.K H (x :: xs) (enc b :: bs.map enc) := hd
      cases hd' with
      | cons d1 d2 =>
        obtain ⟨e1, e2⟩ := zip_each I h2 d2
        exact ⟨.cons h1 e1, .cons (Dp.reads I _ _ _ d1 h1) e2⟩
theorem zip_dp {K : PySem.W.Frag} {H : Hp} : ∀ {xs : List V} {bs : List β}, DpAll K H xs (bs.map enc) → (∀ p ∈ xs.zip bs, Dp K H p.1 (enc p.2)) ∧ xs.length = bs.length
  | [], [], _ => And.intro (fun p hp => by cases hp) rfl
  | [], _ :: _, h => by cases h
  | _ :: _, [], h => by cases h
  | x :: xs, b :: bs, h => by
    have h' : DpAll K H (x :: xs) (enc b :: bs.map enc) := h
    cases h' with
    | cons d1 d2 =>
      obtain ⟨i1, i2⟩ := zip_dp d2
      refine ⟨fun p hp => ?_, congrArg (· + 1) i2⟩
      rcases List.mem_cons.mp hp with rfl | hp
      · exact d1
      · exact i1 p hp
theorem each_vals {γ : Type} {f : γ → V} : ∀ {out : List Value} {ps : List γ}, PySem.W.EachIs (fun v b => RelV (f b) v) out ps → Vals (ps.map f) out
  | _, _, .nil => .nil
  | _, _, .cons h t => .cons h (each_vals t)
theorem dpAll_map {K : PySem.W.Frag} {H : Hp} : ∀ {ps : List (V × β)}, (∀ p ∈ ps, Dp K H p.1 (enc p.2)) → DpAll K H (ps.map (·.1)) ((ps.map (·.2)).map enc)
  | [], _ => .nil
  | p :: ps, h => .cons (h p List.mem_cons_self) (dpAll_map fun q hq => h q (List.mem_cons_of_mem _ hq))
theorem zip_snd : ∀ {xs : List V} {bs : List β}, xs.length = bs.length → (xs.zip bs).map (·.2) = bs
  | [], [], _ => rfl
  | _ :: xs, b :: bs, h => congrArg (b :: ·) (zip_snd (Nat.succ.inj h))
  | [], _ :: _, h => nomatch h
  | _ :: _, [], h => nomatch h
theorem cr_sortedDat {X : Cx} {k : Nat} (hr : Room k X.A) : CallR X (.builtin "sorted") (rSortedDat enc X.K) := by
  intro pins s σ H vs us Q I r h
  obtain ⟨G, a, xs, bs, rfl, g, hs, hd, hal, hk, hdep, q⟩ := h
  obtain ⟨its, rv, hl, hz⟩ := I.list hs
  rw [Vals.ref1 r]
  have un := hr.un
  obtain ⟨e, er⟩ := zip_each enc I rv (dpAll_same g _ _ hd)
  obtain ⟨hzd, hlen⟩ := zip_dp enc hd
  have hm : (xs.zip bs).map (fun b => enc b.2) = bs.map enc := by
    rw [← zip_snd hlen, List.map_map, zip_snd hlen]
    rfl
  have hzl : (xs.zip bs).length = xs.length := by rw [List.length_zip]; omega
  refine PySem.W.sorted_data (enc := fun b : V × β => enc b.2) hl.isList e er (by rw [hm]; exact hal) (by rw [hm]; exact hk) (by rw [hzl]; exact hz) (fun b hb => ?_) fun out ho eo => ?_
  · have : b.2 ∈ bs := (List.of_mem_zip hb).2
    have := hdep _ this
    omega
  · obtain ⟨ep, he'⟩ := PyProof.Rows.sortedAll_at s.heap its out.toArray
    have hv := each_vals (f := fun b : V × β => b.1) eo
    have hp := List.mergeSort_perm (xs.zip bs) (PySem.W.dataLe false fun b : V × β => enc b.2)
    have hsnd : ((xs.zip bs).mergeSort (PySem.W.dataLe false fun b : V × β => enc b.2)).map (·.2) = bs.mergeSort (PySem.W.dataLe false enc) := by
      have e := List.map_mergeSort (l := xs.zip bs) (f := fun p : V × β => p.2) (r := PySem.W.dataLe false fun b : V × β => enc b.2) (s := PySem.W.dataLe false enc) (fun a _ b _ => rfl)
      rw [zip_snd hlen] at e
      exact e
    have hda := dpAll_map (K := X.K) (H := G) enc (ps := (xs.zip bs).mergeSort (PySem.W.dataLe false fun b : V × β => enc b.2)) fun p hp' => hzd p (hp.mem_iff.mp hp')
    rw [hsnd] at hda
    have hl2 : (((xs.zip bs).mergeSort (PySem.W.dataLe false fun b : V × β => enc b.2)).map (·.1)).length ≤ sizeLine := by
      rw [List.length_map, hp.length_eq, hzl]
      exact hz
    exact ⟨.ref _, upd H (s.heap.objs.size + 1) (.lst _), I.laid (t' := s.toks) (fun _ _ => PyProof.Rows.sortedAll_old) (Nat.le_succ _) ⟨hl2, out, ep, hv, he'⟩, rfl, q _ _ (I.hok.fresh (Nat.le_succ _)) hda⟩
end
/-! ### the voices -/
theorem alikeAll_of : ∀ {xs ys : List PyData}, (∀ x ∈ xs, ∀ y ∈ ys, PySem.W.alike x y = true) → PySem.W.alikeAll xs ys = true
  | [], ys, _ => by cases ys <;> simp [PySem.W.alikeAll]
  | x :: xs, [], _ => by simp [PySem.W.alikeAll]
  | x :: xs, y :: ys, h => by
    rw [PySem.W.alikeAll, h x List.mem_cons_self y List.mem_cons_self, alikeAll_of fun a ha b hb => h a (List.mem_cons_of_mem _ ha) b (List.mem_cons_of_mem _ hb)]
    rfl
theorem alike_tab (s t : List Nat) : PySem.W.alike (tabD s) (tabD t) = true := by
  show PySem.W.alike (.tuple _) (.tuple _) = true
  simp only [PySem.W.alike]
  refine alikeAll_of fun x hx y hy => ?_
  obtain ⟨i, _, rfl⟩ := List.mem_map.mp hx
  obtain ⟨j, _, rfl⟩ := List.mem_map.mp hy
  simp [PySem.W.alike]
theorem alike_voice (a b : Voice) : PySem.W.alike (voiceD a) (voiceD b) = true := by
  show PySem.W.alike (.tuple _) (.tuple _) = true
  simp only [PySem.W.alike]
  have e1 : PySem.W.alikeAll (a.elders.map PyData.str) (b.elders.map PyData.str) = true := alikeAll_of fun x hx y hy => by
    obtain ⟨i, _, rfl⟩ := List.mem_map.mp hx
    obtain ⟨j, _, rfl⟩ := List.mem_map.mp hy
    simp [PySem.W.alike]
  have e2 : PySem.W.alikeAll (a.tables.map tabD) (b.tables.map tabD) = true := alikeAll_of fun x hx y hy => by
    obtain ⟨i, _, rfl⟩ := List.mem_map.mp hx
    obtain ⟨j, _, rfl⟩ := List.mem_map.mp hy
    exact alike_tab i j
  simp [PySem.W.alikeAll, PySem.W.alike, e1, e2]
theorem voice_lt {a b : Voice} (h : a.name ≠ b.name) : PySem.W.dataLt (voiceD a) (voiceD b) = decide (a.name.cps.toList < b.name.cps.toList) := by
  show PySem.W.dataLt (.tuple (.str a.name :: _)) (.tuple (.str b.name :: _)) = _
  rw [PySem.W.dataLt_tuple, PySem.W.dataLt_cons (by simp [PySem.W.alike]), if_neg, PySem.W.dataLt_str]
  simp [PyData.eqv]
  exact h
theorem depth_tab (t : List Nat) : (tabD t).depth ≤ 1 := by
  show PyData.depthAll (nDs t) + 1 ≤ 1
  have : PyData.depthAll (nDs t) = 0 := by
    induction t with
    | nil => rfl
    | cons d t ih => show max 0 (PyData.depthAll (nDs t)) = 0; omega
  omega
theorem depth_voice (v : Voice) : (voiceD v).depth ≤ 40 := by
  have h1 : PyData.depthAll (v.elders.map PyData.str) = 0 := by
    induction v.elders with
    | nil => rfl
    | cons d t ih => show max 0 (PyData.depthAll (t.map PyData.str)) = 0; omega
  have h2 : PyData.depthAll (v.tables.map tabD) ≤ 1 := by
    induction v.tables with
    | nil => exact Nat.zero_le _
    | cons d t ih =>
      have := depth_tab d
      show max (tabD d).depth (PyData.depthAll (t.map tabD)) ≤ 1
      omega
  show PyData.depthAll [.str v.name, .tuple (v.elders.map PyData.str), .tuple (v.tables.map tabD)] + 1 ≤ 40
  show max 0 (max (PyData.depthAll (v.elders.map PyData.str) + 1) (max (PyData.depthAll (v.tables.map tabD) + 1) 0)) + 1 ≤ 40
  omega
theorem rising_le : ∀ {x : Str} {r : List Str}, risingS x r = true → ∀ y ∈ r, x.cps.toList ≤ y.cps.toList
  | _, [], _, y, hy => nomatch hy
  | x, z :: r, h, y, hy => by
    have h2 : (!ltCps z.cps.toList x.cps.toList && risingS z r) = true := h
    rw [Bool.and_eq_true, ltCps_eq] at h2
    have h3 : x.cps.toList ≤ z.cps.toList := List.not_lt.mp fun q => by
      have h4 := h2.1
      rw [decide_eq_true q] at h4
      cases h4
    rcases List.mem_cons.mp hy with rfl | hy
    · exact h3
    · exact List.le_trans h3 (rising_le h2.2 y hy)
theorem rising_pw : ∀ {x : Str} {r : List Str}, risingS x r = true → (x :: r).Pairwise fun a b => a.cps.toList ≤ b.cps.toList
  | x, [], _ => .cons (fun _ h => nomatch h) .nil
  | x, z :: r, h => by
    have h2 : (!ltCps z.cps.toList x.cps.toList && risingS z r) = true := h
    rw [Bool.and_eq_true] at h2
    exact .cons (rising_le h) (rising_pw h2.2)
theorem sorted_pw {ns : List Str} (h : sortedS ns = true) : ns.Pairwise fun a b => a.cps.toList ≤ b.cps.toList := by
  cases ns with
  | nil => exact .nil
  | cons x r => exact rising_pw h
theorem one_name : ∀ {vs : List Voice}, (vs.map (·.name)).Nodup → ∀ {a b : Voice}, a ∈ vs → b ∈ vs → a.name = b.name → a = b
  | [], _, _, _, ha, _, _ => nomatch ha
  | v :: vs, h, a, b, ha, hb, e => by
    rw [List.map_cons, List.nodup_cons] at h
    rcases List.mem_cons.mp ha with rfl | ha
    · rcases List.mem_cons.mp hb with rfl | hb
      · rfl
      · exact absurd (List.mem_map.mpr ⟨b, hb, e.symm⟩) h.1
    · rcases List.mem_cons.mp hb with rfl | hb
      · exact absurd (List.mem_map.mpr ⟨a, ‹a ∈ vs›, e⟩) h.1
      · exact one_name h.2 ha hb e
/-- in whatever order the voices come, sorted they are the choir's -/
theorem voices_sorted {P : Parts} {lim : Nat} (ok : P.Ok lim) {vs : List Voice} (hp : vs.Perm P.voices) : vs.mergeSort (PySem.W.dataLe false voiceD) = P.voices := by
  have hnd : (vs.map (·.name)).Nodup := (hp.map Voice.name).nodup_iff.mpr ok.nodup
  have hso : P.voices.Pairwise fun a b => a.name.cps.toList ≤ b.name.cps.toList := by
    have h := sorted_pw ok.sorted
    unfold Parts.names at h
    exact (List.pairwise_map (R := fun a b : Str => a.cps.toList ≤ b.cps.toList)).mp h
  let le : Voice → Voice → Bool := fun a b => decide (a.name.cps.toList ≤ b.name.cps.toList)
  have e : (vs.mergeSort (PySem.W.dataLe false voiceD)).map id = (vs.map id).mergeSort le := by
    refine List.map_mergeSort fun a ha b hb => ?_
    rw [PySem.W.dataLe_eq]
    show (!PySem.W.dataLt (voiceD b) (voiceD a)) = decide (a.name.cps.toList ≤ b.name.cps.toList)
    by_cases c : a.name = b.name
    · have : a = b := one_name hnd ha hb c
      subst this
      rw [(show PySem.W.dataLt (voiceD a) (voiceD a) = false from lex_irrefl _), decide_eq_true (List.le_refl _)]
      rfl
    · rw [voice_lt fun z => c z.symm]
      by_cases d : b.name.cps.toList < a.name.cps.toList
      · rw [decide_eq_true d, decide_eq_false fun z => List.not_lt.mpr z d]
        rfl
      · rw [decide_eq_false d, decide_eq_true (List.not_lt.mp d)]
        rfl
  rw [List.map_id, List.map_id] at e
  rw [e]
  have hs := List.pairwise_mergeSort (le := le) (fun a b c h1 h2 => decide_eq_true (List.le_trans (of_decide_eq_true h1) (of_decide_eq_true h2))) (fun a b => by
    rcases List.le_total a.name.cps.toList b.name.cps.toList with h | h
    · rw [Bool.or_eq_true]; exact .inl (decide_eq_true h)
    · rw [Bool.or_eq_true]; exact .inr (decide_eq_true h)) vs
  refine List.Perm.eq_of_pairwise (fun a b ha hb h1 h2 => ?_) hs (hso.imp fun {a b} h => decide_eq_true h) ((List.mergeSort_perm vs le).trans hp)
  refine one_name hnd ((List.mergeSort_perm vs le).mem_iff.mp ha) (hp.mem_iff.mpr hb) ?_
  exact str_ext (List.le_antisymm (of_decide_eq_true h1) (of_decide_eq_true h2))
end HG

/-! a dict comprehension put into a local name -/
namespace HG
open PySem PySem.Spec PyProof.Rows L2
theorem sw_trueD {kx vx : Expr} {gs : List Comprehension} {scope : Scope} {pos py : Pos} {y : Str} {l : Nat} {env : Env} (hk : env.scope.kind = .function) (hy : env.scope.names.lookup y = some .local) (hl : (py.line == pos.line) = true)
    (ha : (scope.names.any fun (n, k) => n == y && (k == .local || k == .cell)) = false) : swapsWith (.DictComp kx vx gs scope pos) (some (.Name y py)) l env = pure true := by
  have ky : env.kindOf y = some .local := hy
  have hb : env.blockKind = .function := by unfold Env.blockKind; rw [hk]; rfl
  unfold swapsWith
  simp only [hb, ky, ha, Expr.pos, hl]
  rfl
theorem ps_setDc {X : Cx} {i : Nat} {y : Str} {py : Pos} {kx vx tg iter : Expr} {ifs : List Expr} {scope : Scope} {own : List (Str × Nat)} {pos spos : Pos} {wi : TI} {g : TG} {tt : TT} {tk tv : TE} (hc : X.calm = true) (hN : X.N.Nodup) (hy : X.N[i]? = some y) (hyl : X.env.scope.names.lookup y = some .local)
    (hsw : swapsWith (.DictComp kx vx [⟨tg, iter, ifs, 0⟩] scope pos) (some (.Name y py)) spos.line X.env = pure true) (hi : PI X tg iter wi) (ok : BlkOk X.N X.env.scope scope own)
    (hg : ∀ (s : Shared) (H : Hp) (C : Addr) (cl : List (Str × Addr)) (fp : List Addr), PG (X.blk s H scope (compEnvC scope cl C X.env) fp) tg g) (ht : ∀ (s : Shared) (H : Hp) (C : Addr) (cl : List (Str × Addr)) (fp : List Addr), PTs (X.blk s H scope (compEnvC scope cl C X.env) fp) ifs tt)
    (hk : ∀ (s : Shared) (H : Hp) (C : Addr) (cl : List (Str × Addr)) (fp : List Addr), PE (X.blk s H scope (compEnvC scope cl C X.env) fp) kx tk)
    (he : ∀ (s : Shared) (H : Hp) (C : Addr) (cl : List (Str × Addr)) (fp : List Addr), PE (X.blk s H scope (compEnvC scope cl C X.env) fp) vx tv) (hs : ∀ x, foldedSetIterable iter X.env x = pure x := by intro _; rfl) :
    PS X (.Assign [.Name y py] (.DictComp kx vx [⟨tg, iter, ifs, 0⟩] scope pos) spos) (tAsg (tDc wi g tt tk tv (own.map (·.2))) (gName i)) := by
  refine ⟨fun pins s σ H D I h => ?_⟩
  rw [exec_Assign_Name_used _ _ _ _ hsw]
  refine wpAny_bind (wpAny_standAt (wpAny_bind ?_))
  show wpAny _ X.A (do let _ ← comprehension (.DictComp kx vx [⟨tg, iter, ifs, 0⟩] scope pos) scope X.env (firstIterPos [⟨tg, iter, ifs, 0⟩] pos) newDict false (eval iter X.env) (some (assign (.Name y py) X.env))) _ _ s
  have h : tDc wi g tt tk tv (own.map (·.2)) σ H (fun x H1 => gName i x σ H1 D.nx) := h
  refine wpAny_bind (thn (dc_core (Qf := fun _ s' => SP X pins D .next s') hc hN I hi ok hg ht hk he hs h fun L C s' m H' I' q hn f => ?_) fun _ s' hq => wpAny_pure (wpAny_pure hq))
  show wpAny _ _ (assign (.Name y py) X.env (.ref L)) _ _ _
  refine wpAny_assign_Name (store_ok2 (v := V.ref L) I' hN hy (.inl hyl) rfl (fun s2 I2 ⟨a, sb, ha⟩ => ?_) (.inr hyl))
  obtain ⟨f0, f1, f2, f3, f4, f5⟩ := f
  have haC : C ≠ a := by
    rcases ha with z | z
    · rw [z]; exact f1
    · exact fun e => f4 y a z e.symm
  refine ⟨m, hn.sameBut sb haC, fun h3 sb3 => ?_⟩
  exact ⟨_, H', I2.turned (t' := s2.toks) (fun b o hb e => (sb3.2 b hb).trans e) f0 f1 f3 f4 f5, q⟩
/-- e.f in a comprehension's block, K beside -/
theorem pe_fldK {X : Cx} {K : PySem.W.Frag} {e : Expr} {ta : TE} {f : Str} {pos : Pos} (hK : X.K = K) (he : PE X e ta) (hb : attributeBase e f X.env (eval e X.env) = eval e X.env) : PE X (.Attribute e f pos) (tFld K ta f) := by
  subst hK
  exact pe_fld he hb
end HG

/-! == and != by an own __eq__, both answers -/
namespace HG
open PySem PySem.Spec PyProof.Rows L2
/-- what an own class says of != -/
structure OwnNe (K : PySem.W.Frag) (C : Addr) : Prop where
  ne : PySem.W.findIn K (.ref C) "__ne__" = some (some (.builtin "object.__ne__"))
  sub : PySem.W.subIn K (.ref C) (.type "object") = some true
/-- what is no instance, but compared with one -/
def Oth (K : PySem.W.Frag) (H : Hp) (y : V) : Prop := y = .non ∨ (∃ n, y = .int n) ∨ (∃ z, y = .str z) ∨ (∃ b xs, y = .ref b ∧ SqL K H b xs) ∨ ∃ b xs, y = .ref b ∧ SqT K H b xs
/-- what x == y, x != y ask: the own __eq__ tells a truth -/
def rOwnEq (K : PySem.W.Frag) (C : Addr) (sp : Sp) (g : Bool → Bool) : R2 := fun x y H Q => ∃ a dx fs, x = .ref a ∧ H a = some (.ins C dx fs) ∧ ((∃ b dy gs, y = .ref b ∧ H b = some (.ins C dy gs)) ∨ Oth K H y) ∧ sp [x, y] H (fun v H' => ∃ t : Bool, v = .bl t ∧ Q (.bl (g t)) H') E0
section
open PySem.Calls PySem.W
variable {prog : Program} {w : World} {A : Around} {E : Value → Shared → Prop} {s : Shared} {K : Frag} {x C L f : Addr} {h₀ : Heap} {m : Str → Option Value} {ox : Obj} {od : Option Obj} {b tb : Value}
theorem ne_bound {Q : Option Value → Shared → Prop} (X : K.In s.heap) (I : InstAt s.heap x ox C od) (hu : A.units + 1 < cLine)
    (hs : findIn K (.ref C) "__eq__" = some (some (.ref f))) (hf : isFn K (.ref f) = true) (hne : findIn K (.ref C) "__ne__" = some (some (.builtin "object.__ne__"))) (hsub : subIn K (.ref C) (.type "object") = some true)
    (h : wpAny (model prog w) A.in1 (call (.ref f) [.ref x, b]) (fun v s' => ∃ t, v = .bool t ∧ Q (some (.bool (!t))) s') E s) : wpAny (model prog w) A (callSpecialIfBound? (.ref x) "__ne__" [b]) Q E s := by
  simp only [callSpecialIfBound?, bindSpecialIfBound?]
  refine wpAny_holding (wpAny_bind (wpAny_bind (wpAny_bind (I.type.here ((looks_findIn X hne).here ?_)))))
  have body : wpAny (model prog w) A.in1 (Builtin.«object.__ne__» ⟨[.ref x, b], []⟩) (fun r s' => ∃ v, r = .done (.ret v) ∧ Q (some v) s') E s := by
    unfold Builtin.«object.__ne__»
    repeat (first
      | with_reducible refine wpAny_cRoomFor hu ?_
      | (refine wpAny_bind (m := callSpecialIfBound? (.ref x) (Str.ofString "__eq__") [b])
          (ifBound_K X I hs hf (wpAny_mono h (fun r s' hr => by
            obtain ⟨t, rfl, hq⟩ := hr
            repeat (first | exact ⟨_, rfl, hq⟩ | exact wpAny_pure ⟨_, rfl, hq⟩ | (refine wpAny_bind (m := truthy (.bool _)) (wpAny_truthy_bool ?_)) | wp_step)) fun _ _ e => e)))
      | wp_step)
  have fin : wpAny (model prog w) A (call (.builtin "object.__ne__") ([.ref x] ++ [b]) >>= fun v => pure (some v)) Q E s := by
    refine wpAny_bind (wpAny_call (codeAny_call_builtin PySem.F.cmp_object.ne.plain PySem.F.cmpEntry_ne (check_slot PySem.F.cmpKind_ne PySem.F.cmpSplit_ne (I.type.andThen (looks_subIn X hsub)) (PySem.F.cmpArgs_ne _ _) ?_)))
    refine wpAny_mono body (fun r s' hr => ?_) fun _ _ e => e
    obtain ⟨v, rfl, q⟩ := hr
    exact wpAny_pure q
  refine wpAny_bind (wpAny_askSetting (wpAny_ite ?_))
  simp only [PySem.F.cmp_object.ne.bind]
  split
  · exact wpAny_bind (wpAny_pure (wpAny_pure fin))
  · exact wpAny_tryCatch (wpAny_bind (wpAny_pure (wpAny_pure fin)))
theorem ne_K {Q : Value → Shared → Prop} (hu : A.units + 1 < cLine) (F : Fr h₀ L s.heap m) (X₀ : K.In h₀) (I : InstAt s.heap x ox C od) (hb : Looks (model prog w) s.heap (typeOf b) tb) (hn : notFirst K C tb = true)
    (hs : findIn K (.ref C) "__eq__" = some (some (.ref f))) (hf : isFn K (.ref f) = true) (hne : findIn K (.ref C) "__ne__" = some (some (.builtin "object.__ne__"))) (hsub : subIn K (.ref C) (.type "object") = some true)
    (h : wpAny (model prog w) A.in1 (call (.ref f) [.ref x, b]) (fun v s' => ∃ t, v = .bool t ∧ Q (.bool (!t)) s') E s) : wpAny (model prog w) A (richCompare .NotEq (.ref x) b) Q E s := by
  have X := X₀.keeps F.keep
  have one : wpAny (model prog w) A (tryCompare (.ref x) (cmpInfo .NotEq).2.1 b) (fun r s' => ∃ v, r = some v ∧ Q v s') E s := by
    unfold tryCompare
    refine wpAny_bind (ne_bound X I hu hs hf hne hsub (wpAny_mono h (fun v s' hv => ?_) fun _ _ e => e))
    obtain ⟨t, rfl, q⟩ := hv
    exact ⟨t, rfl, wpAny_pure ⟨_, rfl, q⟩⟩
  unfold richCompare
  simp only [oneThing_ref]
  refine wpAny_holding (wpAny_bind (wpAny_cRoomFor (Nat.lt_of_succ_lt hu) ?_))
  refine wpAny_bind (I.type.here (wpAny_bind (hb.here ?_)))
  split
  · rename_i q
    have e : subIn K tb (.ref C) = some false := by
      rcases Bool.or_eq_true_iff.mp hn with e | e
      · rw [beq_iff_eq.mp e] at q; simp at q
      · exact beq_iff_eq.mp e
    refine wpAny_bind ((looks_subIn X e).here ?_)
    simp only [Bool.false_eq_true, if_false]
    refine wpAny_bind (wpAny_mono one (fun r s' z => ?_) fun _ _ e => e)
    obtain ⟨v, rfl, hq⟩ := z
    exact wpAny_pure hq
  · refine wpAny_bind (wpAny_pure ?_)
    simp only [Bool.false_eq_true, if_false]
    refine wpAny_bind (wpAny_mono one (fun r s' z => ?_) fun _ _ e => e)
    obtain ⟨v, rfl, hq⟩ := z
    exact wpAny_pure hq
end
section
variable {X : Cx} {C : Addr} {k n : Nat} {ps : List Str} {sp : Sp}
/-- the own def, called anywhere below -/
theorem call_at {m : Str} (D : Mf X.prog X.w X.K X.mg X.base C m k ps sp) {A : Around} (sb : Sub X n A) (hk : k ≤ n) {pins : List (Addr × Obj)} {σ : L2.St} {H : Hp} {s : Shared} {vs : List V} {us : List Value} {Q : VK} (I : L2.Inv X pins σ H s) (r : Vals vs us) (h : sp vs H Q E0) :
    ∃ f, PySem.W.findIn X.K (.ref C) m = some (some (.ref f)) ∧ PySem.W.isFn X.K (.ref f) = true ∧ wpAny (model X.prog X.w) A (call (.ref f) us) (EP X pins σ Q) X.xe s := by
  obtain ⟨f, fd, hM, hb, F⟩ := D
  refine ⟨f, hM.at_, hM.fn, ?_⟩
  have e0 : Env0 X.prog X.w X.K X.mg X.base A X.stack s H := by
    obtain ⟨g1, g2, g3, g4, g5, g6, g7, g8⟩ := I.env0
    exact ⟨by rw [sb.fr]; exact g1, g2, g3, g4, g5, g6, g7, g8⟩
  have hl : (us ++ []).length = ps.length := by rw [List.append_nil, ← r.length]; exact F.len _ _ _ _ h
  refine wpAny_call (codeAny_mono (F.run A X.stack s H ⟨us, []⟩ us vs Q E0 (sb.room.mono hk) e0 (by have := hb s us I.kIn hl; simpa using this) r h) fun r' s' hq => ?_)
  match r', hq with
  | .error e, hq => exact (pass0 (X := X) pins σ H s e s' I hq)
  | .ok (.ret u), hq => exact I.after hq
  | .ok .next, hq => exact False.elim hq
  | .ok .brk, hq => exact False.elim hq
  | .ok .cont, hq => exact False.elim hq
theorem oth_type {pins : List (Addr × Obj)} {σ : L2.St} {H : Hp} {s : Shared} {y : V} {v : Value} (I : L2.Inv X pins σ H s) (ry : RelV y v) (h : Oth X.K H y) : ∃ T, PySem.W.Looks (model X.prog X.w) s.heap (typeOf v) (.type T) ∧ PySem.W.notFirst X.K C (.type T) = true := by
  rcases h with rfl | ⟨n, rfl⟩ | ⟨z, rfl⟩ | ⟨b, xs, rfl, h⟩ | ⟨b, xs, rfl, h⟩
  · cases ry
    exact ⟨"NoneType", .of_pure rfl, by rfl⟩
  · obtain ⟨t, rfl⟩ := ry
    exact ⟨"int", .of_pure rfl, by rfl⟩
  · obtain ⟨t, rfl⟩ := ry
    exact ⟨"str", .of_pure rfl, by rfl⟩
  · cases ry
    obtain ⟨_, _, ⟨o, n, e, hc, _⟩, _⟩ := I.list h
    exact ⟨"list", hc ▸ (PySem.W.Looks.ld e).andThen .now, by rfl⟩
  · cases ry
    obtain ⟨_, _, ⟨o, e, hc, _⟩, _⟩ := I.tuple h
    exact ⟨"tuple", hc ▸ (PySem.W.Looks.ld e).andThen .now, by rfl⟩
theorem op_eqOwn (D : Mf X.prog X.w X.K X.mg X.base C "__eq__" k ps sp) (hr : Room n X.A) (hk : k ≤ n := by decide) : OpR X (compareOp .Eq) (rOwnEq X.K C sp id) := by
  intro pins s σ H x y u v Q I rx ry h
  obtain ⟨a, dx, fs, rfl, ha, hy, hs⟩ := h
  cases rx
  obtain ⟨_, J, _⟩ := ins_get I.hok ha
  obtain ⟨od, J, _⟩ := J.look
  obtain ⟨f, h1, h2, hc⟩ := call_at D (A := X.A) ⟨hr, rfl⟩ hk I (.cons (show RelV (V.ref a) (.ref a) from rfl) (.cons ry .nil)) hs
  obtain ⟨m, hF⟩ := I.fr
  have hT : ∃ tb, PySem.W.Looks (model X.prog X.w) s.heap (typeOf v) tb ∧ PySem.W.notFirst X.K C tb = true := by
    rcases hy with ⟨b, dy, gs, rfl, hb⟩ | ho
    · cases ry
      obtain ⟨_, J', _⟩ := ins_get I.hok hb
      obtain ⟨od', J', _⟩ := J'.look
      exact ⟨_, J'.type, by simp [PySem.W.notFirst]⟩
    · obtain ⟨T, t1, t2⟩ := oth_type (C := C) I ry ho
      exact ⟨_, t1, t2⟩
  obtain ⟨tb, t1, t2⟩ := hT
  show wpAny (model X.prog X.w) X.A (richCompare .Eq (.ref a) v) (EP X pins σ Q) X.xe s
  refine PySem.W.cmp_K (op := .Eq) (tb := tb) hr.units0 hF I.ok.mod.kin J t1 t2 h1 h2 (thn hc fun w' s' hq => ?_)
  obtain ⟨z, H', I', rz, t, rfl, q⟩ := hq
  obtain rfl : w' = .bool t := rz
  exact ⟨.bl t, H', I', rfl, q⟩
theorem op_neOwn (D : Mf X.prog X.w X.K X.mg X.base C "__eq__" k ps sp) (N : OwnNe X.K C) (hr : Room (n + 1) X.A) (hk : k ≤ n := by decide) : OpR X (compareOp .NotEq) (rOwnEq X.K C sp (!·)) := by
  intro pins s σ H x y u v Q I rx ry h
  obtain ⟨a, dx, fs, rfl, ha, hy, hs⟩ := h
  cases rx
  obtain ⟨_, J, _⟩ := ins_get I.hok ha
  obtain ⟨od, J, _⟩ := J.look
  obtain ⟨f, h1, h2, hc⟩ := call_at D (A := X.A.in1) (Sub.in1 ⟨hr, rfl⟩) hk I (.cons (show RelV (V.ref a) (.ref a) from rfl) (.cons ry .nil)) hs
  obtain ⟨m, hF⟩ := I.fr
  have hT : ∃ tb, PySem.W.Looks (model X.prog X.w) s.heap (typeOf v) tb ∧ PySem.W.notFirst X.K C tb = true := by
    rcases hy with ⟨b, dy, gs, rfl, hb⟩ | ho
    · cases ry
      obtain ⟨_, J', _⟩ := ins_get I.hok hb
      obtain ⟨od', J', _⟩ := J'.look
      exact ⟨_, J'.type, by simp [PySem.W.notFirst]⟩
    · obtain ⟨T, t1, t2⟩ := oth_type (C := C) I ry ho
      exact ⟨_, t1, t2⟩
  obtain ⟨tb, t1, t2⟩ := hT
  show wpAny (model X.prog X.w) X.A (richCompare .NotEq (.ref a) v) (EP X pins σ Q) X.xe s
  refine ne_K (by have := hr.units; omega) hF I.ok.mod.kin J t1 t2 h1 h2 N.ne N.sub (thn hc fun w' s' hq => ?_)
  obtain ⟨z, H', I', rz, t, rfl, q⟩ := hq
  obtain rfl : w' = .bool t := rz
  exact ⟨t, rfl, .bl (!t), H', I', rfl, q⟩
end
end HG

/-! len by an own __len__; defs that are called outside of every repr, in bundles; == of voices -/
namespace HG
open PySem PySem.Spec PyProof.Rows L2
section
open PySem.Calls PySem.W
variable {prog : Program} {w : World} {A : Around} {E : Value → Shared → Prop} {s : Shared} {K : Frag} {x C f : Addr} {ox : Obj} {od : Option Obj}
theorem len_K {Q : Value → Shared → Prop} (X : K.In s.heap) (I : InstAt s.heap x ox C od) (hs : findIn K (.ref C) "__len__" = some (some (.ref f))) (hf : isFn K (.ref f) = true)
    (h : wpAny (model prog w) A.in1 (call (.ref f) [.ref x]) (fun r s' => ∃ n u, r = .int n u ∧ 0 ≤ n ∧ n < 2 ^ 63 ∧ Q (.int n s'.toks) { s' with toks := s'.toks + 1 }) E s) :
    wpAny (model prog w) A (call (.builtin "len") [.ref x]) Q E s := by
  refine Calls.call_function_entry kind_len plain_len entry_len (args_len1 _) ?_
  unfold Builtin.«len»
  refine wpAny_bind (m := oneArg "len" _) (wpAny_pure ?_)
  have sp : ∀ {R : Option Value → Shared → Prop}, wpAny (model prog w) A.in1 (call (.ref f) [.ref x]) (fun v => R (some v)) E s → wpAny (model prog w) A.in1 (callSpecial? (.ref x) (Str.ofString "__len__") []) R E s := fun hc => by
    unfold callSpecial? specialOf
    refine wpAny_bind (wpAny_bind (I.type.here ((looks_findIn X hs).here ?_)))
    refine wpAny_holding (wpAny_bind ((bind_fn X _ (beq_iff_eq.mp hf)).here ?_))
    exact wpAny_bind (wpAny_mono hc (fun v s' h' => wpAny_pure h') fun _ _ h' => h')
  refine wpAny_bind (m := callSpecial? (.ref x) (Str.ofString "__len__")) (sp (wpAny_mono h (fun r s' hr => ?_) fun _ _ y => y))
  obtain ⟨n, u, rfl, h0, h1, hq⟩ := hr
  refine wpAny_bind (wpAny_holding (wpAny_pure ?_))
  refine wpAny_bind (wpAny_letGo ?_)
  show wpAny _ _ (if n < 0 then _ else _) _ _ _
  rw [if_neg (by omega)]
  show wpAny _ _ (if n ≥ 2 ^ 63 then _ else _) _ _ _
  rw [if_neg (by omega)]
  exact wpAny_bind (wpAny_mkInt (wpAny_pure ⟨_, rfl, hq⟩))
end
section
variable {X : Cx} {C : Addr} {k n : Nat} {ps : List Str} {sp : Sp}
theorem call_lenOwn (D : Mf X.prog X.w X.K X.mg X.base C "__len__" k ps sp) (hr : Room (n + 1) X.A) (hk : k ≤ n := by decide) : CallR X (.builtin "len") (fun xs H Q => ∃ a dx fs, xs = [.ref a] ∧ H a = some (.ins C dx fs) ∧ sp [.ref a] H (fun v H' => ∃ m : Nat, v = .int (m : Int) ∧ m < 2 ^ 63 ∧ Q (.int (m : Int)) H') E0) := by
  intro pins s σ H xs us Q I r h
  obtain ⟨a, dx, fs, rfl, ha, hs⟩ := h
  obtain ⟨u, rfl, ru⟩ := vals1 r
  cases ru
  obtain ⟨_, J, _⟩ := ins_get I.hok ha
  obtain ⟨od, J, _⟩ := J.look
  obtain ⟨f, h1, h2, hc⟩ := call_at D (A := X.A.in1) (Sub.in1 ⟨hr, rfl⟩) hk I (.cons (show RelV (V.ref a) (.ref a) from rfl) .nil) hs
  refine len_K I.kIn J h1 h2 (thn hc fun w' s' hq => ?_)
  obtain ⟨z, H', I', rz, m, rfl, hm, q⟩ := hq
  obtain ⟨t, rfl⟩ : ∃ t, w' = .int (m : Int) t := rz
  have h63 : (m : Int) < 2 ^ 63 := by have : ((2 : Nat) ^ 63 : Int) = (2 : Int) ^ 63 := by norm_cast
                                      omega
  exact ⟨_, t, rfl, by omega, h63, .int (m : Int), H', I'.tok _, ⟨_, rfl⟩, q⟩
end
/-- a def of the text that is called outside of every repr -/
def Gf (P : Program) (w : World) (K : PySem.W.Frag) (mg : Str → Option Value) (base : Heap) (x : Str) (k : Nat) (ps : List Str) (sp : Sp) : Prop := ∃ f fd, mg x = some (.ref f) ∧ PySem.W.keepIn K (.ref f) = true ∧ Binds K fd ps [] ∧ FnG P w K mg base CX0 k f fd ps sp
theorem pe_cG {X : Cx} {x : Str} {k n : Nat} {ps : List Str} {sp : Sp} {e : Expr} {es : List Expr} {p pos : Pos} {t : TA} (D : Gf X.prog X.w X.K X.mg X.base x k ps sp) (hg : X.A.guards = some []) (hr : Room n X.A) (gl : Gl X x) (ha : PA X (e :: es) t) (hk : k ≤ n := by decide) (hdb : (x == ("__debug__" : Str)) = false := by decide)
    (he : starEach (e :: es) X.env = (false, eval e X.env) :: starEach es X.env := by rfl) (hpl : (backTo pos (starEach es X.env)).any (·.1) = false := by rfl) : PE X (.Call (.Name x p) (e :: es) [] pos) (tCall sp [] E0 t) := by
  obtain ⟨f, fd, h1, h2, h3, h4⟩ := D
  exact pe_callG h4 hg (hr.mono hk) gl h1 h2 h3 .nil pass0 ha hdb he hpl
/-! ### == of voices -/
theorem eqvAll_inj {α : Type} {f : α → PyData} (h : ∀ x y, PyData.eqv (f x) (f y) = true ↔ x = y) : ∀ xs ys : List α, PyData.eqvAll (xs.map f) (ys.map f) = true ↔ xs = ys
  | [], [] => by simp [PyData.eqvAll]
  | [], y :: ys => by simp [PyData.eqvAll]
  | x :: xs, [] => by simp [PyData.eqvAll]
  | x :: xs, y :: ys => by
    rw [List.map_cons, List.map_cons, PyData.eqvAll, Bool.and_eq_true, h, eqvAll_inj h xs ys, List.cons.injEq]
theorem eqv_strs (a b : Str) : PyData.eqv (.str a) (.str b) = true ↔ a = b := by simp [PyData.eqv]
theorem eqv_tabs (a b : List Nat) : PyData.eqv (tabD a) (tabD b) = true ↔ a = b := by
  show PyData.eqv (.tuple (a.map fun d : Nat => PyData.int (d : Int))) (.tuple (b.map fun d : Nat => PyData.int (d : Int))) = true ↔ _
  rw [PyData.eqv]
  exact eqvAll_inj (fun x y => by simp only [PyData.eqv, beq_iff_eq]; omega) a b
theorem eqv_voices (a b : Voice) : PyData.eqv (voiceD a) (voiceD b) = true ↔ a = b := by
  unfold voiceD
  rw [PyData.eqv, PyData.eqvAll, PyData.eqvAll, PyData.eqvAll, PyData.eqvAll, Bool.and_eq_true, Bool.and_eq_true, Bool.and_eq_true, eqv_strs, PyData.eqv, PyData.eqv, eqvAll_inj eqv_strs, eqvAll_inj eqv_tabs]
  cases a
  cases b
  simp
theorem eqv_rows (a b : List Voice) : PyData.eqv (.list (a.map voiceD)) (.list (b.map voiceD)) = true ↔ a = b := by
  rw [PyData.eqv]
  exact eqvAll_inj eqv_voices a b
/-- a choir of handed parts, in whatever order they stand -/
def spChoir2 (K : PySem.W.Frag) (At : Hp → Addr → Parts → Prop) : Sp := fun vs H Q _ => ∃ (G : Hp) (v : V) (P : Parts) (ws : List Voice) (lim : Nat), vs = [v] ∧ Same G H ∧ Dp K G v (partsD ⟨P.pace, P.notes, ws⟩) ∧ ws.Perm P.voices ∧ P.Ok lim ∧ lim ≤ 64 ∧ ∀ (x : Addr) (H' : Hp), Same H H' → H x = none → At (more G H H') x P → Q (.ref x) H'
/-- == of a choir and any thing -/
def spEqM (K : PySem.W.Frag) (At : Hp → Addr → Parts → Prop) : Sp := fun vs H Q _ => ∃ (G : Hp) (x : Addr) (y : V) (P : Parts), vs = [.ref x, y] ∧ Same G H ∧ At G x P ∧ P.Ok 64 ∧ ((∃ b P', y = .ref b ∧ At G b P' ∧ P'.Ok 64 ∧ ∀ t : Bool, (t = true ↔ P = P') → Q (.bl t) H) ∨ (Oth K H y ∧ Q (.bl false) H))
theorem oth_same {K : PySem.W.Frag} {G H : Hp} {y : V} (s : Same G H) (h : Oth K G y) : Oth K H y := by
  rcases h with h | h | h | ⟨b, xs, e, h⟩ | ⟨b, xs, e, h⟩
  · exact .inl h
  · exact .inr (.inl h)
  · exact .inr (.inr (.inl h))
  · exact .inr (.inr (.inr (.inl ⟨b, xs, e, s.seq h⟩)))
  · exact .inr (.inr (.inr (.inr ⟨b, xs, e, sqT_same s h⟩)))
theorem oth_ty {K : PySem.W.Frag} {H : Hp} {C : Addr} {y : V} (h : Oth K H y) : ∃ T : String, TyX K H y (.type T) ∧ (T = "NoneType" ∨ T = "int" ∨ T = "str" ∨ T = "list" ∨ T = "tuple") := by
  rcases h with rfl | ⟨n, rfl⟩ | ⟨z, rfl⟩ | ⟨b, xs, rfl, h⟩ | ⟨b, xs, rfl, h⟩
  · exact ⟨_, .base .non, .inl rfl⟩
  · exact ⟨_, .base (.int n), .inr (.inl rfl)⟩
  · exact ⟨_, .base (.str z), .inr (.inr (.inl rfl))⟩
  · exact ⟨_, ty_lst h, .inr (.inr (.inr (.inl rfl)))⟩
  · exact ⟨_, ty_tup h, .inr (.inr (.inr (.inr rfl)))⟩
end HG
namespace HG
open PySem PySem.Spec PyProof.Rows L2
/-- what isinstance asks of an own class, and that no thing of five kinds is one -/
structure InsN (K : PySem.W.Frag) (C : Addr) : Prop where
  cl : Cls K C
  ha : PySem.W.findIn K (.ref C) "__class__" = some (some (.builtin "object.__class__"))
  hn : PySem.W.specialIn K (.builtin "object.__class__") "__get__" = some (some (.builtin "getset_descriptor.__get__"))
  htk : PySem.W.takesIn K (.builtin "object.__class__") = some true
  hm : PySem.W.mroIn K C (.type "object") = some true
  me : PySem.W.kitOne K (.ref C) (.ref C) = some true
  n1 : PySem.W.kitOne K (.type "NoneType") (.ref C) = some false
  n2 : PySem.W.kitOne K (.type "int") (.ref C) = some false
  n3 : PySem.W.kitOne K (.type "str") (.ref C) = some false
  n4 : PySem.W.kitOne K (.type "list") (.ref C) = some false
  n5 : PySem.W.kitOne K (.type "tuple") (.ref C) = some false
theorem InsN.no {K : PySem.W.Frag} {C : Addr} {T : String} (N : InsN K C) (h : T = "NoneType" ∨ T = "int" ∨ T = "str" ∨ T = "list" ∨ T = "tuple") : PySem.W.kitOne K (.type T) (.ref C) = some false := by
  rcases h with rfl | rfl | rfl | rfl | rfl
  · exact N.n1
  · exact N.n2
  · exact N.n3
  · exact N.n4
  · exact N.n5
theorem InsN.ty {K : PySem.W.Frag} {C : Addr} {H : Hp} {a dx : Addr} {fs : List (Str × V)} (N : InsN K C) (h : H a = some (.ins C dx fs)) : TyX K H (.ref a) (.ref C) := .base (.ins h N.cl N.ha N.hn N.htk N.hm)
end HG

/-! data of bounded depth and length, so that they can be compared and shown -/
namespace HG
open PySem PySem.Spec PyProof.Rows L2 HF
structure Sz (b n : Nat) (d : PyData) : Prop where
  lay : d.canLay0 = true
  show_ : d.showable = true
  deep : d.depth ≤ b
  size : d.shown.length ≤ n
theorem Sz.up {b n b' n' : Nat} {d : PyData} (s : Sz b n d) (h1 : b ≤ b') (h2 : n ≤ n') : Sz b' n' d := ⟨s.lay, s.show_, by have := s.deep; omega, by have := s.size; omega⟩
theorem Sz.fine {b n : Nat} {d : PyData} (s : Sz b n d) (h1 : b ≤ 40 := by decide) (h2 : n ≤ sizeLine := by decide) : Fine d := ⟨s.lay, s.show_, by have := s.deep; omega, by have := s.size; omega⟩
theorem sz_nat {k : Nat} (h : k < 10 ^ 12) : Sz 0 20 (.int (k : Int)) := by
  have f : Fine (nD k) := fine_int (by
    have : (10 : Nat) ^ 12 < 2 ^ 1000 := by decide +kernel
    show ((k : Int)).natAbs < 2 ^ 1000
    omega)
  refine ⟨f.lay, f.show_, Nat.le_refl 0, ?_⟩
  have := PyData.shown_int_le (i := (k : Int)) (by omega)
  omega
theorem sz_str {z : Str} (h : z.length ≤ 10) (hc : ∀ c ∈ z.cps.toList, c < 1000) : Sz 0 102 (.str z) := by
  refine ⟨?_, rfl, Nat.le_refl 0, ?_⟩
  · show PyData.strOk z = true
    unfold PyData.strOk
    rw [Array.all_eq_true]
    intro i hi
    have := hc z.cps[i] (Array.getElem_mem_toList hi)
    exact decide_eq_true (by omega)
  · show (reprText z).length ≤ 102
    have := PySem.StrLaws.reprText_len z (fun c hm => Nat.lt_of_lt_of_le (hc c hm) (by decide))
    omega
theorem sz_all {b n : Nat} : ∀ {ds : List PyData}, (∀ d ∈ ds, Sz b n d) → PyData.canLayAll0 ds = true ∧ PyData.showableAll ds = true ∧ PyData.depthAll ds ≤ b ∧ ((PyData.shownAll ds).map (·.length)).sum ≤ n * ds.length ∧ (PyData.shownAll ds).length = ds.length
  | [], _ => ⟨rfl, rfl, Nat.zero_le _, Nat.le_refl _, rfl⟩
  | d :: ds, h => by
    obtain ⟨i1, i2, i3, i4, i5⟩ := sz_all (b := b) (n := n) (ds := ds) fun d' hd => h d' (List.mem_cons_of_mem _ hd)
    obtain ⟨j1, j2, j3, j4⟩ := h d List.mem_cons_self
    refine ⟨?_, ?_, ?_, ?_, ?_⟩
    · show (PyData.canLay0 d && PyData.canLayAll0 ds) = true
      rw [j1, i1]; rfl
    · show (PyData.showable d && PyData.showableAll ds) = true
      rw [j2, i2]; rfl
    · show max (PyData.depth d) (PyData.depthAll ds) ≤ b
      omega
    · show ((PyData.shown d :: PyData.shownAll ds).map (·.length)).sum ≤ n * (ds.length + 1)
      rw [List.map_cons, List.sum_cons, Nat.mul_succ]
      omega
    · show (PyData.shownAll ds).length + 1 = ds.length + 1
      rw [i5]
theorem sz_list {b n m : Nat} {ds : List PyData} (h : ∀ d ∈ ds, Sz b n d) (hl : ds.length ≤ m) : Sz (b + 1) (n * m + 2 * m + 3) (.list ds) := by
  obtain ⟨k1, k2, k3, k4, k5⟩ := sz_all h
  refine ⟨k1, k2, by show PyData.depthAll ds + 1 ≤ b + 1; omega, ?_⟩
  simp only [PyData.shown]
  have := listText_len_le (PyData.shownAll ds)
  rw [k5] at this
  have hm : n * ds.length ≤ n * m := Nat.mul_le_mul_left _ hl
  omega
theorem sz_tup {b n m : Nat} {ds : List PyData} (h : ∀ d ∈ ds, Sz b n d) (hl : ds.length ≤ m) : Sz (b + 1) (n * m + 2 * m + 3) (.tuple ds) := by
  obtain ⟨k1, k2, k3, k4, k5⟩ := sz_all h
  refine ⟨k1, k2, by show PyData.depthAll ds + 1 ≤ b + 1; omega, ?_⟩
  simp only [PyData.shown]
  have := tupleText_len_le (PyData.shownAll ds)
  rw [k5] at this
  have hm : n * ds.length ≤ n * m := Nat.mul_le_mul_left _ hl
  omega
theorem sz_good {z : Str} (g : GoodN z) : Sz 0 102 (.str z) := sz_str (by have := g.2.1; omega) fun c hc => by have := g.2.2 c hc; omega
theorem sz_strs {zs : List Str} {m : Nat} (h : ∀ z ∈ zs, GoodN z) (hl : zs.length ≤ m) : ∀ d ∈ zs.map PyData.str, Sz 0 102 d := fun d hd => by
  obtain ⟨z, hz, rfl⟩ := List.mem_map.mp hd
  exact sz_good (h z hz)
theorem sz_tab {n : Nat} {t : List Nat} (h : ∀ d ∈ t, d < n) (hn : n ≤ 5) (hl : t.length ≤ 6) : Sz 1 135 (tabD t) := by
  refine (sz_tup (b := 0) (n := 20) (m := 6) (fun d hd => ?_) (by show (nDs t).length ≤ 6; unfold nDs; rw [List.length_map]; exact hl)).up (by omega) (by omega)
  obtain ⟨k, hk, rfl⟩ := List.mem_map.mp hd
  exact sz_nat (by have := h k hk; omega)
/-- a voice of right parts -/
theorem sz_voice {P : Parts} {lim : Nat} (ok : P.Ok lim) {c : Voice} (hc : c ∈ P.voices) : Sz 3 3000 (voiceD c) := by
  obtain ⟨e1, e2⟩ := ok.elds c hc
  obtain ⟨t1, t2⟩ := ok.tabs c hc
  have p4 := ok.p4
  have n5 := ok.n5
  refine (sz_tup (b := 2) (n := 900) (m := 3) (fun d hd => ?_) (by show 3 ≤ 3; exact Nat.le_refl 3)).up (by omega) (by omega)
  rcases List.mem_cons.mp hd with rfl | hd
  · exact (sz_good (ok.good _ (List.mem_map.mpr ⟨c, hc, rfl⟩))).up (by omega) (by omega)
  rcases List.mem_cons.mp hd with rfl | hd
  · exact (sz_tup (b := 0) (n := 102) (m := 4) (fun d hd => by
      obtain ⟨z, hz, rfl⟩ := List.mem_map.mp hd
      exact sz_good (ok.good z (e2 z hz))) (by rw [List.length_map]; omega)).up (by omega) (by omega)
  rcases List.mem_cons.mp hd with rfl | hd
  · exact (sz_tup (b := 1) (n := 135) (m := 4) (fun d hd => by
      obtain ⟨t, ht, rfl⟩ := List.mem_map.mp hd
      have q := t2 t ht
      exact sz_tab q.2 n5 (by have := q.1; omega)) (by rw [List.length_map]; omega)).up (by omega) (by omega)
  · cases hd
theorem sz_rows {P : Parts} {lim : Nat} (ok : P.Ok lim) {ws : List Voice} (h : ws.Perm P.voices) : Sz 4 20000 (.list (ws.map voiceD)) := by
  refine (sz_list (b := 3) (n := 3000) (m := 6) (fun d hd => ?_) (by rw [List.length_map, h.length_eq]; exact ok.v6)).up (by omega) (by omega)
  obtain ⟨c, hc, rfl⟩ := List.mem_map.mp hd
  exact sz_voice ok (h.mem_iff.mp hc)
theorem sz_names {P : Parts} {lim : Nat} (ok : P.Ok lim) : Sz 1 700 (.list (P.names.map PyData.str)) :=
  (sz_list (b := 0) (n := 102) (m := 6) (fun d hd => by
    obtain ⟨z, hz, rfl⟩ := List.mem_map.mp hd
    exact sz_good (ok.good z hz)) (by rw [List.length_map, show P.names.length = P.voices.length from List.length_map ..]; exact ok.v6)).up (by omega) (by omega)
theorem sz_stand {P : Parts} {lim : Nat} (ok : P.Ok lim) {st : List Nat} (h : StOk P st) : Sz 1 135 (tabD st) := sz_tab h.2 ok.n5 (by have := h.1; have := ok.v6; omega)
theorem sz_parts {P : Parts} {lim : Nat} (ok : P.Ok lim) {ws : List Voice} (h : ws.Perm P.voices) : Sz 5 61000 (partsD ⟨P.pace, P.notes, ws⟩) := by
  have p4 := ok.p4
  have n5 := ok.n5
  refine (sz_tup (b := 4) (n := 20000) (m := 3) (fun d hd => ?_) (by show 3 ≤ 3; exact Nat.le_refl 3)).up (by omega) (by omega)
  rcases List.mem_cons.mp hd with rfl | hd
  · exact (sz_nat (k := P.pace) (by omega)).up (by omega) (by omega)
  rcases List.mem_cons.mp hd with rfl | hd
  · exact (sz_nat (k := P.notes) (by omega)).up (by omega) (by omega)
  rcases List.mem_cons.mp hd with rfl | hd
  · exact sz_rows ok h
  · cases hd
theorem dpAll_mk {K : PySem.W.Frag} {H : Hp} : ∀ {xs : List V} {ds : List PyData}, xs.length = ds.length → (∀ (i : Nat) (x : V) (d : PyData), xs[i]? = some x → ds[i]? = some d → Dp K H x d) → DpAll K H xs ds
  | [], [], _, _ => .nil
  | [], _ :: _, h, _ => nomatch h
  | _ :: _, [], h, _ => nomatch h
  | x :: xs, d :: ds, h, k => .cons (k 0 x d rfl rfl) (dpAll_mk (Nat.succ.inj h) fun i x d h1 h2 => k (i + 1) x d h1 h2)
end HG

/-! slices and sums of tuples of any length; data made of these -/
namespace HG
open PySem PySem.Spec PyProof.Rows L2 HF
theorem dpAll_nats_inv {K : PySem.W.Frag} {H : Hp} : ∀ {t : List Nat} {xs : List V}, DpAll K H xs (nDs t) → xs = nVs t
  | [], _, h => by cases h; rfl
  | d :: t, _, h => by
    have h' : DpAll K H _ (.int (d : Int) :: nDs t) := h
    cases h' with
    | cons h1 h2 =>
      cases h1
      rw [dpAll_nats_inv h2]
      rfl
theorem more_grow {A B H H' : Hp} (s : Same A B) : Same (more A H H') (more B H H') := fun b o e => by
  unfold more at e ⊢
  by_cases c : H b = none
  · rw [if_pos c] at e ⊢
    exact e
  · rw [if_neg c] at e ⊢
    exact s _ _ e
theorem more_put {G Hb H1 : Hp} {D : Addr} {o : HO} (hD : Hb D ≠ none) : Same (more G Hb H1) (more G Hb (upd H1 D o)) := fun b x e => by
  unfold more at e ⊢
  by_cases c : Hb b = none
  · rw [if_pos c] at e ⊢
    rw [upd_ne (fun z => hD (by rw [← z]; exact c))]
    exact e
  · rw [if_neg c] at e ⊢
    exact e
theorem more_start {G H Hb H' : Hp} (g : Same G H) (s : Same H Hb) : Same (more G Hb H') (more G H H') := fun b o e => by
  unfold more at e
  by_cases c : Hb b = none
  · rw [if_pos c] at e
    unfold more
    rw [if_pos (s.free c)]
    exact e
  · rw [if_neg c] at e
    exact more_old g b o e
theorem more_new {G H H' : Hp} {b : Addr} {o : HO} (nb : H b = none) (e : H' b = some o) : (more G H H') b = some o := by
  unfold more
  rw [if_pos nb]
  exact e
theorem nVs_at {t : List Nat} {i : Nat} (h : i < t.length) : (nVs t)[i]? = some (.int ((t.getD i 0 : Nat) : Int)) := by
  unfold nVs
  rw [List.getElem?_map, List.getElem?_eq_getElem h, List.getD_eq_getElem?_getD, List.getElem?_eq_getElem h]
  rfl
theorem upd_nn {H : Hp} {D b : Addr} {o : HO} (h : H b ≠ none) : upd H D o b ≠ none := by
  by_cases c : b = D
  · rw [c, upd_same]; exact nofun
  · rw [upd_ne c]; exact h
theorem same_nn {H H' : Hp} {b : Addr} (s : Same H H') (h : H b ≠ none) : H' b ≠ none := fun z => h (s.free z)
theorem toOff {p : Addr} {H1 Hb H' : Hp} (s1 : Same H1 Hb) (s2 : Same H1 H') (hp : H1 p ≠ none) : Same (more (off p H1) Hb H') (off p H') := fun b o e => by
  unfold more at e
  by_cases c : Hb b = none
  · rw [if_pos c] at e
    rw [off_ne (fun z => hp (by rw [← z]; exact s1.free c))]
    exact e
  · rw [if_neg c] at e
    exact off_same s2 b o e
theorem more_base {G Hb H6 H7 : Hp} (g : Same G Hb) (h : ∀ b, H6 b = none → Hb b = none) : Same (more G H6 H7) (more G Hb H7) := fun b o e => by
  unfold more at e
  by_cases c : H6 b = none
  · rw [if_pos c] at e
    unfold more
    rw [if_pos (h b c)]
    exact e
  · rw [if_neg c] at e
    exact more_old g b o e
theorem dpAll_take {K : PySem.W.Frag} {H : Hp} : ∀ {n : Nat} {ds : List PyData} {xs : List V}, DpAll K H xs ds → DpAll K H (xs.take n) (ds.take n)
  | 0, _, _, _ => by rw [List.take_zero, List.take_zero]; exact .nil
  | n + 1, [], _, h => by cases h; exact .nil
  | n + 1, _ :: _, _, h => by
    cases h with
    | cons h1 h2 => exact .cons h1 (dpAll_take h2)
/-- lc_it, the heap with the new list by another name -/
theorem lc_itB {J : It} {n : Nat} {Gp : Hp → Prop} {Y : Nat → Hp → V → Hp → Prop} (w : Walk J n Gp Y) {g : TG} {tt : TT} {te : TE} {vs : List Nat} {σ : L2.St} {Hb : Hp} {D : Addr} {Qd : Hp → Prop} (Pv : Nat → Hp → Prop) (h0 : Pv 0 Hb) (hG : ∀ i H, i ≤ n → Pv i H → Gp H)
    (hs : ∀ i x H H', i < n → Pv i H → Y i H x H' → g x (wipe σ vs) H' fun σ2 H2 => wipe σ2 vs = wipe σ vs ∧ tt σ2 H2 fun b H3 =>
      if b = true then te σ2 H3 fun y H4 => ∃ acc, H4 D = some (.lst acc) ∧ acc.length < sizeLine ∧ Pv (i + 1) (upd H4 D (.lst (acc ++ [y]))) else Pv (i + 1) H3) (hd : ∀ H, Pv n H → Qd H) :
    ∃ W : Nat → Nat → Hp → Prop, (∃ m, W 0 m Hb) ∧ ∀ i m H, W i m H → (J.stop i H ∧ Qd H) ∨ (J.go i H ∧ ∃ Nx : Hp → Prop, (∀ H', Nx H' → ∃ m', m' < m ∧ W (i + 1) m' H') ∧ ∀ x H', J.yld i H x H' → g x (wipe σ vs) H' fun σ2 H2 => wipe σ2 vs = wipe σ vs ∧ tt σ2 H2 fun b H3 =>
        if b = true then te σ2 H3 fun y H4 => ∃ acc, H4 D = some (.lst acc) ∧ acc.length < sizeLine ∧ Nx (upd H4 D (.lst (acc ++ [y]))) else Nx H3) :=
  it_walk w (B := fun Nx x H' => g x (wipe σ vs) H' fun σ2 H2 => wipe σ2 vs = wipe σ vs ∧ tt σ2 H2 fun b H3 => if b = true then te σ2 H3 fun y H4 => ∃ acc, H4 D = some (.lst acc) ∧ acc.length < sizeLine ∧ Nx (upd H4 D (.lst (acc ++ [y]))) else Nx H3) Pv h0 hG hs hd
theorem sqT_new {K : PySem.W.Frag} {G H : Hp} {p : Addr} {xs : List V} (np : H p = none) : SqT K (more G H (upd H p (.tup xs))) p xs := .inl (.of (by
  unfold more
  rw [if_pos np, upd_same]))
theorem slG {K : PySem.W.Frag} {G H : Hp} {a : Addr} {xs : List V} {lo hi : Option Int} {Q : VK} (g : Same G H) (h : SqT K G a xs) (k : ∀ (q : Addr) (H' : Hp), Same H H' → SqT K (more G H H') q (cutV xs lo hi) → Q (.ref q) H') : rSlA K (.ref a) lo hi H Q := by
  refine ⟨a, xs, rfl, sqT_same g h, fun ⟨e1, e2⟩ => ?_, fun _ p np => k p _ (same_upd np) (sqT_new np)⟩
  refine k a H (.refl _) ?_
  have : cutV xs lo hi = xs := by
    unfold cutV
    rw [e1, e2, List.drop_zero, Nat.sub_zero, List.take_length]
  rw [this]
  exact sqT_same (more_old g) h
theorem catG {K : PySem.W.Frag} {G H : Hp} {a b : Addr} {xs ys : List V} {Q : VK} (g : Same G H) (h1 : SqT K G a xs) (h2 : SqT K G b ys) (hl : xs.length + ys.length ≤ 1000) (k : ∀ (q : Addr) (H' : Hp), Same H H' → SqT K (more G H H') q (xs ++ ys) → Q (.ref q) H') : rCatA K (.ref a) (.ref b) H Q := by
  refine ⟨a, b, xs, ys, rfl, rfl, sqT_same g h1, sqT_same g h2, Nat.le_of_lt (small1000 hl), fun e => ?_, fun _ e => ?_, fun _ _ p np => k p _ (same_upd np) (sqT_new np)⟩
  · refine k b H (.refl _) ?_
    rw [e, List.nil_append]
    exact sqT_same (more_old g) h2
  · refine k a H (.refl _) ?_
    rw [e, List.append_nil]
    exact sqT_same (more_old g) h1
end HG

/-! parts put otherwise at one place; slices and sums of tuples off the bag -/
namespace HG
open PySem PySem.Spec PyProof.Rows L2 HF
theorem slO {K : PySem.W.Frag} {p : Addr} {H : Hp} {a : Addr} {xs : List V} {lo hi : Option Int} {Q : VK} (hp : H p ≠ none) (h : SqT K (off p H) a xs) (k : ∀ (q : Addr) (H' : Hp), Same H H' → SqT K (off p H') q (cutV xs lo hi) → Q (.ref q) H') : rSlA K (.ref a) lo hi H Q :=
  slG (G := off p H) (off_sub p H) h fun q H' s hq => k q H' s (sqT_same (more_off s hp) hq)
theorem catO {K : PySem.W.Frag} {p : Addr} {H : Hp} {a b : Addr} {xs ys : List V} {Q : VK} (hp : H p ≠ none) (h1 : SqT K (off p H) a xs) (h2 : SqT K (off p H) b ys) (hl : xs.length + ys.length ≤ 1000) (k : ∀ (q : Addr) (H' : Hp), Same H H' → SqT K (off p H') q (xs ++ ys) → Q (.ref q) H') : rCatA K (.ref a) (.ref b) H Q :=
  catG (G := off p H) (off_sub p H) h1 h2 hl fun q H' s hq => k q H' s (sqT_same (more_off s hp) hq)
/-- a new tuple, off the bag -/
theorem newO {K : PySem.W.Frag} {p q : Addr} {H : Hp} {xs : List V} (hp : H p ≠ none) (n : H q = none) : SqT K (off p (upd H q (.tup xs))) q xs := .inl (.of (by
  rw [off_ne (fun z : q = p => hp (z ▸ n))]
  exact upd_same))
theorem newL {K : PySem.W.Frag} {p q : Addr} {H : Hp} {xs : List V} (hp : H p ≠ none) (n : H q = none) : SqL K (off p (upd H q (.lst xs))) q xs := .inl (.of (by
  rw [off_ne (fun z : q = p => hp (z ▸ n))]
  exact upd_same))
theorem partsO {K : PySem.W.Frag} {p q T : Addr} {H : Hp} {a b : Nat} {ys : List V} {ws : List Voice} (hp : H p ≠ none) (hq : SqL K (off p H) q ys) (h : DpAll K (off p H) ys (ws.map voiceD)) (n : H T = none) : Dp K (off p (upd H T (.tup [.int (a : Int), .int (b : Int), .ref q]))) (.ref T) (partsD ⟨a, b, ws⟩) :=
  have s := off_same (p := p) (same_upd (o := .tup [.int (a : Int), .int (b : Int), .ref q]) n)
  .tup (newO hp n) (.cons (.int _) (.cons (.int _) (.cons (.lst (s.seq hq) (dpAll_same s _ _ h)) .nil)))
theorem voiceO {K : PySem.W.Frag} {p T : Addr} {H : Hp} {z : Str} {x y : V} {es : List Str} {ts : List (List Nat)} (hp : H p ≠ none) (hx : Dp K (off p H) x (.tuple (es.map PyData.str))) (hy : Dp K (off p H) y (.tuple (ts.map tabD))) (n : H T = none) : Dp K (off p (upd H T (.tup [.str z, x, y]))) (.ref T) (voiceD ⟨z, es, ts⟩) :=
  have s := off_same (p := p) (same_upd (o := .tup [.str z, x, y]) n)
  .tup (newO hp n) (.cons (.str _) (.cons (dp_same s _ _ hx) (.cons (dp_same s _ _ hy) .nil)))
theorem cutV_drop1 (l : List V) (a : Nat) : cutV l (some ((a : Int) + 1)) none = l.drop (a + 1) := by
  rw [show ((a : Int) + 1) = ((a + 1 : Nat) : Int) by omega]
  exact cutV_drop l (a + 1)
theorem dpAll_drop {K : PySem.W.Frag} {H : Hp} : ∀ {xs : List V} {ds : List PyData} (n : Nat), DpAll K H xs ds → DpAll K H (xs.drop n) (ds.drop n)
  | _, _, 0, h => h
  | [], _, n + 1, h => by cases h; exact .nil
  | x :: xs, _, n + 1, h => by cases h with | cons h1 h2 => exact dpAll_drop n h2
/-- a list with one thing otherwise -/
def putL {α : Type} (l : List α) (i : Nat) (x : α) : List α := l.take i ++ [x] ++ l.drop (i + 1)
theorem putL_len {α : Type} {l : List α} {i : Nat} {x : α} (h : i < l.length) : (putL l i x).length = l.length := by
  unfold putL
  simp
  omega
theorem putL_mem {α : Type} {l : List α} {i : Nat} {x y : α} (h : y ∈ putL l i x) : y = x ∨ y ∈ l := by
  unfold putL at h
  rcases List.mem_append.mp h with h | h
  · rcases List.mem_append.mp h with h | h
    · exact .inr (List.mem_of_mem_take h)
    · exact .inl (List.mem_singleton.mp h)
  · exact .inr (List.mem_of_mem_drop h)
theorem putL_map {α β : Type} (f : α → β) (l : List α) (i : Nat) (x : α) : (putL l i x).map f = putL (l.map f) i (f x) := by
  unfold putL
  simp [List.map_take, List.map_drop]
theorem putL_same {α : Type} {l : List α} {i : Nat} {x : α} (h : l[i]? = some x) : putL l i x = l := by
  obtain ⟨hi, rfl⟩ := List.getElem?_eq_some_iff.mp h
  unfold putL
  rw [List.append_assoc, List.singleton_append, List.getElem_cons_drop, List.take_append_drop]
theorem dpAll_put {K : PySem.W.Frag} {H : Hp} {xs : List V} {ds : List PyData} {x : V} {d : PyData} (i : Nat) (h : DpAll K H xs ds) (hx : Dp K H x d) : DpAll K H (xs.take i ++ [x] ++ xs.drop (i + 1)) (putL ds i d) :=
  dpAll_app (dpAll_app (dpAll_take h) (.cons hx .nil)) (dpAll_drop (i + 1) h)
def setP (P : Parts) (i : Nat) (c : Voice) : Parts := ⟨P.pace, P.notes, putL P.voices i c⟩
theorem setP_ok {P : Parts} {lim i : Nat} {c c' : Voice} (ok : P.Ok lim) (h : P.voices[i]? = some c) (hn : c'.name = c.name) (he : c'.elders.length = P.pace ∧ ∀ e ∈ c'.elders, e ∈ P.names) (ht : c'.tables.length = P.pace ∧ ∀ t ∈ c'.tables, TabOk P.notes t) : (setP P i c').Ok lim := by
  have hi : i < P.voices.length := (List.getElem?_eq_some_iff.mp h).1
  have en : (setP P i c').names = P.names := by
    show (putL P.voices i c').map (·.name) = P.voices.map (·.name)
    rw [putL_map, hn]
    exact putL_same (by rw [List.getElem?_map, h]; rfl)
  have el : (setP P i c').voices.length = P.voices.length := putL_len hi
  refine ⟨ok.p2, ok.p4, ok.n2, ok.n5, by rw [el]; exact ok.v1, by rw [el]; exact ok.v6, by rw [el]; exact ok.size, by rw [en]; exact ok.nodup, by rw [en]; exact ok.sorted, by rw [en]; exact ok.good, ?_, ?_⟩
  · intro v hv
    rw [en]
    rcases putL_mem hv with rfl | hv
    · exact he
    · exact ok.elds v hv
  · intro v hv
    rcases putL_mem hv with rfl | hv
    · exact ht
    · exact ok.tabs v hv
def zzq : Str := Str.ofString "zzq"
/-- one voice that is its own elder -/
def zzP (P : Parts) (c : Voice) : Parts := ⟨P.pace, P.notes, [⟨zzq, List.replicate P.pace zzq, c.tables⟩]⟩
theorem zzP_ok {P : Parts} {lim : Nat} {c : Voice} (ok : P.Ok lim) (h : P.voices = [c]) : (zzP P c).Ok lim := by
  have h1 : P.voices.length = 1 := by rw [h]; rfl
  have hsz := ok.size
  rw [h1] at hsz
  refine ⟨ok.p2, ok.p4, ok.n2, ok.n5, Nat.le_refl 1, (by show 1 ≤ 6; decide), hsz, ?_, ?_, ?_, ?_, ?_⟩
  · show [zzq].Nodup
    simp
  · show sortedS [zzq] = true
    rfl
  · intro z hz
    obtain rfl := List.mem_singleton.mp hz
    refine ⟨(by show 1 ≤ zzq.length; decide), (by show zzq.length ≤ 8; decide), ?_⟩
    intro c hc
    have : c ∈ [122, 122, 113] := hc
    simp at this
    omega
  · intro v hv
    obtain rfl := List.mem_singleton.mp hv
    exact ⟨List.length_replicate, fun e he => by rw [List.eq_of_mem_replicate he]; exact List.mem_singleton.mpr rfl⟩
  · intro v hv
    obtain rfl := List.mem_singleton.mp hv
    exact ok.tabs c (by rw [h]; exact List.mem_singleton.mpr rfl)
/-- the same parts, or put otherwise at one place: of a right choir, in some order -/
def spOther (K : PySem.W.Frag) : Sp := fun vs H Q _ => ∃ (p : Addr) (v : V) (P : Parts), vs = [.ref p, v] ∧ Bag H p ∧ Dp K (off p H) v (partsD P) ∧ P.Ok 64 ∧
  ∀ (v' : V) (H' : Hp) (P' : Parts) (ws : List Voice), Stp p H H' → Dp K (off p H') v' (partsD ⟨P'.pace, P'.notes, ws⟩) → ws.Perm P'.voices → P'.Ok 64 → Q v' H'
end HG

/-! the whole choir: its standings, their numbers, where they lead -/
namespace HG
open PySem PySem.Spec PyProof.Rows L2
theorem rows_nodup (n : Nat) : ∀ m, (rowsL n m).Nodup
  | 0 => by show [[]].Nodup; simp
  | m + 1 => by
    have ih := rows_nodup n m
    show ((rowsL n m).flatMap fun row => (List.range n).map fun d => row ++ [d]).Nodup
    unfold List.Nodup at ih ⊢
    rw [List.pairwise_flatMap]
    refine ⟨fun row hr => ?_, ih.imp_of_mem fun {a b} ha hb hne => ?_⟩
    · rw [List.pairwise_map]
      refine List.pairwise_lt_range.imp fun {x y} h e => ?_
      have := List.append_cancel_left e
      rw [List.singleton_inj] at this
      omega
    · intro x hx y hy e
      obtain ⟨d, _, rfl⟩ := List.mem_map.mp hx
      obtain ⟨d', _, rfl⟩ := List.mem_map.mp hy
      have h2 : a = b := by
        have hl : a.length = b.length := by rw [(rows_mem.mp ha).1, (rows_mem.mp hb).1]
        exact (List.append_inj e hl).1
      exact hne h2
def NewA (H : Hp) (xs : List V) : Prop := ∀ x ∈ xs, ∃ a, x = V.ref a ∧ H a = none
def spRowsN : Sp := fun vs H Q _ => ∃ n m : Nat, vs = [.int (n : Int), .int (m : Int)] ∧ 1 ≤ n ∧ n ≤ 5 ∧ m ≤ 6 ∧ n ^ m ≤ 64 ∧ ∀ (q : Addr) (H' : Hp) (xs : List V), Same H H' → H q = none → H' q = some (.lst xs) → TrAll (fresh H H') xs (rowsL n m) → Q (.ref q) H'
/-- the standings, in their order -/
def stsP (P : Parts) : List (List Nat) := rowsL P.notes P.voices.length
def numP (P : Parts) (st : List Nat) : Nat := (stsP P).idxOf st
theorem stsP_mem {P : Parts} {st : List Nat} : st ∈ stsP P ↔ StOk P st := rows_mem
theorem numP_at {P : Parts} {st : List Nat} (h : StOk P st) : (stsP P)[numP P st]? = some st := by
  have hm := stsP_mem.mpr h
  unfold numP
  rw [List.getElem?_eq_getElem (List.idxOf_lt_length_of_mem hm), List.getElem_idxOf]
theorem numP_of {P : Parts} {st : List Nat} {k : Nat} (h : (stsP P)[k]? = some st) : numP P st = k := by
  have hk := (List.getElem?_eq_some_iff.mp h).1
  have hs := stsP_mem.mp (List.mem_of_getElem? h)
  have := numP_at hs
  exact (List.getElem?_inj (List.getElem?_eq_some_iff.mp this).1 (rows_nodup _ _)).mp (this.trans h.symm)
theorem numP_inj {P : Parts} {a b : List Nat} (ha : StOk P a) (hb : StOk P b) (e : numP P a = numP P b) : a = b := by
  have h1 := numP_at ha
  rw [e, numP_at hb] at h1
  exact (Option.some.inj h1).symm
theorem numP_lt {P : Parts} {st : List Nat} (h : StOk P st) : numP P st < (stsP P).length := (List.getElem?_eq_some_iff.mp (numP_at h)).1
theorem stsP_len {P : Parts} {lim : Nat} (ok : P.Ok lim) (hl : lim ≤ 64) : (stsP P).length ≤ 64 := by
  unfold stsP
  rw [rows_len]
  exact Nat.le_trans ok.size hl
/-- where the standings lead, by their numbers -/
def stepsP (P : Parts) (st : List Nat) : List Nat := (List.range P.pace).map fun r => numP P (ledL P st r)
structure Rst (K : PySem.W.Frag) (G : Hp) (P : Parts) (fs : List (Str × V)) (rl ll : Addr) : Prop where
  stand : ∃ sl rs, fs.lookup ("_standings" : Str) = some (.ref sl) ∧ G sl = some (.lst rs) ∧ TrAll G rs (stsP P)
  nums : ∃ nl ns, fs.lookup ("_numbers" : Str) = some (.ref nl) ∧ G nl = some (.dT ns) ∧ ∀ st, StOk P st → valV ns (keyT st) = some (.int (numP P st : Int))
  steps : ∃ tl ss, fs.lookup ("_steps" : Str) = some (.ref tl) ∧ G tl = some (.tup ss) ∧ ss.length = (stsP P).length ∧ ∀ (k : Nat) (st : List Nat), (stsP P)[k]? = some st → ∃ b, ss[k]? = some (.ref b) ∧ G b = some (.tup (nVs (stepsP P st)))
  rch : fs.lookup ("_reached" : Str) = some (.ref rl)
  lev : fs.lookup ("_levels" : Str) = some (.ref ll)
theorem Rst.same {K : PySem.W.Frag} {G G' : Hp} {P : Parts} {fs : List (Str × V)} {rl ll : Addr} (s : Same G G') (h : Rst K G P fs rl ll) : Rst K G' P fs rl ll := by
  obtain ⟨⟨sl, rs, a1, a2, a3⟩, ⟨nl, ns, b1, b2, b3⟩, ⟨tl, ss, c1, c2, c3, c4⟩, d, e⟩ := h
  exact ⟨⟨sl, rs, a1, s _ _ a2, a3.same s⟩, ⟨nl, ns, b1, s _ _ b2, b3⟩, ⟨tl, ss, c1, s _ _ c2, c3, fun k st q => let ⟨b, h1, h2⟩ := c4 k st q; ⟨b, h1, s _ _ h2⟩⟩, d, e⟩
/-- a choir; what it keeps of waits lies at rl, of hits at ll -/
def AtF (K : PySem.W.Frag) (C : Addr) (G : Hp) (x : Addr) (P : Parts) (rl ll : Addr) : Prop := AtC K C G x P ∧ ∃ dx fs, G x = some (.ins C dx fs) ∧ Rst K G P fs rl ll
theorem AtF.same {K : PySem.W.Frag} {C : Addr} {G G' : Hp} {x : Addr} {P : Parts} {rl ll : Addr} (s : Same G G') (h : AtF K C G x P rl ll) : AtF K C G' x P rl ll := ⟨atC_k.mono s h.1, let ⟨dx, fs, e, r⟩ := h.2; ⟨dx, fs, s _ _ e, r.same s⟩⟩
/-- a new choir: it keeps nothing yet -/
def AtN (K : PySem.W.Frag) (C : Addr) : Hp → Addr → Parts → Prop := fun G x P => ∃ rl ll, AtF K C G x P rl ll ∧ G rl = some (.dK []) ∧ G ll = some (.dK []) ∧ rl ≠ ll
theorem atN_k {K : PySem.W.Frag} {C : Addr} : ChoirK C (AtN K C) :=
  ⟨fun {G G' x P} s ⟨rl, ll, h, h1, h2, h3⟩ => ⟨rl, ll, h.same s, s _ _ h1, s _ _ h2, h3⟩, fun {G x P} ⟨_, _, h, _⟩ => atC_k.ins h.1⟩
/-! ### off an empty dict -/
section
variable {K : PySem.W.Frag} {G : Hp} {d b : Addr} {kvs : List (Key × V)}
theorem offd_at {o : HO} (hd : G d = some (.dK kvs)) (h : G b = some o) (n : o ≠ .dK kvs) : off d G b = some o := by
  rw [off_ne fun z => n (by rw [z, hd] at h; exact (Option.some.inj h).symm)]
  exact h
theorem sqT_off {xs : List V} (hd : G d = some (.dK kvs)) (h : SqT K G b xs) : SqT K (off d G) b xs := by
  rcases h with (h | ⟨q, h⟩) | h
  · exact .inl (.inl (offd_at hd h nofun))
  · exact .inl (.inr ⟨q, offd_at hd h nofun⟩)
  · exact .inr h
theorem sqL_off {xs : List V} (hd : G d = some (.dK kvs)) (h : SqL K G b xs) : SqL K (off d G) b xs := by
  rcases h with (h | ⟨q, h⟩) | h
  · exact .inl (.inl (offd_at hd h nofun))
  · exact .inl (.inr ⟨q, offd_at hd h nofun⟩)
  · exact .inr h
mutual
theorem dp_off (hd : G d = some (.dK kvs)) : ∀ {v : V} {e : PyData}, Dp K G v e → Dp K (off d G) v e
  | _, _, .non => .non
  | _, _, .bl b => .bl b
  | _, _, .int i => .int i
  | _, _, .str x => .str x
  | _, _, .lst h a => .lst (sqL_off hd h) (dpAll_off hd a)
  | _, _, .tup h a => .tup (sqT_off hd h) (dpAll_off hd a)
theorem dpAll_off (hd : G d = some (.dK kvs)) : ∀ {vs : List V} {es : List PyData}, DpAll K G vs es → DpAll K (off d G) vs es
  | _, _, .nil => .nil
  | _, _, .cons h a => .cons (dp_off hd h) (dpAll_off hd a)
end
theorem trT_off {v : V} {t : List Nat} (hd : G d = some (.dK kvs)) (h : TrT G v t) : TrT (off d G) v t := let ⟨a, e, q⟩ := h; ⟨a, e, offd_at hd q nofun⟩
theorem atC_off {C x : Addr} {P : Parts} (v1 : 1 ≤ P.voices.length) (hd : G d = some (.dK [])) (h : AtC K C G x P) : AtC K C (off d G) x P := by
  obtain ⟨dx, fs, wl, ws, ⟨h1, h2, h3, h4, ⟨vl, xs, a1, a2, a3⟩, ⟨nl, b1, b2⟩, ⟨pl, pk, c1, c2, c3⟩⟩, w1, w2, w3⟩ := h
  have hp : (HO.dK pk) ≠ .dK [] := fun e => by
    cases e
    have hz : P.names[0]? = some (P.names[0]'(by unfold Parts.names; rw [List.length_map]; omega)) := List.getElem?_eq_getElem _
    have := c3 0 _ hz
    cases this
  exact ⟨dx, fs, wl, ws, ⟨offd_at hd h1 nofun, h2, h3, h4, ⟨vl, xs, a1, offd_at hd a2 nofun, dpAll_off hd a3⟩, ⟨nl, b1, offd_at hd b2 nofun⟩, ⟨pl, pk, c1, offd_at hd c2 hp, c3⟩⟩, w1, offd_at hd w2 nofun, fun st hs => let ⟨v, q, a, ts, e, e1, e2, e3⟩ := w3 st hs; ⟨v, q, a, ts, e, offd_at hd e1 nofun, e2, fun r hr => let ⟨y, f1, f2⟩ := e3 r hr; ⟨y, f1, trT_off hd f2⟩⟩⟩
theorem atF_off {C x : Addr} {P : Parts} {rl ll : Addr} (v1 : 1 ≤ P.voices.length) (hd : G d = some (.dK [])) (h : AtF K C G x P rl ll) : AtF K C (off d G) x P rl ll := by
  obtain ⟨h0, dx, fs, hx, ⟨sl, rs, a1, a2, a3⟩, ⟨nl, ns, b1, b2, b3⟩, ⟨tl, ss, c1, c2, c3, c4⟩, e1, e2⟩ := h
  exact ⟨atC_off v1 hd h0, dx, fs, offd_at hd hx nofun, ⟨⟨sl, rs, a1, offd_at hd a2 nofun, a3.1, fun k y q => let ⟨t, f1, f2⟩ := a3.2 k y q; ⟨t, f1, trT_off hd f2⟩⟩, ⟨nl, ns, b1, offd_at hd b2 nofun, b3⟩, ⟨tl, ss, c1, offd_at hd c2 nofun, c3, fun k st q => let ⟨b, f1, f2⟩ := c4 k st q; ⟨b, f1, offd_at hd f2 nofun⟩⟩, e1, e2⟩⟩
end
end HG

/-! sets of ints of any size: made of a list, sorted -/
namespace HG
open PySem PySem.Spec PyProof.Rows L2
theorem check_sorted (a : Value) : checkBuiltinCall "sorted" { pos := [a] } = pure () := by
  unfold checkBuiltinCall
  rw [kind_sorted]
  exact args_sorted1 a
theorem ints_keys : ∀ {l : List (Int × Value)}, (∀ e ∈ l, GoodE e) → IntsAre (l.map (·.2)) (l.map L2.keyOf)
  | [], _ => ints_of _ (fun v hv => nomatch hv)
  | e :: l, h => by
    have h1 := ints_of ((e :: l).map (·.2)) (fun v hv => by
      obtain ⟨e', he', rfl⟩ := List.mem_map.mp hv
      obtain ⟨k, tk, h1, h2⟩ := h e' he'
      exact ⟨k, tk, h1⟩)
    have h2 : ((e :: l).map (·.2)).map Builtin.Re.reRawOf = (e :: l).map L2.keyOf := by
      rw [List.map_map]
      apply List.map_congr_left
      intro e' he'
      obtain ⟨k, tk, h1, h2⟩ := h e' he'
      show Builtin.Re.reRawOf e'.2 = L2.keyOf e'
      unfold L2.keyOf
      rw [h1]
      rfl
    rw [h2] at h1
    exact h1
theorem lt_get {h : Heap} {b : Addr} {o : Obj} (e : h.get? b = some o) : b < h.objs.size := by
  by_cases c : b < h.objs.size
  · exact c
  · unfold Heap.get? at e
    rw [Array.getElem?_eq_none (Nat.not_lt.mp c)] at e
    cases e
theorem sorted_setAny {P : Program} {w : World} {A : Around} {E : Value → Shared → Prop} {s : Shared} {a : Addr} {S : Int → Bool} {n : Nat} {Q : Value → Shared → Prop} (hs : SetR w s.heap a S n) (hh : A.handled = none) (hn : n ≤ sizeLine)
    (k : ∀ (s' : Shared) (p : Nat) (out : Array Value) (c : Nat) (ns : List Int), (∀ (b : Addr) (o : Obj), s.heap.get? b = some o → s'.heap.get? b = some o) → s'.gens = s.gens → s'.os = s.os → s.heap.objs.size ≤ p → s'.heap.get? p = some (seqObj "list" out c) → IntsAre out.toList ns → ns.Pairwise (· < ·) → (∀ k : Int, k ∈ ns ↔ S k = true) → ns.length = n → Q (.ref p) s') :
    wpAny (model P w) A (call (.builtin "sorted") [.ref a]) Q E s := by
  obtain ⟨o, es, ep, t, ho, hx, hd, hg, hnd, hS, hb, hf, hsz, hr, hl⟩ := hs
  apply wpAny_call
  apply codeAny_call_builtin plain_sorted entry_sorted
  rw [check_sorted]
  refine wpAny_pure ?_
  unfold Builtin.sorted
  refine wpAny_bind ?_
  have e1 : (checkCount "sorted" 1 1 [Value.ref a].length : Sem Unit) = pure () := rfl
  rw [e1]
  refine wpAny_pure ?_
  refine wpAny_bind ?_
  refine collect_set (a := a) (es := es) (ep := ep) (t := t) hh ⟨o, ho, hx.1, hd⟩ hf hb hr hl ?_
  intro s' out k1 k2 k3 k4 hp
  have hol : out.length = n := by rw [hp.length_eq, List.length_map, Array.length_toList, hsz]
  have hints := ints_keys hg
  have hgood : ∀ v ∈ out, ∃ i tk, v = Value.int i tk := fun v hv => by
    obtain ⟨e, he, rfl⟩ := List.mem_map.mp (hp.mem_iff.mp hv)
    obtain ⟨i, tk, h1, h2⟩ := hg e he
    exact ⟨i, tk, h1⟩
  have hout := ints_of out hgood
  refine wpAny_bind ?_
  refine wpAny_newList ?_ (by omega)
  have hnew : (s'.heap.push (seqObj "list" out.toArray 0)).get? s'.heap.objs.size = some (seqObj "list" out.toArray 0) := Heap.get?_push_size _ rfl
  refine wpAny_bind (wpAny_holding ?_)
  refine wpAny_call_entry_kw slot_list_sort ⟨_, hnew, rfl⟩ entry_list_sort ?_ (args_list_sort _)
  refine SrtO.list_sort_ord (n := 0) SrtO.swo_int hnew (by omega) (fun h2 => SrtO.ints_sortable hout h2) ?_
  intro res h1 h2
  obtain ⟨z1, z2, z3⟩ := SrtO.ints_out hout h1 h2
  refine ⟨_, rfl, ?_⟩
  have hperm : (out.map Builtin.Re.reRawOf).Perm (es.toList.map L2.keyOf) := by
    have e2 : (es.toList.map (·.2)).map Builtin.Re.reRawOf = es.toList.map L2.keyOf := by
      rw [List.map_map]
      apply List.map_congr_left
      intro e' he'
      obtain ⟨k, tk, h1, h2⟩ := hg e' he'
      show Builtin.Re.reRawOf e'.2 = L2.keyOf e'
      unfold L2.keyOf
      rw [h1]
      rfl
    rw [← e2]
    exact hp.map _
  have hnod : (res.map SrtO.iv).Nodup := (z2.trans hperm).nodup_iff.mpr hnd
  refine wpAny_pure ?_
  obtain ⟨c, hc⟩ := sortedHeap_at (vs := out) (out := res.toArray) hnew
  refine k _ s'.heap.objs.size res.toArray c (res.map SrtO.iv) ?_ k3 k4 k2 hc (by simpa using z1) ?_ ?_ ?_
  · intro b o' hbo
    have hb1 := k1 b o' hbo
    have hlt : b < s'.heap.objs.size := lt_get hb1
    have hlt2 : b < (s'.heap.push (seqObj "list" out.toArray 0)).objs.size := by
      show b < (s'.heap.objs.push _).size
      rw [Array.size_push]
      exact Nat.lt_succ_of_lt hlt
    exact (sortedHeap_old (h := s'.heap.push (seqObj "list" out.toArray 0)) (a := s'.heap.objs.size) (vs := out) (out := res.toArray) (Nat.ne_of_lt hlt) hlt2).trans (Heap.get?_push_of_some _ hb1)
  · exact (List.Pairwise.and z3 hnod).imp fun h => by
      have h1 := h.1
      have h2 := h.2
      omega
  · intro i
    rw [(z2.trans hperm).mem_iff]
    exact (hS i).symm
  · rw [(z2.trans hperm).length_eq, List.length_map, Array.length_toList, hsz]
/-- sorted(s) of a set of ints, of any size -/
def rSortedSetAny (w : World) : List V → Hp → VK → Prop := fun xs H Q => ∃ (a : Addr) (S : Int → Bool) (n : Nat), xs = [.ref a] ∧ H a = some (SetO w a S n) ∧ n ≤ sizeLine ∧ ∀ (ns : List Int) (p : Addr), ns.Pairwise (· < ·) → (∀ k : Int, k ∈ ns ↔ S k = true) → ns.length = n → H p = none → Q (.ref p) (upd H p (.lst (ns.map V.int)))
theorem inv_drawn {X : Cx} {pins : List (Addr × Obj)} {σ : L2.St} {H : Hp} {s s' : Shared} (I : L2.Inv X pins σ H s) (h1 : s'.heap = s.heap) (h2 : s'.gens = s.gens) (h3 : s'.os = s.os) : L2.Inv X pins σ H s' := by
  obtain ⟨a1, a2, a3, a4, a5, a6, a7, a8, a9, a10, a11⟩ := I
  refine ⟨a1, ?_, ?_, ?_, ?_, ?_, a7, a8, ?_, ?_, a11⟩
  · rw [h3]; exact a2
  · rw [h2]; exact a3
  · rw [h1]; exact a4
  · rw [h1]; exact a5
  · rw [h1]; exact a6
  · rw [h1]; exact a9
  · rw [h1]; exact a10
theorem cr_sortedSetAny {X : Cx} (hc : X.calm = true) : CallR X (.builtin "sorted") (rSortedSetAny X.w) := by
  intro pins s σ H xs us Q I r h
  obtain ⟨a, S, n, rfl, ha, hn, k⟩ := h
  obtain ⟨u, rfl, rx⟩ := vals1 r
  cases rx
  refine sorted_setAny (setO_get I ha) (I.ok.hd hc) hn ?_
  intro s' p out c ns k1 k2 k3 hp hg hi hpw hmem hlen
  have hpn : H p = none := by
    cases e : H p with
    | none => rfl
    | some u => exact absurd (I.hok.lt e) (Nat.not_lt.mpr hp)
  refine ⟨.ref p, upd H p (.lst (ns.map V.int)), ?_, rfl, k ns p hpw hmem hlen hpn⟩
  refine inv_drawn (I.laid (h' := s'.heap) (a := p) (o := .lst (ns.map V.int)) (t' := s'.toks) k1 hp ?_) rfl k2 k3
  exact ⟨by rw [List.length_map, hlen]; exact hn, out.toList, c, vals_ints hi, by simpa using hg⟩
end HG

/-! a song's parts, as the laws make them -/
namespace HG
open PySem PySem.Spec PyProof.Rows L2 HF
structure SongD where
  first : List Nat
  puts : List (Nat × Str × Nat)
  stops : List Nat
def putD (r : Nat × Str × Nat) : PyData := .tuple [.int (r.1 : Int), .str r.2.1, .int (r.2.2 : Int)]
def keyD (r : Nat × Str × Nat) : PyData := .tuple [.int (r.1 : Int), .str r.2.1]
def putKey (r : Nat × Str × Nat) : Nat × Str := (r.1, r.2.1)
def PutOk (P : Parts) (far : Nat) (r : Nat × Str × Nat) : Prop := r.1 ≤ far ∧ r.2.1 ∈ P.names ∧ r.2.2 < P.notes
structure SongOk (P : Parts) (S : SongD) (a b far : Nat) : Prop where
  first : StOk P S.first
  puts : ∀ r ∈ S.puts, PutOk P far r
  putN : (S.puts.map putKey).Nodup
  putL : S.puts.length ≤ a
  stops : ∀ d ∈ S.stops, d ≤ far
  stopN : S.stops.Nodup
  stopL : S.stops.length ≤ b
def SongAt (K : PySem.W.Frag) (G : Hp) (v : V) (S : SongD) : Prop := ∃ (d a pl sl : Addr) (xs : List V), v = .ref d ∧ G d = some (.dK [(.inr "first", .ref a), (.inr "puts", .ref pl), (.inr "stops", .ref sl)]) ∧ G a = some (.tup (nVs S.first)) ∧ G pl = some (.lst xs) ∧ DpAll K G xs (S.puts.map putD) ∧ G sl = some (.lst (nVs S.stops))
theorem songAt_same {K : PySem.W.Frag} {G G' : Hp} (s : Same G G') {v : V} {S : SongD} (h : SongAt K G v S) : SongAt K G' v S := by
  obtain ⟨d, a, pl, sl, xs, e, h0, h1, h2, h3, h4⟩ := h
  exact ⟨d, a, pl, sl, xs, e, s _ _ h0, s _ _ h1, s _ _ h2, dpAll_same s _ _ h3, s _ _ h4⟩
theorem strOk_good {z : Str} (h : GoodN z) : PyData.strOk z = true := by
  unfold PyData.strOk
  rw [← Array.all_toList, List.all_eq_true]
  intro c hc
  have := h.2.2 c hc
  exact decide_eq_true (by omega)
theorem canlay_key {r : Nat × Str × Nat} (h : PyData.strOk r.2.1 = true) : PyData.canLay0 (keyD r) = true := by
  simp [keyD, PyData.canLay0, PyData.canLayAll0, h]
theorem keyD_inj {r q : Nat × Str × Nat} (hs : PyData.strOk q.2.1 = true) (h : PyData.eqv (keyD r) (keyD q) = false) : putKey r ≠ putKey q := fun e => by
  have : keyD r = keyD q := by
    have e1 : r.1 = q.1 := congrArg (·.1) e
    have e2 : r.2.1 = q.2.1 := congrArg (·.2) e
    unfold keyD
    rw [e1, e2]
  rw [this] at h
  rw [SeqAt.eqv_refl _ (canlay_key hs)] at h
  cases h
theorem shaped_key {r : Nat × Str × Nat} (h : PyData.strOk r.2.1 = true) : SeqAt.shaped (keyD r) = true := by
  show (PyData.canLay0 (keyD r) && decide (PyData.depth (keyD r) ≤ 64)) = true
  rw [canlay_key h]
  rfl
theorem shaped_keys {rs : List (Nat × Str × Nat)} (h : ∀ r ∈ rs, PyData.strOk r.2.1 = true) : SeqAt.shaped (.list (rs.map keyD)) = true := (shaped_list fun d hd => by
  obtain ⟨r, hr, rfl⟩ := List.mem_map.mp hd
  exact ⟨canlay_key (h r hr), by show 1 ≤ 40; decide⟩).2
def spSong (K : PySem.W.Frag) : Sp := fun vs H Q _ => ∃ (p : Addr) (v sv : V) (P : Parts) (lim a b far : Nat), vs = [.ref p, v, sv, .int (far : Int)] ∧ Bag H p ∧ Dp K (off p H) v (partsD P) ∧ P.Ok lim ∧ Dp K (off p H) sv (.tuple [.int (a : Int), .int (b : Int)]) ∧ a ≤ 60 ∧ b ≤ 60 ∧ far < 2 ^ 500 ∧
  ∀ (x : V) (H' : Hp) (S : SongD), Stp p H H' → SongAt K (fresh H H') x S → SongOk P S a b far → Q x H'
end HG

/-! what a song sings: mathematics -/
namespace HG
open PySem PySem.Spec PyProof.Rows L2 HF
abbrev Put := Nat × Str × Nat
/-- the note of a cue at a beat by a name -/
def cueAt (ps : List Put) (b : Nat) (z : Str) : Option Nat := (ps.find? fun r => decide (r.1 = b ∧ r.2.1 = z)).map (·.2.2)
theorem cueAt_mem {ps : List Put} {b : Nat} {z : Str} {n : Nat} (h : cueAt ps b z = some n) : (b, z, n) ∈ ps := by
  unfold cueAt at h
  cases e : ps.find? fun r => decide (r.1 = b ∧ r.2.1 = z) with
  | none => rw [e] at h; cases h
  | some r =>
    rw [e] at h
    have h1 := List.find?_some e
    have h2 := of_decide_eq_true h1
    obtain ⟨r1, r2, r3⟩ := r
    obtain ⟨rfl, rfl⟩ := h2
    cases h
    exact List.mem_of_find?_eq_some e
theorem cueAt_of {ps : List Put} (nd : (ps.map putKey).Nodup) {b : Nat} {z : Str} {n : Nat} (h : (b, z, n) ∈ ps) : cueAt ps b z = some n := by
  induction ps with
  | nil => cases h
  | cons r ps ih =>
    rw [List.map_cons] at nd
    have nd' := List.nodup_cons.mp nd
    unfold cueAt
    by_cases c : r.1 = b ∧ r.2.1 = z
    · rw [List.find?_cons_of_pos (by exact decide_eq_true c)]
      rcases List.mem_cons.mp h with e | e
      · rw [← e]; rfl
      · have : putKey r ∈ ps.map putKey := List.mem_map.mpr ⟨_, e, by show (b, z) = (r.1, r.2.1); rw [c.1, c.2]⟩
        exact absurd this nd'.1
    · rw [List.find?_cons_of_neg (by rw [decide_eq_false c]; exact nofun)]
      rcases List.mem_cons.mp h with e | e
      · rw [← e] at c
        exact absurd ⟨rfl, rfl⟩ c
      · exact ih nd'.2 e
theorem cueAt_perm {ps qs : List Put} (p : ps.Perm qs) (nd : (ps.map putKey).Nodup) (b : Nat) (z : Str) : cueAt ps b z = cueAt qs b z := by
  have nq : (qs.map putKey).Nodup := (p.map putKey).nodup_iff.mp nd
  cases e : cueAt ps b z with
  | some n => exact (cueAt_of nq (p.mem_iff.mp (cueAt_mem e))).symm
  | none =>
    cases e2 : cueAt qs b z with
    | none => rfl
    | some n => rw [cueAt_of nd (p.mem_iff.mpr (cueAt_mem e2))] at e; cases e
theorem cueAt_no {ps : List Put} {b : Nat} (h : b ∉ ps.map (·.1)) (z : Str) : cueAt ps b z = none := by
  cases e : cueAt ps b z with
  | none => rfl
  | some n => exact absurd (List.mem_map.mpr ⟨_, cueAt_mem e, rfl⟩) h
/-- the standing with the cues of a beat -/
def pinL (P : Parts) (ps : List Put) (b : Nat) (st : List Nat) : List Nat := (P.names.zip st).map fun x => (cueAt ps b x.1).getD x.2
theorem names_len (P : Parts) : P.names.length = P.voices.length := List.length_map ..
theorem pin_len {P : Parts} {ps : List Put} {b : Nat} {st : List Nat} (h : st.length = P.voices.length) : (pinL P ps b st).length = P.voices.length := by
  unfold pinL
  rw [List.length_map, List.length_zip, names_len, h, Nat.min_self]
theorem pin_get {P : Parts} {ps : List Put} {b : Nat} {st : List Nat} {i : Nat} {z : Str} {d : Nat} (hz : P.names[i]? = some z) (hd : st[i]? = some d) : (pinL P ps b st)[i]? = some ((cueAt ps b z).getD d) := by
  unfold pinL
  rw [List.getElem?_map, (List.getElem?_zip_eq_some (z := (z, d))).mpr ⟨hz, hd⟩]
  rfl
theorem pin_ok {P : Parts} {ps : List Put} {b : Nat} {st : List Nat} (h : StOk P st) (hp : ∀ r ∈ ps, r.2.2 < P.notes) : StOk P (pinL P ps b st) := by
  refine ⟨pin_len h.1, fun d hd => ?_⟩
  obtain ⟨⟨z, e⟩, hx, rfl⟩ := List.mem_map.mp hd
  cases q : cueAt ps b z with
  | none => exact h.2 e (List.of_mem_zip hx).2
  | some n => exact hp _ (cueAt_mem q)
theorem pin_same {P : Parts} {ps : List Put} {b : Nat} {st : List Nat} (h : st.length = P.voices.length) (hc : ∀ z, cueAt ps b z = none) : pinL P ps b st = st := by
  refine List.ext_getElem? fun i => ?_
  by_cases c : i < st.length
  · rw [pin_get (z := P.names[i]'(by rw [names_len]; omega)) (List.getElem?_eq_getElem _) (List.getElem?_eq_getElem c), hc, List.getElem?_eq_getElem c]
    rfl
  · rw [List.getElem?_eq_none (by rw [pin_len h]; omega), List.getElem?_eq_none (by omega)]
theorem pin_twice {P : Parts} {ps : List Put} {b : Nat} {st : List Nat} (h : st.length = P.voices.length) : pinL P ps b (pinL P ps b st) = pinL P ps b st := by
  refine List.ext_getElem? fun i => ?_
  by_cases c : i < st.length
  · have hz : P.names[i]? = some (P.names[i]'(by rw [names_len]; omega)) := List.getElem?_eq_getElem _
    have e := pin_get (ps := ps) (b := b) hz (List.getElem?_eq_getElem c)
    rw [pin_get hz e, e]
    cases cueAt ps b (P.names[i]'(by rw [names_len]; omega)) <;> rfl
  · rw [List.getElem?_eq_none (by rw [pin_len (pin_len h)]; omega), List.getElem?_eq_none (by rw [pin_len h]; omega)]
theorem pin_perm {P : Parts} {ps qs : List Put} (p : ps.Perm qs) (nd : (ps.map putKey).Nodup) (b : Nat) (st : List Nat) : pinL P ps b st = pinL P qs b st := by
  unfold pinL
  refine List.map_congr_left fun x _ => ?_
  rw [cueAt_perm p nd]
/-! ### what the program puts, one by one -/
def setAll (P : Parts) (st : List Nat) (ns : List (Str × Nat)) : List Nat := ns.foldl (fun t r => t.set (P.names.idxOf r.1) r.2) st
theorem setAll_snoc (P : Parts) (st : List Nat) (ns : List (Str × Nat)) (r : Str × Nat) : setAll P st (ns ++ [r]) = (setAll P st ns).set (P.names.idxOf r.1) r.2 := List.foldl_append ..
theorem setAll_len (P : Parts) : ∀ (ns : List (Str × Nat)) (st : List Nat), (setAll P st ns).length = st.length
  | [], _ => rfl
  | r :: ns, st => by
    show (setAll P (st.set _ _) ns).length = _
    rw [setAll_len P ns, List.length_set]
theorem setAll_get {P : Parts} : ∀ {ns : List (Str × Nat)} {st : List Nat} {i : Nat} {z : Str} {d : Nat}, P.names.Nodup → (ns.map (·.1)).Nodup → (∀ r ∈ ns, r.1 ∈ P.names) → P.names[i]? = some z → st[i]? = some d → (setAll P st ns)[i]? = some (((ns.find? fun r => decide (r.1 = z)).map (·.2)).getD d)
  | [], st, i, z, d, _, _, _, _, hd => hd
  | r :: ns, st, i, z, d, nn, nd, hm, hz, hd => by
    rw [List.map_cons] at nd
    have nd' := List.nodup_cons.mp nd
    show (setAll P (st.set (P.names.idxOf r.1) r.2) ns)[i]? = _
    have hr := hm r List.mem_cons_self
    have hil : i < st.length := (List.getElem?_eq_some_iff.mp hd).1
    by_cases c : r.1 = z
    · have hi : P.names.idxOf r.1 = i := by
        have h1 : P.names.idxOf r.1 < P.names.length := List.idxOf_lt_length_of_mem hr
        have h2 : P.names[P.names.idxOf r.1]? = some r.1 := by rw [List.getElem?_eq_getElem h1, List.getElem_idxOf h1]
        exact (List.getElem?_inj h1 nn).mp (h2.trans (by rw [c]; exact hz.symm))
      have hset : (st.set (P.names.idxOf r.1) r.2)[i]? = some r.2 := by rw [hi, List.getElem?_set_self hil]
      rw [setAll_get nn nd'.2 (fun q hq => hm q (List.mem_cons_of_mem _ hq)) hz hset]
      have hn : (ns.find? fun q => decide (q.1 = z)) = none := by
        rw [List.find?_eq_none]
        intro q hq e
        have e := of_decide_eq_true e
        exact nd'.1 (List.mem_map.mpr ⟨q, hq, by rw [e, c]⟩)
      rw [hn, List.find?_cons_of_pos (by exact decide_eq_true c)]
      rfl
    · have hi : P.names.idxOf r.1 ≠ i := fun e => by
        have h1 : P.names.idxOf r.1 < P.names.length := List.idxOf_lt_length_of_mem hr
        have h2 : P.names[P.names.idxOf r.1]? = some r.1 := by rw [List.getElem?_eq_getElem h1, List.getElem_idxOf h1]
        rw [e, hz] at h2
        exact c (Option.some.inj h2).symm
      have hset : (st.set (P.names.idxOf r.1) r.2)[i]? = some d := by rw [List.getElem?_set_ne hi]; exact hd
      rw [setAll_get nn nd'.2 (fun q hq => hm q (List.mem_cons_of_mem _ hq)) hz hset, List.find?_cons_of_neg (by rw [decide_eq_false c]; exact nofun)]
/-- the names and notes of a beat's cues, in order -/
def notesAt (ps : List Put) (b : Nat) : List (Str × Nat) := (ps.filter fun r => decide (r.1 = b)).map (·.2)
theorem notesAt_find (b : Nat) (z : Str) : ∀ ps : List Put, ((notesAt ps b).find? fun r => decide (r.1 = z)).map (·.2) = cueAt ps b z
  | [] => rfl
  | r :: ps => by
    have ih := notesAt_find b z ps
    unfold notesAt cueAt at *
    by_cases c : r.1 = b
    · rw [List.filter_cons_of_pos (by exact decide_eq_true c), List.map_cons]
      by_cases d : r.2.1 = z
      · rw [List.find?_cons_of_pos (by exact decide_eq_true d), List.find?_cons_of_pos (by exact decide_eq_true ⟨c, d⟩)]
        rfl
      · rw [List.find?_cons_of_neg (by rw [decide_eq_false d]; exact nofun), List.find?_cons_of_neg (by rw [decide_eq_false (fun q => d q.2)]; exact nofun)]
        exact ih
    · rw [List.filter_cons_of_neg (by rw [decide_eq_false c]; exact nofun), List.find?_cons_of_neg (by rw [decide_eq_false (fun q => c q.1)]; exact nofun)]
      exact ih
theorem notesAt_nodup {b : Nat} : ∀ {ps : List Put}, (ps.map putKey).Nodup → ((notesAt ps b).map (·.1)).Nodup
  | [], _ => List.nodup_nil
  | r :: ps, nd => by
    rw [List.map_cons] at nd
    have nd' := List.nodup_cons.mp nd
    have ih := notesAt_nodup (b := b) nd'.2
    unfold notesAt at *
    by_cases c : r.1 = b
    · rw [List.filter_cons_of_pos (by exact decide_eq_true c), List.map_cons, List.map_cons]
      refine List.nodup_cons.mpr ⟨fun h => ?_, ih⟩
      obtain ⟨q, hq, e⟩ := List.mem_map.mp h
      obtain ⟨q', hq', rfl⟩ := List.mem_map.mp hq
      obtain ⟨h1, h2⟩ := List.mem_filter.mp hq'
      have h2 := of_decide_eq_true h2
      exact nd'.1 (List.mem_map.mpr ⟨q', h1, by show (q'.1, q'.2.1) = (r.1, r.2.1); rw [h2, c, e]⟩)
    · rw [List.filter_cons_of_neg (by rw [decide_eq_false c]; exact nofun)]
      exact ih
theorem setAll_pin {P : Parts} {ps : List Put} {b : Nat} {st : List Nat} (nn : P.names.Nodup) (nd : (ps.map putKey).Nodup) (hm : ∀ r ∈ ps, r.2.1 ∈ P.names) (h : st.length = P.voices.length) : setAll P st (notesAt ps b) = pinL P ps b st := by
  refine List.ext_getElem? fun i => ?_
  by_cases c : i < st.length
  · have hz : P.names[i]? = some (P.names[i]'(by rw [names_len]; omega)) := List.getElem?_eq_getElem _
    rw [pin_get hz (List.getElem?_eq_getElem c), setAll_get nn (notesAt_nodup nd) (fun r hr => ?_) hz (List.getElem?_eq_getElem c), notesAt_find]
    obtain ⟨q, hq, rfl⟩ := List.mem_map.mp hr
    exact hm q (List.mem_filter.mp hq).1
  · rw [List.getElem?_eq_none (by rw [setAll_len]; omega), List.getElem?_eq_none (by rw [pin_len h]; omega)]
/-! ### the roots -/
def Spots (S : SongD) (bs : List Nat) : Prop := bs.Pairwise (· < ·) ∧ ∀ b, b ∈ bs ↔ b = 0 ∨ b ∈ S.stops ∨ b ∈ S.puts.map (·.1)
theorem rising_uniq : ∀ {as bs : List Nat}, as.Pairwise (· < ·) → bs.Pairwise (· < ·) → (∀ b, b ∈ as ↔ b ∈ bs) → as = bs := fun {as bs} h1 h2 h => by
  have n1 : as.Nodup := h1.imp fun {a b} q => Nat.ne_of_lt q
  have n2 : bs.Nodup := h2.imp fun {a b} q => Nat.ne_of_lt q
  have p : as.Perm bs := (List.perm_ext_iff_of_nodup n1 n2).mpr h
  exact p.eq_of_pairwise (fun a b _ _ x y => absurd (Nat.lt_trans x y) (Nat.lt_irrefl _)) h1 h2
theorem Spots.uniq {S : SongD} {as bs : List Nat} (h1 : Spots S as) (h2 : Spots S bs) : as = bs := rising_uniq h1.1 h2.1 fun b => (h1.2 b).trans (h2.2 b).symm
theorem Spots.zero {S : SongD} {bs : List Nat} (h : Spots S bs) : bs[0]? = some 0 := by
  have h0 := (h.2 0).mpr (.inl rfl)
  cases bs with
  | nil => cases h0
  | cons b bs =>
    rcases List.mem_cons.mp h0 with e | e
    · rw [← e]; rfl
    · have := (List.pairwise_cons.mp h.1).1 0 e
      exact absurd this (Nat.not_lt_zero _)
def stepR (P : Parts) (ps : List Put) (h : Nat × List Nat) (b : Nat) : Nat × List Nat := (b, pinL P ps b (behL P h.2 (b - h.1)))
def atR (P : Parts) (ps : List Put) (st : List Nat) (L : List Nat) : Nat × List Nat := L.foldl (stepR P ps) (0, st)
theorem atR_snoc (P : Parts) (ps : List Put) (st : List Nat) (L : List Nat) (b : Nat) : atR P ps st (L ++ [b]) = stepR P ps (atR P ps st L) b := List.foldl_append ..
theorem atR_take {P : Parts} {ps : List Put} {st : List Nat} {bs : List Nat} {j b : Nat} (h : bs[j]? = some b) : atR P ps st (bs.take (j + 1)) = stepR P ps (atR P ps st (bs.take j)) b := by
  rw [List.take_add_one, h]
  exact atR_snoc ..
theorem atR_ok {P : Parts} {ps : List Put} {st : List Nat} {lim : Nat} (ok : P.Ok lim) (hs : StOk P st) (hp : ∀ r ∈ ps, r.2.2 < P.notes) (L : List Nat) : StOk P (atR P ps st L).2 := by
  have key : ∀ (L : List Nat) (h : Nat × List Nat), StOk P h.2 → StOk P (L.foldl (stepR P ps) h).2 := by
    intro L
    induction L with
    | nil => exact fun h q => q
    | cons b L ih => exact fun h q => ih _ (pin_ok (beh_ok ok q _) hp)
  exact key L (0, st) hs
def rootsR (P : Parts) (ps : List Put) (st : List Nat) (bs : List Nat) : List (Nat × List Nat) := (List.range bs.length).map fun i => atR P ps st (bs.take (i + 1))
/-- what is sung at a beat -/
def sungL (P : Parts) (ps : List Put) (st : List Nat) (bs : List Nat) (b : Nat) : List Nat := behL P (atR P ps st (bs.filter fun x => decide (x ≤ b))).2 (b - (atR P ps st (bs.filter fun x => decide (x ≤ b))).1)
theorem sung_ok {P : Parts} {ps : List Put} {st : List Nat} {lim : Nat} (ok : P.Ok lim) (hs : StOk P st) (hp : ∀ r ∈ ps, r.2.2 < P.notes) (bs : List Nat) (b : Nat) : StOk P (sungL P ps st bs b) := beh_ok ok (atR_ok ok hs hp _) _
theorem filter_take {bs : List Nat} (h : bs.Pairwise (· < ·)) {low b : Nat} (hl : low < bs.length) (h1 : bs[low] ≤ b) (h2 : ∀ q : low + 1 < bs.length, b < bs[low + 1]) : (bs.filter fun x => decide (x ≤ b)) = bs.take (low + 1) := by
  have pw := List.pairwise_iff_getElem.mp h
  have e1 : ((bs.take (low + 1)).filter fun x => decide (x ≤ b)) = bs.take (low + 1) := by
    rw [List.filter_eq_self]
    intro x hx
    obtain ⟨i, hi, rfl⟩ := List.getElem_of_mem hx
    rw [List.length_take] at hi
    rw [List.getElem_take]
    rcases Nat.lt_or_ge i low with c | c
    · have := pw i low (by omega) hl c
      exact decide_eq_true (by omega)
    · have : i = low := by omega
      subst this
      exact decide_eq_true h1
  have e2 : ((bs.drop (low + 1)).filter fun x => decide (x ≤ b)) = [] := by
    rw [List.filter_eq_nil_iff]
    intro x hx
    obtain ⟨i, hi, rfl⟩ := List.getElem_of_mem hx
    rw [List.length_drop] at hi
    rw [List.getElem_drop]
    have q := h2 (by omega)
    rcases Nat.eq_zero_or_pos i with c | c
    · subst c
      rw [decide_eq_true_iff]
      show ¬ bs[low + 1 + 0] ≤ b
      simp only [Nat.add_zero]
      omega
    · have := pw (low + 1) (low + 1 + i) (by omega) (by omega) (by omega)
      rw [decide_eq_true_iff]
      omega
  conv => lhs; rw [← List.take_append_drop (low + 1) bs]
  rw [List.filter_append, e1, e2, List.append_nil]
theorem beh_at0 (P : Parts) (st : List Nat) : behL P st 0 = st := by
  unfold behL figs
  rw [L_zero]
  rfl
theorem filter_last {bs : List Nat} (h : bs.Pairwise (· < ·)) {b : Nat} (hb : b ∈ bs) : ∃ L, (bs.filter fun x => decide (x ≤ b)) = L ++ [b] := by
  obtain ⟨low, hl, rfl⟩ := List.getElem_of_mem hb
  have pw := List.pairwise_iff_getElem.mp h
  rw [filter_take h hl (Nat.le_refl _) (fun q => pw low (low + 1) hl q (Nat.lt_succ_self _)), List.take_add_one, List.getElem?_eq_getElem hl]
  exact ⟨_, rfl⟩
/-- the law's way: once more at the beat itself -/
theorem sung_law {P : Parts} {ps : List Put} {st : List Nat} {bs : List Nat} {lim : Nat} (ok : P.Ok lim) (hs : StOk P st) (hp : ∀ r ∈ ps, r.2.2 < P.notes) (h : bs.Pairwise (· < ·)) (hc : ∀ b, b ∈ ps.map (·.1) → b ∈ bs) (b : Nat) :
    (atR P ps st ((bs.filter fun x => decide (x ≤ b)) ++ [b])).2 = sungL P ps st bs b := by
  rw [atR_snoc]
  show pinL P ps b (behL P (atR P ps st (bs.filter fun x => decide (x ≤ b))).2 (b - (atR P ps st (bs.filter fun x => decide (x ≤ b))).1)) = sungL P ps st bs b
  unfold sungL
  by_cases c : b ∈ bs
  · obtain ⟨L, e⟩ := filter_last h c
    rw [e, atR_snoc]
    show pinL P ps b (behL P (pinL P ps b _) (b - b)) = behL P (pinL P ps b _) (b - b)
    rw [Nat.sub_self, beh_at0, pin_twice (beh_ok ok (atR_ok ok hs hp _) _).1]
  · exact pin_same (beh_ok ok (atR_ok ok hs hp _) _).1 fun z => cueAt_no (fun q => c (hc b q)) z
/-- at a root beat its own standing is sung -/
theorem sung_root {P : Parts} {ps : List Put} {st : List Nat} {bs : List Nat} (h : bs.Pairwise (· < ·)) {i b : Nat} (hi : bs[i]? = some b) : sungL P ps st bs b = (atR P ps st (bs.take (i + 1))).2 := by
  obtain ⟨hl, rfl⟩ := List.getElem?_eq_some_iff.mp hi
  have pw := List.pairwise_iff_getElem.mp h
  unfold sungL
  rw [filter_take h hl (Nat.le_refl _) (fun q => pw i (i + 1) hl q (Nat.lt_succ_self _)), atR_take hi]
  show behL P (pinL P ps bs[i] _) (bs[i] - bs[i]) = _
  rw [Nat.sub_self, beh_at0]
  rfl
end HG

/-! sorted of a dict whose keys are areI, any number of them -/
namespace HG
open PySem PySem.Spec PyProof.Rows L2
theorem ints_are : ∀ {us : List Value} {ks : List Int}, us.length = ks.length → (∀ (j : Nat) (v : Value), us[j]? = some v → ∃ (k : Int) (t : Tok), ks[j]? = some k ∧ v = .int k t) → IntsAre us ks
  | [], [], _, _ => .nil
  | u :: us, k :: ks, l, h => by
    obtain ⟨k', t, e, rfl⟩ := h 0 u rfl
    cases e
    exact .cons _ _ (ints_are (Nat.succ.inj l) fun j v e => h (j + 1) v e)
  | [], _ :: _, l, _ => nomatch l
  | _ :: _, [], l, _ => nomatch l
def rSortedDI : List V → Hp → VK → Prop := fun xs H Q => ∃ (a : Addr) (kvs : List (Key × V)) (ks : List Int), xs = [.ref a] ∧ H a = some (.dK kvs) ∧ kvs.map (·.1) = ks.map Sum.inl ∧ ks.length ≤ 1000 ∧
  ∀ (ns : List Int) (p : Addr), ns.Perm ks → ns.Pairwise (· ≤ ·) → H p = none → Q (.ref p) (upd H p (.lst (ns.map V.int)))
theorem cr_sortedDI {X : Cx} (calm : X.calm = true) : CallR X (.builtin "sorted") rSortedDI := by
  rintro pins s σ H xs us Q I r ⟨a, kvs, ks, rfl, ha, ek, lk, wish⟩
  obtain ⟨u, rfl, ru⟩ := vals1 r
  cases ru
  obtain ⟨z, lo, vs, rel, at1⟩ := dk_rd I.hok (show Rd H a (.dK kvs) from .inl ha)
  obtain ⟨ep, at2⟩ := at1.dictAt
  have ek2 : vs.map (·.1) = ks.map Sum.inl := rel.keys.symm.trans ek
  have len : vs.length = ks.length := by
    have q := congrArg List.length ek2
    simpa using q
  have small : vs.length ≤ sizeLine := by rw [len]; exact Nat.le_of_lt (small1000 lk)
  refine Calls.call_function_entry PyProof.Rows.kind_sorted PyProof.Rows.plain_sorted PyProof.Rows.entry_sorted (PyProof.Rows.args_sorted1 _) ?_
  unfold Builtin.«sorted»
  refine wpAny_bind (m := checkCount "sorted" 1 1 _) (wpAny_pure ?_)
  refine wpAny_bind (PySem.W.kdu_collect (A := X.A.in1) (PySem.W.kdl_dict (knd := mixKind X.prog X.w) (kvs := vs) (ep := ep) lo) (I.ok.hd calm) at2 small fun h1 tk acc keep got => ?_)
  have lacc : acc.toList.length = ks.length := by rw [Array.length_toList, got.1, len]
  have areI : IntsAre acc.toList ks := ints_are lacc fun j v e => by
    obtain ⟨k, x, q1, q2⟩ := got.2 j v (by rw [← Array.getElem?_toList]; exact e)
    have q3 : (vs.map (·.1))[j]? = some k := by rw [List.getElem?_map, q1]; rfl
    rw [ek2, List.getElem?_map] at q3
    cases q4 : ks[j]? with
    | none => rw [q4] at q3; cases q3
    | some y =>
      rw [q4] at q3
      obtain rfl : Sum.inl y = k := Option.some.inj q3
      rcases keyIs_shape (show keyIs (Sum.inl y) v = true from q2) with ⟨i, t, w1, w2⟩ | ⟨y', t, w1, w2⟩
      · cases w1
        exact ⟨_, t, rfl, w2⟩
      · cases w1
  have I1 : L2.Inv X pins σ H { s with heap := h1, toks := tk } := I.kept keep
  refine wpAny_bind (wpAny_newList ?_ (by rw [lacc]; exact Nat.le_of_lt (small1000 lk)))
  have there : (h1.push (seqObj "list" acc.toList.toArray 0)).get? h1.objs.size = some (seqObj "list" acc.toList.toArray 0) := Heap.get?_push_size _ rfl
  refine wpAny_bind (wpAny_holding ?_)
  refine wpAny_call_entry_kw slot_list_sort ⟨_, there, rfl⟩ entry_list_sort ?_ (args_list_sort _)
  refine SrtO.list_sort_ord (n := 0) SrtO.swo_int there (by rw [lacc]; exact Nat.le_of_lt (small1000 lk)) (fun q => SrtO.ints_sortable areI q) ?_
  intro res g1 g2
  obtain ⟨z1, z2, z3⟩ := SrtO.ints_out areI g1 g2
  refine ⟨_, rfl, ?_⟩
  obtain ⟨c, hc⟩ := sortedHeap_at (vs := acc.toList) (out := res.toArray) there
  have hl : (res.map SrtO.iv).length ≤ sizeLine := by rw [z2.length_eq]; exact Nat.le_of_lt (small1000 lk)
  refine wpAny_pure ⟨_, rfl, .ref h1.objs.size, upd H h1.objs.size (.lst ((res.map SrtO.iv).map V.int)), ?_, rfl, wish _ _ z2 z3 (I1.hok.fresh (Nat.le_refl _))⟩
  refine I1.laid (t' := tk) (o := .lst ((res.map SrtO.iv).map V.int)) (a := h1.objs.size) (fun b o e => ?_) (Nat.le_refl _) ⟨by rw [List.length_map]; exact hl, res.toArray.toList, c, vals_ints (by simpa using z1), by simpa using hc⟩
  have lt : b < h1.objs.size := lt_get e
  have lt2 : b < (h1.push (seqObj "list" acc.toList.toArray 0)).objs.size := by
    show b < (h1.objs.push _).size
    rw [Array.size_push]
    exact Nat.lt_succ_of_lt lt
  exact (sortedHeap_old (h := h1.push (seqObj "list" acc.toList.toArray 0)) (a := h1.objs.size) (vs := acc.toList) (out := res.toArray) (Nat.ne_of_lt lt) lt2).trans (Heap.get?_push_of_some _ e)
end HG

/-! a song that the program made: its fields, and what its methods promise -/
namespace HG
open PySem PySem.Spec PyProof.Rows L2 HF
def smeths : List Str := ["_fill", "choir", "first", "cues", "breaths", "roots", "standing", "note", "with_cue", "without", "with_breath", "without_breath", "from_root", "_has_cue", "_changed"]
/-- the cues, sorted -/
def sortP (ps : List Put) : List Put := ps.mergeSort (PySem.W.dataLe false putD)
theorem sortP_perm (ps : List Put) : (sortP ps).Perm ps := List.mergeSort_perm ..
/-- a list of tuples (beat, standing), the standings as they stand -/
def RootAt (G : Hp) (y : V) (r : Nat × List Nat) : Prop := ∃ a b, y = .ref a ∧ G a = some (.tup [.int (r.1 : Int), .ref b]) ∧ G b = some (.tup (nVs r.2))
theorem RootAt.same {G G' : Hp} (s : Same G G') {y : V} {r : Nat × List Nat} (h : RootAt G y r) : RootAt G' y r := let ⟨a, b, e, h1, h2⟩ := h; ⟨a, b, e, s _ _ h1, s _ _ h2⟩
theorem RootAt.tups {G G' : Hp} (s : ∀ b ts, G b = some (.tup ts) → G' b = some (.tup ts)) {y : V} {r : Nat × List Nat} (h : RootAt G y r) : RootAt G' y r := let ⟨a, b, e, h1, h2⟩ := h; ⟨a, b, e, s _ _ h1, s _ _ h2⟩
def RootsAll (G : Hp) (ys : List V) (rs : List (Nat × List Nat)) : Prop := ys.length = rs.length ∧ ∀ (i : Nat) (y : V), ys[i]? = some y → ∃ r, rs[i]? = some r ∧ RootAt G y r
theorem RootsAll.same {G G' : Hp} (s : Same G G') {ys : List V} {rs : List (Nat × List Nat)} (h : RootsAll G ys rs) : RootsAll G' ys rs := ⟨h.1, fun i y e => let ⟨r, a, b⟩ := h.2 i y e; ⟨r, a, b.same s⟩⟩
structure SongF (K : PySem.W.Frag) (At : Hp → Addr → Parts → Prop) (C : Addr) (G : Hp) (y : Addr) (P : Parts) (S : SongD) (bs : List Nat) (dy : Addr) (fs : List (Str × V)) : Prop where
  ins : G y = some (.ins C dy fs)
  meth : ∀ m ∈ smeths, fs.lookup m = none
  choir : ∃ x, fs.lookup ("_choir" : Str) = some (.ref x) ∧ At G x P
  first : ∃ v, fs.lookup ("_first" : Str) = some v ∧ TrT G v S.first
  cues : ∃ cl xs, fs.lookup ("_cues" : Str) = some (.ref cl) ∧ G cl = some (.lst xs) ∧ DpAll K G xs ((sortP S.puts).map putD)
  breaths : ∃ bl ds, fs.lookup ("_breaths" : Str) = some (.ref bl) ∧ G bl = some (.lst (nVs ds)) ∧ ds.Perm S.stops ∧ ds.Pairwise (· ≤ ·)
  roots : ∃ rl ys, fs.lookup ("_roots" : Str) = some (.ref rl) ∧ G rl = some (.lst ys) ∧ RootsAll G ys (rootsR P S.puts S.first bs)
/-- a song stands at y -/
def SoC (K : PySem.W.Frag) (At : Hp → Addr → Parts → Prop) (C : Addr) (G : Hp) (y : Addr) (P : Parts) (S : SongD) (bs : List Nat) : Prop := ∃ dy fs, SongF K At C G y P S bs dy fs
theorem SongF.same {K : PySem.W.Frag} {At : Hp → Addr → Parts → Prop} {Cc : Addr} (CK : ChoirK Cc At) {C : Addr} {G G' : Hp} {y : Addr} {P : Parts} {S : SongD} {bs : List Nat} {dy : Addr} {fs : List (Str × V)} (s : Same G G') (h : SongF K At C G y P S bs dy fs) : SongF K At C G' y P S bs dy fs := by
  obtain ⟨h1, h2, ⟨x, a1, a2⟩, ⟨v, b1, b2⟩, ⟨cl, xs, c1, c2, c3⟩, ⟨bl, ds, d1, d2, d3, d4⟩, ⟨rl, ys, e1, e2, e3⟩⟩ := h
  exact ⟨s _ _ h1, h2, ⟨x, a1, CK.mono s a2⟩, ⟨v, b1, b2.same s⟩, ⟨cl, xs, c1, s _ _ c2, dpAll_same s _ _ c3⟩, ⟨bl, ds, d1, s _ _ d2, d3, d4⟩, ⟨rl, ys, e1, s _ _ e2, e3.same s⟩⟩
theorem SoC.same {K : PySem.W.Frag} {At : Hp → Addr → Parts → Prop} {Cc : Addr} (CK : ChoirK Cc At) {C : Addr} {G G' : Hp} {y : Addr} {P : Parts} {S : SongD} {bs : List Nat} (s : Same G G') (h : SoC K At C G y P S bs) : SoC K At C G' y P S bs := let ⟨dy, fs, q⟩ := h; ⟨dy, fs, q.same CK s⟩
/-- what a right song is made of: the bounds -/
structure SOk (P : Parts) (S : SongD) : Prop where
  first : StOk P S.first
  puts : ∀ r ∈ S.puts, r.2.1 ∈ P.names ∧ r.2.2 < P.notes
  near : ∀ r ∈ S.puts, r.1 < 2 ^ 500
  putN : (S.puts.map putKey).Nodup
  putL : S.puts.length ≤ 100
  stops : ∀ d ∈ S.stops, d < 2 ^ 500
  stopN : S.stops.Nodup
  stopL : S.stops.length ≤ 100
theorem far500 : (10 : Nat) ^ 18 < 2 ^ 500 := by decide +kernel
theorem SongOk.to {P : Parts} {S : SongD} {a b far : Nat} (h : SongOk P S a b far) (ha : a ≤ 100) (hb : b ≤ 100) (hf : far < 2 ^ 500) : SOk P S :=
  ⟨h.first, fun r hr => (h.puts r hr).2, fun r hr => Nat.lt_of_le_of_lt (h.puts r hr).1 hf, h.putN, Nat.le_trans h.putL ha, fun d hd => Nat.lt_of_le_of_lt (h.stops d hd) hf, h.stopN, Nat.le_trans h.stopL hb⟩
theorem SOk.notes {P : Parts} {S : SongD} (h : SOk P S) : ∀ r ∈ S.puts, r.2.2 < P.notes := fun r hr => (h.puts r hr).2
theorem SOk.spot {P : Parts} {S : SongD} (h : SOk P S) {bs : List Nat} (hb : Spots S bs) {b : Nat} (m : b ∈ bs) : b < 2 ^ 500 := by
  rcases (hb.2 b).mp m with rfl | m | m
  · exact Nat.two_pow_pos 500
  · exact h.stops b m
  · obtain ⟨r, hr, rfl⟩ := List.mem_map.mp m
    exact h.near r hr
theorem spot_cue {S : SongD} {bs : List Nat} (hb : Spots S bs) (b : Nat) (m : b ∈ S.puts.map (·.1)) : b ∈ bs := (hb.2 b).mpr (.inr (.inr m))
theorem alike_put (a b : Put) : PySem.W.alike (putD a) (putD b) = true := by simp [putD, PySem.W.alike, PySem.W.alikeAll]
theorem depth_put (a : Put) : (putD a).depth ≤ 40 := by
  show max 0 (max 0 (max 0 0)) + 1 ≤ 40
  decide
theorem put_inv {K : PySem.W.Frag} {G : Hp} {v : V} {r : Put} (h : Dp K G v (putD r)) : ∃ a, v = .ref a ∧ SqT K G a [.int (r.1 : Int), .str r.2.1, .int (r.2.2 : Int)] := by
  obtain ⟨a, ys, rfl, hs, ha⟩ := dp_tup_inv h
  cases ha with
  | cons h1 h2 => cases h1; cases h2 with
    | cons h3 h4 => cases h3; cases h4 with
      | cons h5 h6 => cases h5; cases h6; exact ⟨a, rfl, hs⟩
theorem putsAt {K : PySem.W.Frag} {G : Hp} {xs : List V} {ps : List Put} {i : Nat} {x : V} (h : DpAll K G xs (ps.map putD)) (e : xs[i]? = some x) : ∃ r a, ps[i]? = some r ∧ x = .ref a ∧ SqT K G a [.int (r.1 : Int), .str r.2.1, .int (r.2.2 : Int)] := by
  obtain ⟨d, hd1, hd2⟩ := dpAll_get' h e
  rw [List.getElem?_map] at hd1
  cases q : ps[i]? with
  | none => rw [q] at hd1; cases hd1
  | some r =>
    rw [q] at hd1
    cases hd1
    obtain ⟨a, rfl, hs⟩ := put_inv hd2
    exact ⟨r, a, rfl, rfl, hs⟩
theorem dpAll_nDs {K : PySem.W.Frag} {G : Hp} : ∀ {xs : List V} {ds : List Nat}, DpAll K G xs (nDs ds) → xs = nVs ds
  | _, [], h => by cases h; rfl
  | _, d :: ds, h => by
    have h' : DpAll K G _ (.int (d : Int) :: nDs ds) := h
    cases h' with
    | cons h1 h2 =>
      cases h1
      rw [dpAll_nDs h2]
      rfl
theorem nVs_get {ds : List Nat} {i : Nat} {y : V} (h : (nVs ds)[i]? = some y) : ∃ d, ds[i]? = some d ∧ y = .int (d : Int) := by
  unfold nVs at h
  rw [List.getElem?_map] at h
  cases e : ds[i]? with
  | none => rw [e] at h; cases h
  | some d => rw [e] at h; exact ⟨d, rfl, (Option.some.inj h).symm⟩
theorem nVs_mk {ds : List Nat} {i d : Nat} (h : ds[i]? = some d) : (nVs ds)[i]? = some (.int (d : Int)) := by
  unfold nVs
  rw [List.getElem?_map, h]
  rfl
/-! ### what the song's defs promise -/
/-- right things to make a song of: a choir, a first standing, lists of cues and breaths -/
structure SIn (K : PySem.W.Frag) (At : Hp → Addr → Parts → Prop) (G : Hp) (x : Addr) (v cv bv : V) (P : Parts) (S : SongD) : Prop where
  choir : At G x P
  ok : P.Ok 64
  first : TrT G v S.first
  cues : Dp K G cv (.list (S.puts.map putD))
  breaths : Dp K G bv (.list (nDs S.stops))
  sok : SOk P S
structure SNear (S : SongD) : Prop where
  puts : ∀ r ∈ S.puts, r.1 ≤ 10 ^ 18
  stops : ∀ d ∈ S.stops, d ≤ 10 ^ 18
  putL : S.puts.length ≤ 40
  stopL : S.stops.length ≤ 40
/-- nothing is refused -/
def spRwSong (K : PySem.W.Frag) (At : Hp → Addr → Parts → Prop) : Sp := fun vs H Q _ => ∃ (G : Hp) (x : Addr) (v cv bv : V) (P : Parts) (S : SongD), vs = [.ref x, v, cv, bv] ∧ Same G H ∧ SIn K At G x v cv bv P S ∧ SNear S ∧ ∀ H', Same H H' → Q .non H'
def spRbCues (K : PySem.W.Frag) (At : Hp → Addr → Parts → Prop) : Sp := fun vs H Q _ => ∃ (G : Hp) (x : Addr) (v cv bv : V) (P : Parts) (S : SongD), vs = [.ref x, cv] ∧ Same G H ∧ SIn K At G x v cv bv P S ∧ SNear S ∧ ∀ H', Same H H' → Q .non H'
def spIsCue (K : PySem.W.Frag) (At : Hp → Addr → Parts → Prop) : Sp := fun vs H Q _ => ∃ (G : Hp) (x a : Addr) (P : Parts) (r : Put), vs = [.ref x, .ref a] ∧ Same G H ∧ At G x P ∧ P.Ok 64 ∧ SqT K G a [.int (r.1 : Int), .str r.2.1, .int (r.2.2 : Int)] ∧ r.1 ≤ 10 ^ 18 ∧ r.2.1 ∈ P.names ∧ r.2.2 < P.notes ∧ ∀ H', Same H H' → Q (.bl true) H'
def spUnlikeB (K : PySem.W.Frag) : Sp := fun vs H Q _ => ∃ (G : Hp) (bv : V) (ds : List Nat), vs = [bv] ∧ Same G H ∧ Dp K G bv (.list (nDs ds)) ∧ (∀ d ∈ ds, d ≤ 10 ^ 18) ∧ ds.Nodup ∧ ds.length ≤ 100 ∧ ∀ H', Same H H' → Q (.bl true) H'
def spIsSt (K : PySem.W.Frag) (At : Hp → Addr → Parts → Prop) : Sp := fun vs H Q _ => ∃ (G : Hp) (x : Addr) (v : V) (P : Parts) (st : List Nat), vs = [.ref x, v] ∧ Same G H ∧ At G x P ∧ P.Ok 64 ∧ TrT G v st ∧ StOk P st ∧ ∀ H', Same H H' → Q (.bl true) H'
def spPut (K : PySem.W.Frag) (At : Hp → Addr → Parts → Prop) : Sp := fun vs H Q _ => ∃ (G : Hp) (x na : Addr) (v : V) (P : Parts) (st : List Nat) (ys : List V) (ns : List (Str × Nat)), vs = [.ref x, v, .ref na] ∧ Same G H ∧ At G x P ∧ TrT G v st ∧ st.length = P.names.length ∧ st.length ≤ 6 ∧ H na = some (.lst ys) ∧ ys.length = ns.length ∧
  (∀ (i : Nat) (y : V), ys[i]? = some y → ∃ r b, ns[i]? = some r ∧ y = .ref b ∧ SqT K H b [.str r.1, .int (r.2 : Int)]) ∧ (∀ r ∈ ns, r.1 ∈ P.names) ∧ ∀ (q : Addr) (H' : Hp), Same H H' → H q = none → H' q = some (.tup (nVs (setAll P st ns))) → Q (.ref q) H'
/-- the last root that is not behind a beat -/
def spLastRoot (K : PySem.W.Frag) : Sp := fun vs H Q _ => ∃ (G : Hp) (ra : Addr) (ys : List V) (P : Parts) (S : SongD) (bs : List Nat) (b : Nat), vs = [.ref ra, .int (b : Int)] ∧ Same G H ∧ SqL K H ra ys ∧ RootsAll G ys (rootsR P S.puts S.first bs) ∧ bs.Pairwise (· < ·) ∧ bs[0]? = some 0 ∧
  ∀ y : V, RootAt G y (atR P S.puts S.first (bs.filter fun z => decide (z ≤ b))) → Q y H
def spRootsOf (K : PySem.W.Frag) (At : Hp → Addr → Parts → Prop) : Sp := fun vs H Q _ => ∃ (G : Hp) (x cl bl : Addr) (v : V) (P : Parts) (S : SongD) (xs : List V) (ds : List Nat), vs = [.ref x, v, .ref cl, .ref bl] ∧ Same G H ∧ At G x P ∧ P.Ok 64 ∧ TrT G v S.first ∧ SOk P S ∧ H cl = some (.lst xs) ∧ DpAll K G xs ((sortP S.puts).map putD) ∧ H bl = some (.lst (nVs ds)) ∧ ds.Perm S.stops ∧
  ∀ (q : Addr) (H' : Hp) (ys : List V) (bs : List Nat), Same H H' → H q = none → H' q = some (.lst ys) → Spots S bs → RootsAll (more G H H') ys (rootsR P S.puts S.first bs) → Q (.ref q) H'
def spFillS (K : PySem.W.Frag) (At : Hp → Addr → Parts → Prop) (C : Addr) : Sp := fun vs H Q _ => ∃ (G : Hp) (y dy x : Addr) (v cv bv : V) (P : Parts) (S : SongD) (fs0 : List (Str × V)), vs = [.ref y, .ref x, v, cv, bv] ∧ Same G H ∧ H y = some (.ins C dy fs0) ∧ (∀ m ∈ smeths, fs0.lookup m = none) ∧ fs0.length ≤ 100 ∧ H dy = some (.own y) ∧ G y = none ∧ G dy = none ∧ SIn K At G x v cv bv P S ∧
  ∀ (H' : Hp) (fs : List (Str × V)) (bs : List Nat), (∀ b o, H b = some o → b ≠ y → H' b = some o) → H' y = some (.ins C dy fs) → fs.length ≤ fs0.length + 5 → (∀ m ∈ smeths, fs.lookup m = none) → Spots S bs → SoC K At C (plus y dy (more G H H') H') y P S bs → Q .non H'
/-- a new song -/
def spMakeS (K : PySem.W.Frag) (At : Hp → Addr → Parts → Prop) (C : Addr) : Sp := fun vs H Q _ => ∃ (G : Hp) (y dy x : Addr) (v cv bv : V) (P : Parts) (S : SongD), vs = [.ref y, .ref x, v, cv, bv] ∧ Same G H ∧ H y = some (.ins C dy []) ∧ H dy = some (.own y) ∧ G y = none ∧ G dy = none ∧ SIn K At G x v cv bv P S ∧ SNear S ∧
  ∀ (H' : Hp) (fs : List (Str × V)) (bs : List Nat), (∀ b o, H b = some o → b ≠ y → H' b = some o) → H' y = some (.ins C dy fs) → fs.length ≤ 5 → (∀ m ∈ smeths, fs.lookup m = none) → Spots S bs → SoC K At C (plus y dy (more G H H') H') y P S bs → Q .non H'
/-! ### what the song's methods promise -/
def spStandM (K : PySem.W.Frag) (At : Hp → Addr → Parts → Prop) (C : Addr) : Sp := fun vs H Q _ => ∃ (G : Hp) (y : Addr) (P : Parts) (S : SongD) (bs : List Nat) (b : Nat), vs = [.ref y, .int (b : Int)] ∧ Same G H ∧ SoC K At C G y P S bs ∧ P.Ok 64 ∧ SOk P S ∧ Spots S bs ∧ b < 2 ^ 900 ∧ ∀ (v : V) (H' : Hp), Same H H' → TrT (more G H H') v (sungL P S.puts S.first bs b) → Q v H'
def spNoteM (K : PySem.W.Frag) (At : Hp → Addr → Parts → Prop) (C : Addr) : Sp := fun vs H Q _ => ∃ (G : Hp) (y : Addr) (P : Parts) (S : SongD) (bs : List Nat) (b i : Nat) (z : Str), vs = [.ref y, .int (b : Int), .str z] ∧ Same G H ∧ SoC K At C G y P S bs ∧ P.Ok 64 ∧ SOk P S ∧ Spots S bs ∧ b < 2 ^ 900 ∧ P.names[i]? = some z ∧ ∀ H' : Hp, Same H H' → Q (.int (((sungL P S.puts S.first bs b).getD i 0 : Nat) : Int)) H'
def spRootsM (K : PySem.W.Frag) (At : Hp → Addr → Parts → Prop) (C : Addr) : Sp := fun vs H Q _ => ∃ (G : Hp) (y : Addr) (P : Parts) (S : SongD) (bs : List Nat), vs = [.ref y] ∧ Same G H ∧ SoC K At C G y P S bs ∧ ∀ (q : Addr) (H' : Hp) (ys : List V), Same H H' → H q = none → H' q = some (.lst ys) → RootsAll G ys (rootsR P S.puts S.first bs) → Q (.ref q) H'
theorem roots_len (P : Parts) (ps : List Put) (st bs : List Nat) : (rootsR P ps st bs).length = bs.length := by unfold rootsR; rw [List.length_map, List.length_range]
theorem roots_get {P : Parts} {ps : List Put} {st bs : List Nat} {i : Nat} (h : i < bs.length) : (rootsR P ps st bs)[i]? = some (atR P ps st (bs.take (i + 1))) := by
  unfold rootsR
  rw [List.getElem?_map, List.getElem?_range h]
  rfl
theorem atR_at {P : Parts} {ps : List Put} {st bs : List Nat} {i : Nat} (h : i < bs.length) : (atR P ps st (bs.take (i + 1))).1 = bs[i] := by
  rw [atR_take (List.getElem?_eq_getElem h)]
  rfl
end HG

/-! a dict of lists, by beats -/
namespace HG
open PySem PySem.Spec PyProof.Rows L2 HF
def inB (b : Nat) : Key := Sum.inl (b : Int)
theorem inB_inj {b c : Nat} (h : inB b = inB c) : b = c := by
  have := Sum.inl.inj h
  omega
def NotesL (H : Hp) (L : Addr) (ns : List (Str × Nat)) : Prop := ∃ ys, H L = some (.lst ys) ∧ ys.length = ns.length ∧ ∀ (i : Nat) (y : V), ys[i]? = some y → ∃ r c, ns[i]? = some r ∧ y = .ref c ∧ H c = some (.tup [.str r.1, .int (r.2 : Int)])
theorem NotesL.same {H H' : Hp} (s : Same H H') {L : Addr} {ns : List (Str × Nat)} (h : NotesL H L ns) : NotesL H' L ns := let ⟨ys, a, b, c⟩ := h; ⟨ys, s _ _ a, b, fun i y e => let ⟨r, d, e1, e2, e3⟩ := c i y e; ⟨r, d, e1, e2, s _ _ e3⟩⟩
/-- the dict at D has for each of ks a list of its own, new since H0 -/
def Cued (H0 H : Hp) (D : Addr) (ks : List Nat) (f : Nat → List (Str × Nat)) : Prop := ∃ kvs, H D = some (.dK kvs) ∧ kvs.map (·.1) = ks.map inB ∧ ∃ loc : Nat → Addr, (∀ b ∈ ks, valV kvs (inB b) = some (.ref (loc b)) ∧ H0 (loc b) = none ∧ NotesL H (loc b) (f b)) ∧ ∀ b ∈ ks, ∀ c ∈ ks, loc b = loc c → b = c
theorem Cued.same {H0 H H' : Hp} (s : Same H H') {D : Addr} {ks : List Nat} {f : Nat → List (Str × Nat)} (h : Cued H0 H D ks f) : Cued H0 H' D ks f := by
  obtain ⟨kvs, a, b, loc, c, d⟩ := h
  exact ⟨kvs, s _ _ a, b, loc, fun k hk => let ⟨q1, q2, q3⟩ := c k hk; ⟨q1, q2, q3.same s⟩, d⟩
theorem putK_keys {α : Type} [DecidableEq α] (kvs : List (α × V)) (k : α) (v : V) : (putK kvs k v).map (·.1) = if k ∈ kvs.map (·.1) then kvs.map (·.1) else kvs.map (·.1) ++ [k] := by
  unfold putK
  by_cases c : k ∈ kvs.map (·.1)
  · rw [if_pos c, if_pos (by
      rw [List.any_eq_true]
      obtain ⟨p, hp, e⟩ := List.mem_map.mp c
      exact ⟨p, hp, decide_eq_true e⟩)]
    rw [List.map_map]
    refine List.map_congr_left fun p _ => ?_
    show (if p.1 = k then (p.1, v) else p).1 = p.1
    by_cases d : p.1 = k
    · rw [if_pos d]
    · rw [if_neg d]
  · rw [if_neg c, if_neg (by
      rw [List.any_eq_true]
      rintro ⟨p, hp, e⟩
      exact c (List.mem_map.mpr ⟨p, hp, of_decide_eq_true e⟩))]
    rw [List.map_append]
    rfl
theorem inB_mem {b : Nat} {ks : List Nat} : inB b ∈ ks.map inB ↔ b ∈ ks := by
  constructor
  · intro h
    obtain ⟨c, hc, e⟩ := List.mem_map.mp h
    rw [← inB_inj e]
    exact hc
  · intro h
    exact List.mem_map.mpr ⟨b, h, rfl⟩
/-- one key more (or once more), with a new list -/
theorem Cued.more {H0 H : Hp} {D L b : Nat} {ks : List Nat} {kvs : List (Key × V)} (h : Cued H0 H D ks fun _ => []) (hD : H D = some (.dK kvs)) (n0 : H0 L = none) (nL : H L = none) (hk : ks.Nodup) :
    Cued H0 (upd (upd H L (.lst [])) D (.dK (putK kvs (inB b) (.ref L)))) D (if b ∈ ks then ks else ks ++ [b]) fun _ => [] := by
  obtain ⟨kvs', a, e, loc, c, d⟩ := h
  rw [hD] at a
  obtain rfl : kvs = kvs' := by injection a with a; injection a
  have hDL : L ≠ D := fun z => by rw [z, hD] at nL; cases nL
  refine ⟨_, upd_same, ?_, fun k => if k = b then L else loc k, fun k hk' => ?_, fun k hk1 l hk2 z => ?_⟩
  · rw [putK_keys, e]
    by_cases q : b ∈ ks
    · rw [if_pos (inB_mem.mpr q), if_pos q]
    · rw [if_neg (fun z => q (inB_mem.mp z)), if_neg q, List.map_append]
      rfl
  · have new : NotesL (upd (upd H L (.lst [])) D (.dK (putK kvs (inB b) (.ref L)))) L [] := ⟨[], by rw [upd_ne hDL, upd_same], rfl, fun i y e => by simp at e⟩
    show valV (putK kvs (inB b) (.ref L)) (inB k) = some (.ref (if k = b then L else loc k)) ∧ H0 (if k = b then L else loc k) = none ∧ NotesL _ (if k = b then L else loc k) []
    by_cases q : k = b
    · subst q
      rw [if_pos rfl, valV_put, if_pos rfl]
      exact ⟨rfl, n0, new⟩
    · rw [if_neg q, valV_put, if_neg (fun z => q (inB_inj z))]
      have hk2 : k ∈ ks := by
        by_cases w : b ∈ ks
        · rw [if_pos w] at hk'; exact hk'
        · rw [if_neg w] at hk'
          rcases List.mem_append.mp hk' with x | x
          · exact x
          · exact absurd (List.mem_singleton.mp x) q
      obtain ⟨q1, q2, ys, q3, q4, q5⟩ := c k hk2
      refine ⟨q1, q2, [], ?_, rfl, fun i y e => by simp at e⟩
      have hy : ys = [] := List.eq_nil_of_length_eq_zero q4
      rw [upd_ne (fun z => by rw [z, hD] at q3; cases q3), upd_ne (fun z => by rw [z, nL] at q3; cases q3), q3, hy]
  · have inks : ∀ {k : Nat}, k ∈ (if b ∈ ks then ks else ks ++ [b]) → k ≠ b → k ∈ ks := fun {k} hk' q => by
      by_cases w : b ∈ ks
      · rw [if_pos w] at hk'; exact hk'
      · rw [if_neg w] at hk'
        rcases List.mem_append.mp hk' with x | x
        · exact x
        · exact absurd (List.mem_singleton.mp x) q
    have away : ∀ {k : Nat}, k ∈ ks → loc k ≠ L := fun {k} hk' z => by
      obtain ⟨_, _, ys, q3, _⟩ := c k hk'
      rw [z, nL] at q3
      cases q3
    have z : (if k = b then L else loc k) = (if l = b then L else loc l) := z
    by_cases q : k = b
    · by_cases q2 : l = b
      · rw [q, q2]
      · rw [if_pos q, if_neg q2] at z
        exact absurd z.symm (away (inks hk2 q2))
    · by_cases q2 : l = b
      · rw [if_neg q, if_pos q2] at z
        exact absurd z (away (inks hk1 q))
      · rw [if_neg q, if_neg q2] at z
        exact d k (inks hk1 q) l (inks hk2 q2) z
/-- a pair more at a key -/
theorem Cued.put {H0 H : Hp} {D : Addr} {b : Nat} {ks : List Nat} {f f' : Nat → List (Str × Nat)} {r : Str × Nat} (h : Cued H0 H D ks f) (hb : b ∈ ks) (e1 : f' b = f b ++ [r]) (e2 : ∀ c, c ≠ b → f' c = f c) :
    ∃ L kvs ys, H D = some (.dK kvs) ∧ valV kvs (inB b) = some (.ref L) ∧ H0 L = none ∧ H L = some (.lst ys) ∧ ys.length = (f b).length ∧ ∀ T : Addr, H T = none → Cued H0 (upd (upd H T (.tup [.str r.1, .int (r.2 : Int)])) L (.lst (ys ++ [.ref T]))) D ks f' := by
  obtain ⟨kvs, a, e, loc, c, d⟩ := h
  obtain ⟨q1, q2, ys, q3, q4, q5⟩ := c b hb
  have nLD : D ≠ loc b := fun z => by rw [← z, a] at q3; cases q3
  refine ⟨loc b, kvs, ys, a, q1, q2, q3, q4, fun T nT => ?_⟩
  have nLT : loc b ≠ T := fun z => by rw [z, nT] at q3; cases q3
  have nDT : D ≠ T := fun z => by rw [z, nT] at a; cases a
  have tups : ∀ (p : Addr) (ts : List V), H p = some (.tup ts) → (upd (upd H T (.tup [.str r.1, .int (r.2 : Int)])) (loc b) (.lst (ys ++ [.ref T]))) p = some (.tup ts) := fun p ts hp => by
    rw [upd_ne (fun z => by rw [z, q3] at hp; cases hp), upd_ne (fun z => by rw [z, nT] at hp; cases hp)]
    exact hp
  refine ⟨kvs, by rw [upd_ne nLD, upd_ne nDT]; exact a, e, loc, fun k hk => ?_, d⟩
  by_cases q : k = b
  · subst q
    refine ⟨q1, q2, ys ++ [.ref T], upd_same, by rw [e1, List.length_append, List.length_append, q4]; rfl, fun i y hy => ?_⟩
    rcases Nat.lt_trichotomy i ys.length with w | w | w
    · rw [List.getElem?_append_left w] at hy
      obtain ⟨r', p, g1, g2, g3⟩ := q5 i y hy
      exact ⟨r', p, by rw [e1, List.getElem?_append_left (by omega)]; exact g1, g2, tups _ _ g3⟩
    · subst w
      rw [List.getElem?_concat_length] at hy
      cases hy
      refine ⟨r, T, by rw [e1, q4, List.getElem?_concat_length], rfl, ?_⟩
      rw [upd_ne nLT.symm, upd_same]
    · rw [List.getElem?_eq_none (by rw [List.length_append]; simp; omega)] at hy
      cases hy
  · obtain ⟨w1, w2, zs, w3, w4, w5⟩ := c k hk
    have nk : loc k ≠ loc b := fun z => q (d k hk b hb z)
    refine ⟨w1, w2, zs, ?_, by rw [e2 k q]; exact w4, fun i y hy => ?_⟩
    · rw [upd_ne nk, upd_ne (fun z => by rw [z, nT] at w3; cases w3)]
      exact w3
    · obtain ⟨r', p, g1, g2, g3⟩ := w5 i y hy
      exact ⟨r', p, by rw [e2 k q]; exact g1, g2, tups _ _ g3⟩
theorem notesAt_snoc (ps : List Put) (r : Put) (b : Nat) : notesAt (ps ++ [r]) b = if r.1 = b then notesAt ps b ++ [r.2] else notesAt ps b := by
  unfold notesAt
  rw [List.filter_append, List.map_append]
  by_cases c : r.1 = b
  · rw [if_pos c, List.filter_cons_of_pos (by exact decide_eq_true c)]
    rfl
  · rw [if_neg c, List.filter_cons_of_neg (by rw [decide_eq_false c]; exact nofun)]
    show _ ++ [] = _
    rw [List.append_nil]
end HG

/-! zip of a list and a tuple -/
namespace HG
open PySem PySem.Spec PyProof.Rows L2
theorem drawsTup {prog : Program} {w : World} {A : Around} (na : A.handled = none) (j t : Addr) (ne : t ≠ j) (its : Array Value) :
    Draws prog w A j [j, t] its.size (fun i v => its[i]? = some v) (fun i h => h.IsTupleIter j t i ∧ h.IsTuple t its) where
  live := fun _ _ q => let ⟨o, ho, _⟩ := q.1; ⟨o, ho⟩
  frame := fun _ _ _ q g => ⟨q.1.at fun o e => g j (by simp) o e, let ⟨o, ho, r⟩ := q.2; ⟨o, g t (by simp) o ho, r⟩⟩
  item := fun i s Q E lt q wish => by
    refine RZ.nextOf_tuple_item q.1 q.2 (x := its[i]) (by simp [lt]) fun h1 q1 same => ?_
    exact wish _ h1 s.toks (by simp [lt]) ⟨q1, q.2.extBut same.extBut ne⟩ same
  done := fun s Q E q wish => RZ.nextOf_tuple_end na q.1 q.2 (by simp) wish
/-- a list at a and a tuple at b, the items in new pairs -/
def ItzM (K : PySem.W.Frag) (a b : Addr) : It :=
  ⟨fun i H => ∃ (xs ys : List V) (x y : V), SqL K H a xs ∧ SqT K H b ys ∧ xs[i]? = some x ∧ ys[i]? = some y,
    fun i H v H' => ∃ p x y, v = .ref p ∧ H p = none ∧ H' = upd H p (.tup [x, y]) ∧ (∀ xs, SqL K H a xs → xs[i]? = some x) ∧ (∀ ys, SqT K H b ys → ys[i]? = some y),
    fun i H => ∃ xs ys : List V, SqL K H a xs ∧ SqT K H b ys ∧ (xs.length = i ∧ i ≤ ys.length ∨ ys.length = i ∧ i ≤ xs.length)⟩
theorem notIn2 {c i l : Nat} (h1 : c ≠ i) (h2 : c ≠ l) : c ∉ [i, l] := fun m => by
  rcases List.mem_cons.mp m with e | m
  · exact h1 e
  · exact h2 (List.mem_singleton.mp m)
theorem sepM {I l1 l2 : Nat} (h1 : l1 < I) (h2 : l2 < I) : ZipSep2 (I + 4) (I + 2) (I + 3) I (I + 1) [I, l1] [I + 1, l2] :=
  ⟨(by omega : I + 2 ≠ I + 4), (by omega : I + 3 ≠ I + 4), (by omega : I + 2 ≠ I + 3), (by omega : I + 2 ≠ I), List.mem_cons_self, notIn2 (by omega) (by omega), notIn2 (by omega) (by omega),
   (by omega : I + 2 ≠ I + 1), List.mem_cons_self, notIn2 (by omega) (by omega), notIn2 (by omega) (by omega), notIn2 (by omega) (by omega), notIn2 (by omega) (by omega)⟩
def stM (z TI TO i1 i2 a b : Addr) : Nat → Heap → Prop := fun i h => IsZip h z TI TO .none ∧ IsPair h TI (.ref i1) (.ref i2) ∧ (∃ x y, IsPair h TO x y) ∧ h.IsListIter i1 a i ∧ h.IsTupleIter i2 b i
theorem in5 {c z TI TO i1 i2 : Addr} (h : c ∈ [z, TI, TO, i1, i2]) : c = z ∨ c = TI ∨ c = TO ∨ c = i1 ∨ c = i2 := by simpa using h
theorem stM_obj {z TI TO i1 i2 a b : Addr} {i : Nat} {h : Heap} (q : stM z TI TO i1 i2 a b i h) {c : Addr} (m : c ∈ [z, TI, TO, i1, i2]) : ∃ o, h.get? c = some o ∧ ∀ v, o.data ≠ .cell v := by
  obtain ⟨q1, q2, ⟨x, y, q3⟩, ⟨o4, e4, _, d4⟩, ⟨o5, e5, _, d5⟩⟩ := q
  rcases in5 m with rfl | rfl | rfl | rfl | rfl
  · exact ⟨_, q1, nofun⟩
  · exact ⟨_, q2, nofun⟩
  · exact ⟨_, q3, nofun⟩
  · exact ⟨o4, e4, fun v e => by rw [d4] at e; cases e⟩
  · exact ⟨o5, e5, fun v e => by rw [d5] at e; cases e⟩
theorem turn_zipM {P : Program} {w : World} {K : PySem.W.Frag} {elts : List Expr} {kk : Nat} {tpos : Pos} {a b z TI TO i1 i2 : Addr} (S : ZipSep2 z TI TO i1 i2 [i1, a] [i2, b]) (nT : ∀ c ∈ [z, TI, TO, i1, i2], c ≠ a ∧ c ≠ b) :
    Turn P w K (.Tuple elts kk tpos) (ItzM K a b) [z, TI, TO, i1, i2] z (stM z TI TO i1 i2 a b) where
  mem := List.mem_cons_self
  obj := fun i h q c m => stM_obj q m
  keep := fun i h h' ⟨q1, q2, ⟨x, y, q3⟩, q4, q5⟩ k =>
    ⟨k z (by simp) _ q1, k TI (by simp) _ q2, ⟨x, y, k TO (by simp) _ q3⟩, q4.at fun o e => k i1 (by simp) o e, q5.at fun o e => k i2 (by simp) o e⟩
  self := fun A i s Q E q h => wpAny_pyIter_zip q.1 h
  item := by
    rintro X rfl rfl rfl hc i pins s σ H E I free q ⟨xs, ys, x, y, sx, sy, hx, hy⟩
    obtain ⟨q1, q2, ⟨x0, y0, q3⟩, q4, q5⟩ := id q
    obtain ⟨us, ru, pu, _⟩ := I.list sx
    obtain ⟨vs, rv, pv, _⟩ := I.tuple sy
    obtain ⟨u, hu, rxu⟩ := ru.get hx
    obtain ⟨v, hv, ryv⟩ := rv.get hy
    have D1 := Draws.list (prog := X.prog) (w := X.w) (A := X.A.in1) (I.ok.hd hc) i1 a (nT i1 (by simp)).1.symm us.toArray
    have D2 := drawsTup (prog := X.prog) (w := X.w) (A := X.A.in1) (I.ok.hd hc) i2 b (nT i2 (by simp)).2.symm vs.toArray
    have lu : i < us.toArray.size := by
      have := (List.getElem?_eq_some_iff.mp hu).1
      simpa using this
    have lv : i < vs.toArray.size := by
      have := (List.getElem?_eq_some_iff.mp hv).1
      simpa using this
    have zl : z < s.heap.objs.size := Heap.lt_size q1
    have below : ∀ c ∈ [z, TI, TO, i1, i2], c < s.heap.objs.size := fun c m => let ⟨o, e, _⟩ := stM_obj q m; Heap.lt_size e
    refine wpAny_pyNext_zipD2_item S D1 D2 q1 q2 q3 ⟨q4, pu.isList⟩ ⟨q5, pv⟩ lu lv fun u' v' h1 tk e1 e2 r1 r2 r3 r4 r5 r6 more => ?_
    obtain rfl : u' = u := by
      have e1' : us[i]? = some u' := by simpa using e1
      rw [hu] at e1'
      exact (Option.some.inj e1').symm
    obtain rfl : v' = v := by
      have e2' : vs[i]? = some v' := by simpa using e2
      rw [hv] at e2'
      exact (Option.some.inj e2').symm
    refine ⟨_, rfl, wpAny_letOwnedTupleGo_zip (s := { s with heap := h1, toks := tk }) r1 fun h2 r1' sb => ?_⟩
    have there : h2.get? s.heap.objs.size = some { cls := .type "tuple", data := .seq #[u', v'] } := (sb.2 _ (Nat.ne_of_gt zl)).trans r5
    have obj : ObjOk X.prog X.w (upd H s.heap.objs.size (.tup [x, y])) h2 s.heap.objs.size (.tup [x, y]) := ⟨(by show 2 ≤ sizeLine; decide), [u', v'], .cons rxu (.cons ryv .nil), _, there, rfl, _, rfl⟩
    have I1 : Inv X pins σ (upd H s.heap.objs.size (.tup [x, y])) { s with heap := h2, toks := tk } := by
      refine I.turnedNew (t' := tk) (ch := [z, TI, TO, i1, i2]) (fun c o nb e => ?_) free (Nat.le_refl _) obj
      have n1 : c ≠ z := fun g => nb (by simp [g])
      have n3 : c ≠ TO := fun g => nb (by simp [g])
      have n4 : c ≠ i1 := fun g => nb (by simp [g])
      have n5 : c ≠ i2 := fun g => nb (by simp [g])
      exact (sb.2 c n1).trans (more c o n1 n3 n4 n5 e)
    refine ⟨.ref s.heap.objs.size, _, I1, rfl, ⟨_, x, y, rfl, I.hok.fresh (Nat.le_refl _), rfl, fun l hl => ?_, fun l hl => ?_⟩, ⟨r1', ?_, ⟨u', v', ?_⟩, ?_, ?_⟩, fun c m => ?_⟩
    · rw [I.list_inj hl sx]; exact hx
    · rw [I.tuple_inj hl sy]; exact hy
    · exact (sb.2 _ S.TIz).trans (more _ _ S.TIz S.TITO S.TIi1 S.TIi2 q2)
    · exact (sb.2 _ S.TOz).trans r2
    · exact r3.1.at fun o e => (sb.2 _ S.zi1.symm).trans e
    · exact r4.1.at fun o e => (sb.2 _ S.zi2.symm).trans e
    · rw [upd_ne (Nat.ne_of_lt (below c m))]
      exact (free c m).1
  done := by
    rintro X rfl rfl rfl hc i pins s σ H E I free q ⟨xs, ys, sx, sy, en⟩
    obtain ⟨q1, q2, ⟨x0, y0, q3⟩, q4, q5⟩ := id q
    obtain ⟨us, ru, pu, _⟩ := I.list sx
    obtain ⟨vs, rv, pv, _⟩ := I.tuple sy
    have D1 := Draws.list (prog := X.prog) (w := X.w) (A := X.A.in1) (I.ok.hd hc) i1 a (nT i1 (by simp)).1.symm us.toArray
    have D2 := drawsTup (prog := X.prog) (w := X.w) (A := X.A.in1) (I.ok.hd hc) i2 b (nT i2 (by simp)).2.symm vs.toArray
    have l1 : us.toArray.size = xs.length := by rw [ru.length]; simp
    have l2 : vs.toArray.size = ys.length := by rw [rv.length]; simp
    refine wpAny_pyNext_zipD2_end S D1 D2 q1 q2 q3 ⟨q4, pu.isList⟩ ⟨q5, pv⟩ (by omega) (by omega) (by omega) fun h1 tk more => ⟨rfl, ?_⟩
    refine I.turnedL (t' := tk) (ch := [z, TI, TO, i1, i2]) (fun c o nb e => ?_) free
    exact more c o (fun g => nb (by simp [g])) (fun g => nb (by simp [g])) (fun g => nb (by simp [g])) (fun g => nb (by simp [g])) e
/-! ### the zip is made -/
abbrev zm1 (h : Heap) (l : Addr) : Heap := h.push { cls := .type "list_iterator", data := .fields #[.ref l, .int 0 0] }
abbrev zm2 (h : Heap) (l t : Addr) : Heap := (zm1 h l).push { cls := .type "tuple_iterator", data := .fields #[.ref t, .int 0 0] }
abbrev zm3 (h : Heap) (l t : Addr) : Heap := (zm2 h l t).push { cls := .type "tuple", data := .seq #[.ref h.objs.size, .ref (zm1 h l).objs.size] }
abbrev zm4 (h : Heap) (l t : Addr) : Heap := (zm3 h l t).push { cls := .type "tuple", data := .seq #[.none, .none] }
abbrev zm5 (h : Heap) (l t : Addr) : Heap := (zm4 h l t).push { cls := .type "zip", data := .fields #[.none, .bool false, .bool false, .ref (zm2 h l t).objs.size, .ref (zm3 h l t).objs.size] }
theorem meets_zipM (l t : Addr) (xs ys : Array Value) : Meets (Builtin.«zip.__new__» ⟨[.type "zip", .ref l, .ref t], []⟩) (fun _ R s => s.heap.IsList l xs ∧ s.heap.IsTuple t ys ∧ R (.ok (.ret (.ref (zm4 s.heap l t).objs.size))) { s with heap := zm5 s.heap l t }) :=
  .of_wp fun prog w A R s ⟨il, it, r⟩ => by
    obtain ⟨hp, g, d, tk, os⟩ := s
    have sub := sub_zip
    have q1 : Heap.IsList (Shared.heap ⟨hp, g, d, tk, os⟩) l xs := il
    have q2 : Heap.IsTuple (Shared.heap ⟨hp.push { cls := .type "list_iterator", data := .fields #[.ref l, .int 0 0] }, g, d, tk, os⟩) t ys := it.push _
    wp_walk using wpAny_pyIter_list q1, wpAny_pyIter_tuple q2
    exact ⟨_, rfl, r⟩
section
variable {prog : Program} {w : World} {A : Around} {E : Value → Shared → Prop} {s : Shared}
theorem call_zipM {l t : Addr} {xs ys : Array Value} {Q : Value → Shared → Prop} (il : s.heap.IsList l xs) (it : s.heap.IsTuple t ys)
    (wish : ∀ h', stM (s.heap.objs.size + 4) (s.heap.objs.size + 2) (s.heap.objs.size + 3) s.heap.objs.size (s.heap.objs.size + 1) l t 0 h' → (∀ c o, s.heap.get? c = some o → h'.get? c = some o) → Q (.ref (s.heap.objs.size + 4)) { s with heap := h' }) :
    wpAny (model prog w) A (call (.type "zip") [.ref l, .ref t]) Q E s := by
  refine callType_new F.called_zip (by decide) (F.typeCall_zip_2 _ _) (F.newCall_zip_2 _ _) (fun obj => F.args_object_init_3 obj _ _) F.entry_zip_new (meets_zipM l t xs ys) ⟨il, it, ?_⟩
  have n1 : (zm1 s.heap l).objs.size = s.heap.objs.size + 1 := Heap.size_push ..
  have n2 : (zm2 s.heap l t).objs.size = s.heap.objs.size + 2 := by rw [Heap.size_push, n1]
  have n3 : (zm3 s.heap l t).objs.size = s.heap.objs.size + 3 := by rw [Heap.size_push, n2]
  have n4 : (zm4 s.heap l t).objs.size = s.heap.objs.size + 4 := by rw [Heap.size_push, n3]
  have up := fun (h : Heap) (o : Obj) {c : Addr} {q : Obj} (e : h.get? c = some q) => Heap.get?_push_of_some (h := h) o e
  have a5 : (zm5 s.heap l t).get? (zm4 s.heap l t).objs.size = some _ := Heap.get?_push_size _ rfl
  have a4 : (zm5 s.heap l t).get? (zm3 s.heap l t).objs.size = some _ := up _ _ (Heap.get?_push_size _ rfl)
  have a3 : (zm5 s.heap l t).get? (zm2 s.heap l t).objs.size = some _ := up _ _ (up _ _ (Heap.get?_push_size _ rfl))
  have a2 : (zm5 s.heap l t).get? (zm1 s.heap l).objs.size = some _ := up _ _ (up _ _ (up _ _ (Heap.get?_push_size _ rfl)))
  have a1 : (zm5 s.heap l t).get? s.heap.objs.size = some _ := up _ _ (up _ _ (up _ _ (up _ _ (Heap.get?_push_size _ rfl))))
  show _ ∧ _
  rw [n2, n3, n4] at a5
  rw [n3] at a4
  rw [n1, n2] at a3
  rw [n1] at a2
  rw [n4]
  exact ⟨⟨_, a5, rfl⟩, wish _ ⟨a5, a3, ⟨_, _, a4⟩, ⟨_, a1, rfl, rfl⟩, ⟨_, a2, rfl, rfl⟩⟩ fun c o e => up _ _ (up _ _ (up _ _ (up _ _ (up _ _ e))))⟩
end
theorem far5 {n a c : Nat} (h : a < n) (m : c = n + 4 ∨ c = n + 2 ∨ c = n + 3 ∨ c = n ∨ c = n + 1) : c ≠ a ∧ n ≤ c := by omega
def iZipM (K : PySem.W.Frag) (ta : TA) : TI := fun σ H R => ta σ H fun vs H1 => ∃ a b xs ys, vs = [.ref a, .ref b] ∧ SqL K H1 a xs ∧ SqT K H1 b ys ∧ R (ItzM K a b) H1
theorem pi_zipM {X : Cx} {e e2 : Expr} {ta : TA} {p pos tpos : Pos} {elts : List Expr} {kk : Nat} (hg : Gl X "zip") (hm : X.mg "zip" = none) (ha : PA X [e, e2] ta)
    (h1 : starEach [e, e2] X.env = (false, eval e X.env) :: starEach [e2] X.env := by rfl) (h2 : (backTo pos (starEach [e2] X.env)).any (·.1) = false := by rfl) :
    PI X (.Tuple elts kk tpos) (.Call (.Name "zip" p) [e, e2] [] pos) (iZipM X.K ta) := by
  refine ⟨fun pins s σ H R I wish => Call_ (ld_blt I hg hm PyProof.Rows.boot_zip (PyProof.Rows.callWith_type1 (thn (ha.run pos pins s σ H _ I wish) fun us t ⟨vs, H1, J, rel, a, b, xs, ys, ev, sx, sy, q⟩ => ?_) h1 h2))⟩
  subst ev
  cases rel with
  | cons r rr => cases rr with
    | cons r' rr =>
      cases rr
      cases r
      cases r'
      obtain ⟨us, ru, pu, _⟩ := J.list sx
      obtain ⟨vs, rv, pv, _⟩ := J.tuple sy
      obtain ⟨o2, e2, _⟩ := id pv
      have la : a < t.heap.objs.size := pu.lt
      have lb : b < t.heap.objs.size := Heap.lt_size e2
      refine call_zipM pu.isList (show t.heap.IsTuple b vs.toArray from pv) fun h' st up => wpAny_pyIter_zip st.1 ?_
      refine ⟨t.heap.objs.size + 4, [t.heap.objs.size + 4, t.heap.objs.size + 2, t.heap.objs.size + 3, t.heap.objs.size, t.heap.objs.size + 1], _, _, H1, rfl, J.kept (t' := t.toks) up, turn_zipM (sepM la lb) (fun c m => ?_), st, fun c m => ?_, q⟩
      · exact ⟨(far5 la (in5 m)).1, (far5 lb (in5 m)).1⟩
      · have le : t.heap.objs.size ≤ c := (far5 la (in5 m)).2
        exact J.fpOk le (J.hok.fresh le)
theorem walk_zipM {K : PySem.W.Frag} {a b : Addr} {xs ys : List V} {n : Nat} (h1 : xs.length = n) (h2 : ys.length = n) : Walk (ItzM K a b) n (fun H => SqL K H a xs ∧ SqT K H b ys) (YPair (fun i => xs[i]?) (fun i => ys[i]?)) := by
  refine ⟨fun i _ hi q => ?_, fun _ q => ⟨xs, ys, q.1, q.2, .inl ⟨h1, by omega⟩⟩, fun i H v H' _ q ⟨T, x, y, e1, e2, e3, e4, e5⟩ => ⟨T, x, y, e1, e2, e3, e4 xs q.1, e5 ys q.2⟩⟩
  have l1 : i < xs.length := by omega
  have l2 : i < ys.length := by omega
  exact ⟨xs, ys, xs[i], ys[i], q.1, q.2, by simp [l1], by simp [l2]⟩
end HG

/-! set(list of ints), any number of them -/
namespace HG
open PySem PySem.Spec PyProof.Rows L2
abbrev blankSet (w : World) : Obj := { cls := .type "set", dict := none, data := .set #[] 0 (.fresh 0 0 (!w.params.followText "set-order")) }
theorem ints_at : ∀ {vs : List Value} {ns : List Int}, IntsAre vs ns → ∀ (i : Nat) (v : Value), vs[i]? = some v → ∃ k t, ns[i]? = some k ∧ v = .int k t
  | _, _, .nil, i, v, e => by cases e
  | _, _, .cons n t h, 0, v, e => by cases e; exact ⟨n, t, rfl, rfl⟩
  | _, _, .cons n t h, i + 1, v, e => ints_at h i v e
set_option maxHeartbeats 3200000 in
/-- set(x): the new set, then its __init__ -/
theorem call_set1 {P : Program} {w : World} {A : Around} {E : Value → Shared → Prop} {s : Shared} {x : Value} {Q : Value → Shared → Prop}
    (body : wpAny (model P w) A.in1.in1 (Builtin.«set.__init__» ⟨[.ref s.heap.objs.size, x], []⟩) (fun f s2 => f = .done (.ret .none) ∧ Q (.ref s.heap.objs.size) s2) E { s with heap := s.heap.push (blankSet w) }) :
    wpAny (model P w) A (call (.type "set") [x]) Q E s := by
  have notT := F.called_set.notType; have creates := F.called_set.canCreate; have isSub := F.called_set.sub; have mades := F.called_set.made; have tc := F.typeCall_set_1 x
  obtain ⟨c0, tl0, hmro0⟩ := F.called_set.mro
  have hnew : (s.heap.push (blankSet w)).get? s.heap.objs.size = some (blankSet w) := Heap.get?_push_size _ rfl
  have isSet : Shared.TypeIs { s with heap := s.heap.push (blankSet w) } (.ref s.heap.objs.size) "set" := ⟨_, hnew, rfl⟩
  apply wpAny_call; apply codeAny_of_tree
  show wpAny _ _ (callAny (.type "set") _) _ _ _
  refine wpAny_pure ⟨Code.quiet_builtin _ (by decide +kernel), codeAny_builtin F.entry_type_call ?_⟩; rw [Around.under_plain (weight_type_call_type "set" [x] []) rfl]
  repeat any_goals first | assumption | wp_step
  refine codeAny_mono (code_set_led1 x (E := E) (Q₁ := fun o s1 => o = .ref s.heap.objs.size ∧ s1 = { s with heap := s.heap.push (blankSet w) }) ⟨rfl, rfl⟩) fun r s1 hr => ?_
  match r, hr with
  | .error e, hr => exact hr
  | .ok (.ret o), ⟨e1, e2⟩ =>
    subst e1; subst e2
    have lk := F.called_set.init.lookup; have bd := F.called_set.init.bind (.ref s.heap.objs.size)
    repeat any_goals first | assumption | wp_step
    refine codeAny_mono (codeAny_call_builtin (R := wants (fun r s2 => r = .none ∧ Q (.ref s.heap.objs.size) s2) E) F.called_set.init.plain F.entry_set_init (check_set_init_1 isSet ?_)) fun r2 s2 h2 => ?_
    · exact wpAny_mono body (fun f s' q => by obtain ⟨e, q⟩ := q; subst e; exact ⟨rfl, q⟩) fun _ _ h => h
    · match r2, h2 with
      | .error e, h2 => exact h2
      | .ok (.ret r), ⟨e3, h3⟩ =>
        subst e3
        repeat any_goals first | assumption | wp_step
      | .ok .next, h2 => exact h2.elim
      | .ok .brk, h2 => exact h2.elim
      | .ok .cont, h2 => exact h2.elim
  | .ok .next, hr => exact hr.elim
  | .ok .brk, hr => exact hr.elim
  | .ok .cont, hr => exact hr.elim
set_option maxHeartbeats 3200000 in
theorem call_set_listI {P : Program} {w : World} {A : Around} {E : Value → Shared → Prop} {s : Shared} {l : Addr} {items : Array Value} (ns : List Int) {Q : Value → Shared → Prop} (hh : A.handled = none) (hl : s.heap.IsList l items) (hi : IntsAre items.toList ns) (hz : ns.length + 1 < scanBound)
    (k : ∀ (s' : Shared) (c : Nat), SetR w s'.heap s.heap.objs.size (fun j => decide (j ∈ ns)) c → c ≤ ns.length → (∀ (b : Addr) (o : Obj), s.heap.get? b = some o → s'.heap.get? b = some o) → s'.gens = s.gens → s'.os = s.os → Q (.ref s.heap.objs.size) s') :
    wpAny (model P w) A (call (.type "set") [.ref l]) Q E s := by
  refine call_set1 ?_
  have hnew : (s.heap.push { cls := Value.type "set", data := Data.set #[] 0 (SetTable.fresh 0 0 !w.params.followText "set-order") }).get? s.heap.objs.size = some { cls := Value.type "set", data := Data.set #[] 0 (SetTable.fresh 0 0 !w.params.followText "set-order") } := Heap.get?_push_size _ rfl
  unfold Builtin.«set.__init__»
  refine wpAny_bind ?_
  have e1 : noKeywords "set" { pos := [Value.ref s.heap.objs.size, Value.ref l] } = pure () := rfl
  rw [e1]
  refine wpAny_pure ?_
  refine wpAny_bind ?_
  unfold typeNameOfCut
  refine wpAny_bind ?_
  unfold shownTypeOf
  refine wpAny_bind ?_
  refine wpAny_typeOf (T := "set") ⟨_, hnew, rfl⟩ ?_
  have e2 : (Value.type "set" == Value.type "builtin_function_or_method") = false := rfl
  simp only [e2]
  refine wpAny_pure ?_
  refine wpAny_pure (a := (Manifest.find? "set").elim "set" fun x => x.tpName) ?_
  refine wpAny_bind ?_
  have e3 : ∀ z : String, (checkCount z 0 1 [Value.ref l].length : Sem Unit) = pure () := fun _ => rfl
  rw [e3]
  refine wpAny_pure ?_
  refine wpAny_bind ?_
  refine wpAny_pure (a := s.heap.objs.size) ?_
  refine wpAny_bind ?_
  unfold setUsed
  refine wpAny_bind ?_
  refine wpAny_setState_of hnew rfl rfl ?_
  refine wpAny_pure ?_
  have e4 : ((SetTable.fresh 0 0 !w.params.followText "set-order").fill != 0) = false := rfl
  simp only [e4, Bool.false_eq_true, if_false]
  refine wpAny_bind ?_
  unfold Builtin.Frozenset.updateFrom
  refine wpAny_bind ?_
  unfold Builtin.Frozenset.isAnySet
  have tl : ∀ h' : Heap, (∀ (b : Addr) (o : Obj), s.heap.get? b = some o → h'.get? b = some o) → ∃ o, h'.get? l = some o ∧ o.cls = Value.type "list" := fun h' kk => by
    obtain ⟨o, h1, h2, _⟩ := hl
    exact ⟨o, kk _ _ h1, h2⟩
  have kk1 : ∀ (b : Addr) (o : Obj), s.heap.get? b = some o → (s.heap.push { cls := Value.type "set", data := Data.set #[] 0 (SetTable.fresh 0 0 !w.params.followText "set-order") }).get? b = some o := fun b o e => Heap.get?_push_of_some _ e
  unfold orM
  refine wpAny_bind ?_
  refine wpAny_isInstance (T := "list") (b := false) (tl _ kk1) (by rfl) ?_
  show wpAny _ _ (isInstance (Value.ref l) (Value.type "frozenset")) _ _ _
  refine wpAny_isInstance (T := "list") (b := false) (tl _ kk1) (by rfl) ?_
  simp only [Bool.false_eq_true, if_false]
  refine wpAny_bind ?_
  refine wpAny_typeOf (T := "list") (tl _ kk1) ?_
  have e5 : (Value.type "list" == Value.type "dict") = false := rfl
  simp only [e5, Bool.false_eq_true, if_false]
  refine wpAny_bind ?_
  have hl2 : (s.heap.push { cls := Value.type "set", data := Data.set #[] 0 (SetTable.fresh 0 0 !w.params.followText "set-order") }).IsList l items := by
    obtain ⟨o, h1, h2⟩ := hl
    exact ⟨o, kk1 _ _ h1, h2⟩
  refine wpAny_pyIter_list hl2 ?_
  refine wpAny_bind ?_
  refine wpAny_runValue ?_
  have hlt : l < s.heap.objs.size := by
    obtain ⟨o, h1, _⟩ := hl
    exact lt_get h1
  have hsz : items.size = ns.length := by
    have := hi.length
    rw [Array.length_toList] at this
    exact this
  have hpush : (s.heap.push { cls := Value.type "set", data := Data.set #[] 0 (SetTable.fresh 0 0 !w.params.followText "set-order") }).objs.size = s.heap.objs.size + 1 := Array.size_push ..
  have hit : ((s.heap.push { cls := Value.type "set", data := Data.set #[] 0 (SetTable.fresh 0 0 !w.params.followText "set-order") }).push { cls := Value.type "list_iterator", data := Data.fields #[Value.ref l, Value.int 0 0] }).get? (s.heap.push { cls := Value.type "set", data := Data.set #[] 0 (SetTable.fresh 0 0 !w.params.followText "set-order") }).objs.size = some { cls := Value.type "list_iterator", data := Data.fields #[Value.ref l, Value.int 0 0] } := Heap.get?_push_size _ rfl
  have hs2 := Heap.get?_push_of_some { cls := Value.type "list_iterator", data := Data.fields #[Value.ref l, Value.int 0 0] } hnew
  have hne : l ≠ (s.heap.push { cls := Value.type "set", data := Data.set #[] 0 (SetTable.fresh 0 0 !w.params.followText "set-order") }).objs.size := by
    rw [hpush]
    exact Nat.ne_of_lt (Nat.lt_succ_of_lt hlt)
  refine set_update_ints (n := items.size) ((Walks.list (A := A.in1.in1.in1) hh _ l hne items).toS) _ ?_ ns hsz hz (fun i v e => ints_at hi i v (by simpa using e)) _ 0 _ rfl (Nat.zero_le _) ⟨⟨_, hit, rfl, rfl⟩, ?_⟩ ⟨0, Nat.le_refl _, setR_new_at hs2⟩ ?_
  · intro hm
    have hm : s.heap.objs.size ∈ [(s.heap.push { cls := Value.type "set", data := Data.set #[] 0 (SetTable.fresh 0 0 !w.params.followText "set-order") }).objs.size, l] := hm
    rw [hpush] at hm
    rcases List.mem_cons.mp hm with h | h
    · exact Nat.ne_of_lt (Nat.lt_succ_self _) h
    · exact Nat.ne_of_gt hlt (List.mem_singleton.mp h)
  · obtain ⟨o, h1, h2⟩ := hl2
    exact ⟨o, Heap.get?_push_of_some _ h1, h2⟩
  · intro s' c hm hc hR
    refine wpAny_pure ?_
    refine wpAny_pure ?_
    refine ⟨rfl, k s' c hR (hsz ▸ hc) (fun b o e => hm.heap b o (fun hmem => ?_) (Heap.get?_push_of_some _ (kk1 b o e))) hm.gens hm.os⟩
    have hb := lt_get e
    rcases List.mem_cons.mp hmem with h | h
    · exact Nat.ne_of_lt hb h
    · have h := List.mem_singleton.mp h
      rw [hpush] at h
      exact Nat.ne_of_lt (Nat.lt_succ_of_lt hb) h
/-- set(xs), xs a list of ints -/
def rSetI (K : PySem.W.Frag) (w : World) : List V → Hp → VK → Prop := fun vs H Q => ∃ (a : Addr) (ns : List Int), vs = [V.ref a] ∧ SqL K H a (ns.map V.int) ∧ ns.length + 1 < scanBound ∧
  ∀ (p : Addr) (c : Nat), H p = none → c ≤ ns.length → Q (.ref p) (upd H p (SetO w p (fun j => decide (j ∈ ns)) c))
theorem cr_setI {X : Cx} (hc : X.calm = true) : CallR X (.type "set") (rSetI X.K X.w) := by
  intro pins s σ H vs us Q I r h
  obtain ⟨a, ns, rfl, hs, hz, q⟩ := h
  obtain ⟨its, rv, hl, hz2⟩ := I.list hs
  rw [Vals.ref1 r]
  refine call_set_listI ns (I.ok.hd hc) hl.isList rv.ints hz fun s' c hR hcl hk hg ho => ?_
  have hpn := I.hok.fresh (Nat.le_refl s.heap.objs.size)
  refine ⟨.ref s.heap.objs.size, upd H s.heap.objs.size (SetO X.w s.heap.objs.size (fun j => decide (j ∈ ns)) c), ?_, rfl, q _ c hpn hcl⟩
  exact inv_drawn (I.laid (h' := s'.heap) (a := s.heap.objs.size) (t' := s'.toks) hk (Nat.le_refl _) (setO_new hR)) rfl hg ho
/-- sorted(set(xs)): each once, rising -/
theorem sorted_set_ints {ns ks : List Int} (h1 : ks.Pairwise (· < ·)) (h2 : ∀ k : Int, k ∈ ks ↔ decide (k ∈ ns) = true) : ks.Pairwise (· < ·) ∧ ∀ k, k ∈ ks ↔ k ∈ ns := ⟨h1, fun k => by rw [h2 k, decide_eq_true_iff]⟩
end HG

/-! a song as the law makes it, and what the law's own song sings -/
namespace HG
open PySem PySem.Spec PyProof.Rows L2 HF
theorem paired_snoc {α β : Type} {F : α → β → Prop} {a : α} {b : β} : ∀ {xs : List α} {ys : List β}, PySem.Paired F xs ys → F a b → PySem.Paired F (xs ++ [a]) (ys ++ [b])
  | _, _, .nil, h => .cons h .nil
  | _, _, .cons g t, h => .cons g (paired_snoc t h)
theorem paired_len {α β : Type} {F : α → β → Prop} : ∀ {xs : List α} {ys : List β}, PySem.Paired F xs ys → xs.length = ys.length
  | _, _, .nil => rfl
  | _, _, .cons _ t => congrArg (· + 1) (paired_len t)
def kvN (ns : List (Str × Nat)) : List (Key × V) := ns.map fun r => (Sum.inr r.1, V.int (r.2 : Int))
theorem mergeK_val {k : Key} : ∀ (kvs acc : List (Key × V)), (kvs.map (·.1)).Nodup → valV (mergeK acc kvs) k = match kvs.find? (fun p => decide (p.1 = k)) with | some p => some p.2 | none => valV acc k
  | [], acc, _ => rfl
  | p :: kvs, acc, nd => by
    rw [List.map_cons] at nd
    have nd' := List.nodup_cons.mp nd
    show valV (mergeK (putK acc p.1 p.2) kvs) k = _
    rw [mergeK_val kvs _ nd'.2]
    by_cases c : p.1 = k
    · rw [List.find?_cons_of_pos (by exact decide_eq_true c)]
      have hn : kvs.find? (fun p => decide (p.1 = k)) = none := by
        rw [List.find?_eq_none]
        intro q hq e
        have e := of_decide_eq_true e
        exact nd'.1 (List.mem_map.mpr ⟨q, hq, by rw [e, c]⟩)
      rw [hn]
      show valV (putK acc p.1 p.2) k = some p.2
      rw [valV_put, if_pos c.symm]
    · rw [List.find?_cons_of_neg (by rw [decide_eq_false c]; exact nofun)]
      cases e : kvs.find? (fun p => decide (p.1 = k)) with
      | some q => rfl
      | none =>
        show valV (putK acc p.1 p.2) k = valV acc k
        rw [valV_put, if_neg (fun z => c z.symm)]
theorem kvN_find (z : Str) : ∀ ns : List (Str × Nat), ((kvN ns).find? fun p => decide (p.1 = Sum.inr z)).map (·.2) = ((ns.find? fun r => decide (r.1 = z)).map (·.2)).map fun n : Nat => V.int (n : Int)
  | [] => rfl
  | r :: ns => by
    have ih := kvN_find z ns
    unfold kvN at *
    rw [List.map_cons]
    by_cases c : r.1 = z
    · rw [List.find?_cons_of_pos (by exact decide_eq_true (by rw [c])), List.find?_cons_of_pos (by exact decide_eq_true c)]
      rfl
    · rw [List.find?_cons_of_neg (by rw [decide_eq_false (fun e => c (Sum.inr.inj e))]; exact nofun), List.find?_cons_of_neg (by rw [decide_eq_false c]; exact nofun)]
      exact ih
theorem notes_val {ps : List Put} (nd : (ps.map putKey).Nodup) (b : Nat) (z : Str) : valV (mergeK [] (kvN (notesAt ps b))) (Sum.inr z) = (cueAt ps b z).map fun n : Nat => V.int (n : Int) := by
  have hn : ((kvN (notesAt ps b)).map (·.1)).Nodup := by
    have h := notesAt_nodup (b := b) nd
    have e : (kvN (notesAt ps b)).map (·.1) = ((notesAt ps b).map (·.1)).map (Sum.inr : Str → Key) := by
      unfold kvN
      rw [List.map_map, List.map_map]
      rfl
    rw [e]
    exact h.map _ fun a c q e => q (Sum.inr.inj e)
  rw [mergeK_val _ _ hn]
  have h := kvN_find z (notesAt ps b)
  rw [notesAt_find] at h
  cases e : (kvN (notesAt ps b)).find? (fun p => decide (p.1 = Sum.inr z)) with
  | none =>
    rw [e] at h
    have h : none = (cueAt ps b z).map fun n : Nat => V.int (n : Int) := h
    rw [← h]
    rfl
  | some p =>
    rw [e] at h
    have h : some p.2 = (cueAt ps b z).map fun n : Nat => V.int (n : Int) := h
    rw [← h]
/-- what comes one behind another, up to a beat -/
theorem upto_le {bs : List Nat} (h : bs.Pairwise (· < ·)) (b : Nat) : ((bs.filter fun z => decide (z ≤ b)) ++ [b]).Pairwise (· ≤ ·) := by
  rw [List.pairwise_append]
  refine ⟨(h.filter _).imp fun {x y} q => Nat.le_of_lt q, List.pairwise_singleton _ _, fun x hx y hy => ?_⟩
  rw [List.mem_singleton.mp hy]
  exact of_decide_eq_true (List.mem_filter.mp hx).2
theorem sqT_lst {K : PySem.W.Frag} {H : Hp} {D p : Addr} {xs ts : List V} {o : HO} (hD : H D = some (.lst xs)) (h : SqT K H p ts) : SqT K (upd H D o) p ts := by
  rcases h with (h | ⟨q, h⟩) | ⟨q, its, n, h1, h2, h3⟩
  · exact .inl (.inl (by rw [upd_ne (fun z => by rw [z, hD] at h; cases h)]; exact h))
  · exact .inl (.inr ⟨q, by rw [upd_ne (fun z => by rw [z, hD] at h; cases h)]; exact h⟩)
  · exact .inr ⟨q, its, n, h1, h2, h3⟩
theorem len_subN : ∀ {xs ys : List Nat}, xs.Nodup → (∀ x ∈ xs, x ∈ ys) → xs.length ≤ ys.length
  | [], _, _, _ => Nat.zero_le _
  | x :: xs, ys, nd, h => by
    have hx := h x List.mem_cons_self
    have nd' := List.nodup_cons.mp nd
    have := len_subN (ys := ys.erase x) nd'.2 fun y hy => (List.mem_erase_of_ne (fun z => nd'.1 (by rw [← z]; exact hy))).mpr (h y (List.mem_cons_of_mem _ hy))
    rw [List.length_erase_of_mem hx] at this
    have hp := List.length_pos_of_mem hx
    rw [List.length_cons]
    omega
theorem spots_len {P : Parts} {S : SongD} {bs : List Nat} (sok : SOk P S) (h : Spots S bs) : bs.length ≤ 201 := by
  have n1 : bs.Nodup := h.1.imp fun {a b} q => Nat.ne_of_lt q
  have := len_subN (ys := 0 :: (S.stops ++ S.puts.map (·.1))) n1 fun b hb => by
    rw [List.mem_cons, List.mem_append]
    exact (h.2 b).mp hb
  rw [List.length_cons, List.length_append, List.length_map] at this
  have h1 := sok.putL
  have h2 := sok.stopL
  omega
def spSongMade (K : PySem.W.Frag) (At : Hp → Addr → Parts → Prop) (C : Addr) : Sp := fun vs H Q _ => ∃ (G : Hp) (x : Addr) (sv : V) (P : Parts) (S : SongD), vs = [.ref x, sv] ∧ Same G H ∧ At G x P ∧ P.Ok 64 ∧ SongAt K G sv S ∧ SOk P S ∧ SNear S ∧
  ∀ (y : Addr) (H' : Hp) (bs : List Nat), Same H H' → H y = none → Spots S bs → SoC K At C (more G H H') y P S bs → Q (.ref y) H'
def spSpots (K : PySem.W.Frag) : Sp := fun vs H Q _ => ∃ (G : Hp) (sv : V) (P : Parts) (S : SongD), vs = [sv] ∧ Same G H ∧ SongAt K G sv S ∧ SOk P S ∧ ∀ (q : Addr) (H' : Hp) (bs : List Nat), Same H H' → H q = none → H' q = some (.lst (nVs bs)) → Spots S bs → Q (.ref q) H'
def spSung (K : PySem.W.Frag) : Sp := fun vs H Q _ => ∃ (G : Hp) (v sv : V) (P : Parts) (S : SongD) (b : Nat), vs = [v, sv, .int (b : Int)] ∧ Same G H ∧ Dp K G v (partsD P) ∧ P.Ok 64 ∧ SongAt K G sv S ∧ SOk P S ∧ b < 2 ^ 900 ∧
  ∀ (q : Addr) (H' : Hp) (bs : List Nat), Same H H' → H q = none → Spots S bs → H' q = some (.tup (nVs (sungL P S.puts S.first bs b))) → Q (.ref q) H'
theorem nat_cast_inj {a b : Nat} (h : (a : Int) = (b : Int)) : a = b := by omega
theorem rising_nat {ns : List Int} (h : ∀ i ∈ ns, 0 ≤ i) : ∃ bs : List Nat, ns = bs.map fun b : Nat => (b : Int) := by
  refine ⟨ns.map Int.toNat, ?_⟩
  rw [List.map_map]
  refine (List.map_id ns).symm.trans (List.map_congr_left fun i hi => ?_)
  exact (Int.toNat_of_nonneg (h i hi)).symm
end HG

/-! max(list of ints, default=d) -/
namespace HG
open PySem PySem.Spec PyProof.Rows L2
theorem maxOf_int (y : Int) : ∀ ys : List Int, (PySem.W.maxOf y ys = y ∨ PySem.W.maxOf y ys ∈ ys) ∧ y ≤ PySem.W.maxOf y ys ∧ ∀ z ∈ ys, z ≤ PySem.W.maxOf y ys := by
  intro ys
  induction ys generalizing y with
  | nil => exact ⟨.inl rfl, Int.le_refl _, fun z hz => nomatch hz⟩
  | cons x ys ih =>
    have e : PySem.W.maxOf y (x :: ys) = PySem.W.maxOf (if y < x then x else y) ys := by
      show List.foldl _ (if decide (y < x) = true then x else y) ys = _
      by_cases c : y < x
      · rw [if_pos (decide_eq_true c), if_pos c]; rfl
      · rw [if_neg (by rw [decide_eq_false c]; exact nofun), if_neg c]; rfl
    rw [e]
    obtain ⟨h1, h2, h3⟩ := ih (if y < x then x else y)
    by_cases c : y < x
    · rw [if_pos c] at *
      refine ⟨.inr (h1.elim (fun q => by rw [q]; exact List.mem_cons_self) (List.mem_cons_of_mem _)), by omega, fun z hz => ?_⟩
      rcases List.mem_cons.mp hz with rfl | hz
      · exact h2
      · exact h3 z hz
    · rw [if_neg c] at *
      refine ⟨h1.elim .inl fun q => .inr (List.mem_cons_of_mem _ q), h2, fun z hz => ?_⟩
      rcases List.mem_cons.mp hz with rfl | hz
      · omega
      · exact h3 z hz
def tMaxD (K : PySem.W.Frag) (te td : TE) : TE := fun σ H Q => te σ H fun x H1 => td σ H1 fun d H2 => ∃ (a : Addr) (ns : List Int), x = .ref a ∧ SqL K H2 a (ns.map V.int) ∧ (ns = [] → Q d H2) ∧ ∀ m, m ∈ ns → (∀ y, y ∈ ns → y ≤ m) → Q (.int m) H2
theorem hold_ints {h : Heap} : ∀ {vs : List Value} {ns : List Int}, IntsAre vs ns → PySem.W.HoldAll h vs ns
  | _, _, .nil => PySem.W.HoldAll.nil
  | _, _, .cons n t r => PySem.W.HoldAll.cons ⟨[], Reads.int _ _⟩ (hold_ints r)
theorem pe_maxD {X : Cx} {e de : Expr} {te td : TE} {p pos kp : Pos} {k : Nat} (hr : Room k X.A) (calm : X.calm = true) (hg : Gl X "max") (hm : X.mg "max" = none) (he : PE X e te) (hd : PE X de td)
    (h1 : starEach [e] X.env = (false, eval e X.env) :: starEach [] X.env := by rfl) (h2 : backTo pos (starEach [e] X.env) = (false, eval e X.env) :: backTo pos (starEach [] X.env) := by rfl) (h3 : (backTo pos (starEach [e] X.env)).any (·.1) = false := by rfl) : PE X (.Call (.Name "max" p) [e] [⟨some "default", de, kp⟩] pos) (tMaxD X.K te td) := by
  refine ⟨fun pins s σ H Q I wish => ?_⟩
  refine wpAny_Call_Name_kw (ld_blt I hg hm (show bootBuiltins "max" = some (.builtin "max") by decide +kernel) ?_ (by decide) (by decide))
  let fin : V → V → Hp → Prop := fun x d H2 => ∃ (a : Addr) (ns : List Int), x = .ref a ∧ SqL X.K H2 a (ns.map V.int) ∧ (ns = [] → Q d H2) ∧ ∀ m, m ∈ ns → (∀ y, y ∈ ns → y ≤ m) → Q (.int m) H2
  refine PyProof.Rows.callWith_kw (he := h2) (hplain := h3) (thn ((pa_cons he pa_nil h1).run pos pins s σ H (fun vs H1 => match vs with | [x] => td σ H1 fun d H2 => fin x d H2 | _ => False) I wish) fun us s1 ⟨vs, H1, I1, r1, q1⟩ => ?_)
  obtain ⟨x, ev⟩ : ∃ x, vs = [x] := by
    match vs, q1 with
    | [x], _ => exact ⟨x, rfl⟩
  subst ev
  obtain ⟨u, eu, ru⟩ := vals1 r1
  subst eu
  refine thn ((pk_cons (nm := some "default") (kpos := kp) hd pk_nil).run pos pins s1 σ H1 (fun zs H2 => match zs with | [d] => fin x d H2 | _ => False) I1 q1) fun ws s2 ⟨zs, H2, I2, r2, q2⟩ => ?_
  obtain ⟨d, ez⟩ : ∃ d, zs = [d] := by
    match zs, q2 with
    | [d], _ => exact ⟨d, rfl⟩
  subst ez
  obtain ⟨a, ns, rfl, hs, q0, q⟩ := q2
  obtain ⟨dv, ed, rd⟩ := vals1 r2
  subst ed
  cases ru
  obtain ⟨its, rv, hl, _⟩ := I2.list hs
  have un := hr.un
  show wpAny (model X.prog X.w) X.A (call (.builtin "max") [.ref a] [(Str.ofString "default", dv)]) _ _ s2
  refine PySem.W.max_list_datum_default (xs := ns) (I2.ok.hd calm) hl.isList (by simpa using hold_ints (h := s2.heap) rv.ints) (by show X.A.units + 1 + 0 < cLine; omega) (fun e h' tk hk => ⟨d, H2, I2.kept hk, rd, q0 e⟩) fun y ys i v h' tk e hi hh hk => ?_
  obtain ⟨m1, m2, m3⟩ := maxOf_int y ys
  obtain ⟨as, hrd⟩ := hh
  generalize PySem.W.maxOf y ys = m at *
  have hv : ∃ t, v = .int m t := by
    cases hrd
    exact ⟨_, rfl⟩
  refine ⟨.int m, H2, I2.kept hk, hv, q m ?_ fun z hz => ?_⟩
  · rw [e]
    rcases m1 with rfl | h
    · exact List.mem_cons_self
    · exact List.mem_cons_of_mem _ h
  · rw [e] at hz
    rcases List.mem_cons.mp hz with rfl | hz
    · exact m2
    · exact m3 z hz
/-! ### xs[::k], k 1 or -1 -/
theorem pick_one (xs : Array Value) : slicePick xs none none (some 1) = xs.toList.toArray := by
  have e : slicePick xs none none (some 1) = slicePick xs (some 0) none none := by
    unfold slicePick
    have eb : sliceBounds none none (some 1) xs.size = sliceBounds (some 0) none none xs.size := by
      simp [sliceBounds]
      omega
    rw [eb]
  rw [e]
  exact slicePick_from xs 0 (Nat.zero_le _)
def stepL {α : Type} (k : Int) (xs : List α) : List α := if k = 1 then xs else xs.reverse
theorem stepL_map {α β : Type} (f : α → β) (k : Int) (xs : List α) : (stepL k xs).map f = stepL k (xs.map f) := by
  unfold stepL
  by_cases c : k = 1
  · rw [if_pos c, if_pos c]
  · rw [if_neg c, if_neg c, List.map_reverse]
theorem stepL_mem {α : Type} {k : Int} {xs : List α} {x : α} : x ∈ stepL k xs ↔ x ∈ xs := by
  unfold stepL
  by_cases c : k = 1
  · rw [if_pos c]
  · rw [if_neg c, List.mem_reverse]
theorem stepL_len {α : Type} (k : Int) (xs : List α) : (stepL k xs).length = xs.length := by
  unfold stepL
  by_cases c : k = 1
  · rw [if_pos c]
  · rw [if_neg c, List.length_reverse]
def tStepL (K : PySem.W.Frag) (te ts : TE) : TE := fun σ H Q => te σ H fun x H1 => ∃ a, x = .ref a ∧ ts σ H1 fun y H2 => ∃ k, y = .int k ∧ ∃ xs : List V, (k = 1 ∨ k = -1) ∧ SqL K H2 a xs ∧ ∀ p, H2 p = none → Q (.ref p) (upd H2 p (.lst (stepL k xs)))
theorem pe_stepL {X : Cx} {e se : Expr} {te ts : TE} {p3 pos : Pos} (he : PE X e te) (hs : PE X se ts) : PE X (.Subscript e (.Slice none none (some se) p3) pos) (tStepL X.K te ts) := by
  refine ⟨fun pins s σ H Q I wish => ?_⟩
  refine Subscript_ (thn (he.run pins s σ H _ I wish) fun v s1 ⟨x, H1, I1, r1, a, ex, q1⟩ => ?_)
  subst ex
  cases r1
  refine wpAny_Slice (thn (po_none.run pins s1 σ H1 (fun o H2 => o = none ∧ H2 = H1) I1 ⟨rfl, rfl⟩) fun va s2 ⟨lo, H2, I2, pa, ea, eH2⟩ => ?_)
  subst ea eH2
  refine thn (po_none.run pins s2 σ H2 (fun o H3 => o = none ∧ H3 = H2) I2 ⟨rfl, rfl⟩) fun vb s3 ⟨up, H3, I3, pb, eb, eH3⟩ => ?_
  subst eb eH3
  refine thn ((po_some hs).run pins s3 σ H3 (fun o H4 => match o with | some k => ∃ xs : List V, (k = 1 ∨ k = -1) ∧ SqL X.K H4 a xs ∧ ∀ p, H4 p = none → Q (.ref p) (upd H4 p (.lst (stepL k xs))) | none => False) I3 q1) fun vk s4 ⟨st, H4, I4, pk, q2⟩ => ?_
  obtain ⟨k, ek⟩ : ∃ k, st = some k := by
    match st, q2 with
    | some k, _ => exact ⟨k, rfl⟩
  subst ek
  obtain ⟨xs, hk, hx, q⟩ := q2
  have I5 : L2.Inv X pins σ H4 { s4 with heap := s4.heap.push { cls := .type "slice", data := .fields #[va, vb, vk] } } := I4.kept (t' := s4.toks) fun b o g => Heap.get?_push_of_some _ g
  obtain ⟨us, ru, pu, sz⟩ := I5.list hx
  have len := ru.length
  show wpAny (model X.prog X.w) X.A (subscriptTail e (.Slice none none (some se) p3) (.ref a) (.ref s4.heap.objs.size)) (EP X pins σ Q) X.xe { s4 with heap := s4.heap.push { cls := .type "slice", data := .fields #[va, vb, vk] } }
  refine tail_any (ops := [.ref a, .ref s4.heap.objs.size]) pu.isList.typeIs (PySem.slot_list_getitem.lookup) ?_ (by with_unfolding_all rfl)
  refine wpAny_getItem_list_slice pu.isList (Heap.IsSliceOf.new _ va vb vk) pa pb pk (by rcases hk with rfl | rfl <;> decide) ?_ (by rw [List.size_toArray]; omega)
  have laid : ∀ (ys : List V) (zs : List Value), Vals ys zs → ys.length ≤ sizeLine → (∀ p, H4 p = none → Q (.ref p) (upd H4 p (.lst ys))) → EP X pins σ Q (.ref (s4.heap.push { cls := .type "slice", data := .fields #[va, vb, vk] }).objs.size) { s4 with heap := (s4.heap.push { cls := .type "slice", data := .fields #[va, vb, vk] }).push { cls := .type "list", data := .seq zs.toArray } } := fun ys zs r sz' q' =>
    ⟨.ref _, _, I5.laid (t' := s4.toks) (o := .lst ys) (fun b o g => Heap.get?_push_of_some _ g) (Nat.le_refl _) ⟨sz', _, 0, r, Heap.get?_push_size _ rfl⟩, rfl, q' _ (I5.hok.fresh (Nat.le_refl _))⟩
  rcases hk with rfl | rfl
  · rw [pick_one]
    exact laid xs us ru sz q
  · rw [PySem.W.krv_pick]
    exact laid xs.reverse us.reverse ru.reverse (by rw [List.length_reverse]; exact sz) q
end HG

/-! roads: from a voice at a beat by its elders to its source -/
namespace HG
open PySem PySem.Spec PyProof.Rows L2 HF
abbrev Spt := Nat × Str
/-- the last root ahead of a beat -/
def lastB (bs : List Nat) (b : Nat) : Nat := (bs.filter fun z => decide (z < b)).foldl (fun _ z => z) 0
theorem atR_fst (P : Parts) (ps : List Put) (st : List Nat) : ∀ L : List Nat, (atR P ps st L).1 = L.foldl (fun _ z => z) 0 := by
  intro L
  have : ∀ (L : List Nat) (w : Nat × List Nat), (L.foldl (stepR P ps) w).1 = L.foldl (fun _ z => z) w.1 := by
    intro L
    induction L with
    | nil => intro w; rfl
    | cons b L ih => intro w; exact ih _
  exact this L (0, st)
theorem foldl_last : ∀ (L : List Nat) (a : Nat), L ≠ [] → L.foldl (fun _ z => z) a ∈ L
  | [], _, h => absurd rfl h
  | [x], _, _ => List.mem_singleton.mpr rfl
  | x :: y :: L, a, _ => List.mem_cons_of_mem _ (foldl_last (y :: L) x nofun)
theorem foldl_max : ∀ (L : List Nat) (a : Nat), L.Pairwise (· < ·) → ∀ z ∈ L, z ≤ L.foldl (fun _ z => z) a
  | [], _, _, z, h => nomatch h
  | [x], _, _, z, h => by rw [List.mem_singleton.mp h]; exact Nat.le_refl _
  | x :: y :: L, a, hp, z, h => by
    have hp' := List.pairwise_cons.mp hp
    rcases List.mem_cons.mp h with rfl | h
    · exact Nat.le_trans (Nat.le_of_lt (hp'.1 y List.mem_cons_self)) (foldl_max (y :: L) z hp'.2 y List.mem_cons_self)
    · exact foldl_max (y :: L) x hp'.2 z h
/-- where it is a root, and the last one -/
theorem lastB_is {S : SongD} {bs : List Nat} (h : Spots S bs) {b : Nat} (hb : 0 < b) : lastB bs b ∈ bs ∧ lastB bs b < b ∧ ∀ z ∈ bs, z < b → z ≤ lastB bs b := by
  have h0 : 0 ∈ bs.filter fun z => decide (z < b) := List.mem_filter.mpr ⟨(h.2 0).mpr (.inl rfl), decide_eq_true hb⟩
  have hm := foldl_last (bs.filter fun z => decide (z < b)) 0 (List.ne_nil_of_mem h0)
  obtain ⟨h1, h2⟩ := List.mem_filter.mp hm
  exact ⟨h1, of_decide_eq_true h2, fun z hz hzb => foldl_max _ 0 (h.1.filter _) z (List.mem_filter.mpr ⟨hz, decide_eq_true hzb⟩)⟩
theorem lastB_same {S : SongD} {bs : List Nat} (h : Spots S bs) {b c : Nat} (hc : 0 < c) (h1 : c ≤ b) (h2 : lastB bs b < c) : lastB bs c = lastB bs b := by
  obtain ⟨a1, a2, a3⟩ := lastB_is h (show 0 < b by omega)
  obtain ⟨b1, b2, b3⟩ := lastB_is h hc
  have := a3 _ b1 (by omega)
  have := b3 _ a1 h2
  omega
/-- an elder's name -/
def elderZ (P : Parts) (z : Str) (r : Nat) : Str := ((P.voices.find? fun c => decide (c.name = z)).map fun c => c.elders.getD r (Str.ofString "")).getD z
theorem find_name : ∀ {vs : List Voice} {c : Voice}, (vs.map (·.name)).Nodup → c ∈ vs → vs.find? (fun d => decide (d.name = c.name)) = some c
  | [], _, _, h => nomatch h
  | d :: vs, c, nd, h => by
    rw [List.map_cons] at nd
    have nd' := List.nodup_cons.mp nd
    by_cases e : d.name = c.name
    · rw [List.find?_cons_of_pos (by exact decide_eq_true e)]
      rcases List.mem_cons.mp h with rfl | h
      · rfl
      · exact absurd (List.mem_map.mpr ⟨c, h, e.symm⟩) nd'.1
    · rw [List.find?_cons_of_neg (by rw [decide_eq_false e]; exact nofun)]
      rcases List.mem_cons.mp h with rfl | h
      · exact absurd rfl e
      · exact find_name nd'.2 h
theorem elderZ_of {P : Parts} (nd : P.names.Nodup) {c : Voice} (h : c ∈ P.voices) (r : Nat) : elderZ P c.name r = c.elders.getD r (Str.ofString "") := by
  unfold elderZ
  rw [find_name nd h]
  rfl
/-- the elder (beat, name), none of a source -/
def stepE (P : Parts) (ps : List Put) (bs : List Nat) (x : Spt) : Option Spt :=
  if x.1 = 0 ∨ (cueAt ps x.1 x.2).isSome = true then none else some (lastB bs x.1 + (x.1 - lastB bs x.1) / P.pace, elderZ P x.2 ((x.1 - lastB bs x.1) % P.pace))
def restE (P : Parts) (bs : List Nat) (x : Spt) : Nat := (x.1 - lastB bs x.1) % P.pace
theorem step_some {P : Parts} {ps : List Put} {bs : List Nat} {x y : Spt} (h : stepE P ps bs x = some y) : x.1 ≠ 0 ∧ y = (lastB bs x.1 + (x.1 - lastB bs x.1) / P.pace, elderZ P x.2 ((x.1 - lastB bs x.1) % P.pace)) := by
  unfold stepE at h
  by_cases c : x.1 = 0 ∨ (cueAt ps x.1 x.2).isSome = true
  · rw [if_pos c] at h; cases h
  · rw [if_neg c] at h
    exact ⟨fun z => c (.inl z), (Option.some.inj h).symm⟩
theorem step_lt {P : Parts} {ps : List Put} {S : SongD} {bs : List Nat} (p2 : 2 ≤ P.pace) (hs : Spots S bs) {x y : Spt} (h : stepE P ps bs x = some y) : y.1 < x.1 := by
  obtain ⟨h0, rfl⟩ := step_some h
  obtain ⟨a1, a2, a3⟩ := lastB_is hs (show 0 < x.1 by omega)
  have := Nat.div_lt_self (show 0 < x.1 - lastB bs x.1 by omega) (show 1 < P.pace by omega)
  show lastB bs x.1 + _ < x.1
  omega
def roadF (P : Parts) (ps : List Put) (bs : List Nat) : Nat → Spt → List Spt
  | 0, x => [x]
  | n + 1, x => x :: match stepE P ps bs x with
    | none => []
    | some y => roadF P ps bs n y
def roadL (P : Parts) (ps : List Put) (bs : List Nat) (x : Spt) : List Spt := roadF P ps bs x.1 x
section
variable {P : Parts} {ps : List Put} {S : SongD} {bs : List Nat} (p2 : 2 ≤ P.pace) (hs : Spots S bs)
include p2 hs
theorem road_fuel : ∀ (n m : Nat) (x : Spt), x.1 ≤ n → x.1 ≤ m → roadF P ps bs n x = roadF P ps bs m x := by
  intro n
  induction n with
  | zero =>
    intro m x h1 h2
    cases m with
    | zero => rfl
    | succ m =>
      show [x] = x :: _
      have e : stepE P ps bs x = none := if_pos (.inl (by omega))
      rw [e]
  | succ n ih =>
    intro m x h1 h2
    cases m with
    | zero =>
      show x :: _ = [x]
      have e : stepE P ps bs x = none := if_pos (.inl (by omega))
      rw [e]
    | succ m =>
      show x :: _ = x :: _
      cases e : stepE P ps bs x with
      | none => rfl
      | some y =>
        have := step_lt p2 hs e
        show x :: roadF P ps bs n y = x :: roadF P ps bs m y
        rw [ih m y (by omega) (by omega)]
theorem road_some {x y : Spt} (h : stepE P ps bs x = some y) : roadL P ps bs x = x :: roadL P ps bs y := by
  have h1 := step_lt p2 hs h
  unfold roadL
  obtain ⟨n, e⟩ : ∃ n, x.1 = n + 1 := ⟨x.1 - 1, by omega⟩
  rw [e]
  show x :: (match stepE P ps bs x with | none => [] | some y => roadF P ps bs n y) = _
  rw [h]
  show x :: roadF P ps bs n y = _
  rw [road_fuel p2 hs n y.1 y (by omega) (Nat.le_refl _)]
omit p2 hs in
theorem road_none {x : Spt} (h : stepE P ps bs x = none) : roadL P ps bs x = [x] := by
  unfold roadL
  cases x.1 with
  | zero => rfl
  | succ n =>
    show x :: (match stepE P ps bs x with | none => [] | some y => roadF P ps bs n y) = _
    rw [h]
omit p2 hs in
theorem road_head (x : Spt) : ∃ l, roadL P ps bs x = x :: l := by
  unfold roadL
  cases x.1 with
  | zero => exact ⟨_, rfl⟩
  | succ n => exact ⟨_, rfl⟩
/-- what comes behind a part of a road is its own road -/
theorem road_mem : ∀ (n : Nat) (x : Spt), x.1 ≤ n → ∀ y ∈ roadL P ps bs x, ∃ pre, roadL P ps bs x = pre ++ roadL P ps bs y ∧ (∀ z ∈ pre, y.1 < z.1) := by
  intro n
  induction n with
  | zero =>
    intro x hx y hy
    have e : stepE P ps bs x = none := if_pos (.inl (by omega))
    rw [road_none e] at hy
    obtain rfl := List.mem_singleton.mp hy
    exact ⟨[], rfl, fun z hz => nomatch hz⟩
  | succ n ih =>
    intro x hx y hy
    cases e : stepE P ps bs x with
    | none =>
      rw [road_none e] at hy
      obtain rfl := List.mem_singleton.mp hy
      exact ⟨[], rfl, fun z hz => nomatch hz⟩
    | some w =>
      have hw := step_lt p2 hs e
      rw [road_some p2 hs e] at hy
      rcases List.mem_cons.mp hy with rfl | hy
      · exact ⟨[], rfl, fun z hz => nomatch hz⟩
      · obtain ⟨pre, e2, e3⟩ := ih w (by omega) y hy
        refine ⟨x :: pre, by rw [road_some p2 hs e, e2]; rfl, fun z hz => ?_⟩
        have hyw : y.1 ≤ w.1 := by
          have hm : w ∈ pre ++ roadL P ps bs y := by
            rw [← e2]
            obtain ⟨l, el⟩ := road_head (P := P) (ps := ps) (bs := bs) w
            rw [el]
            exact List.mem_cons_self
          rcases List.mem_append.mp hm with h | h
          · exact Nat.le_of_lt (e3 w h)
          · cases pre with
            | nil =>
              obtain ⟨l, el⟩ := road_head (P := P) (ps := ps) (bs := bs) w
              obtain ⟨l2, el2⟩ := road_head (P := P) (ps := ps) (bs := bs) y
              rw [el, el2] at e2
              have := (List.cons.inj e2).1
              rw [this]; exact Nat.le_refl _
            | cons p pre =>
              obtain ⟨l, el⟩ := road_head (P := P) (ps := ps) (bs := bs) w
              rw [el] at e2
              have := (List.cons.inj e2).1
              exact Nat.le_of_lt (e3 w (by rw [← this]; exact List.mem_cons_self))
        rcases List.mem_cons.mp hz with rfl | hz
        · omega
        · exact e3 z hz
theorem road_le {x y : Spt} (h : y ∈ roadL P ps bs x) : y.1 ≤ x.1 := by
  obtain ⟨pre, e, hp⟩ := road_mem p2 hs x.1 x (Nat.le_refl _) y h
  obtain ⟨l, el⟩ := road_head (P := P) (ps := ps) (bs := bs) x
  obtain ⟨l2, el2⟩ := road_head (P := P) (ps := ps) (bs := bs) y
  cases pre with
  | nil =>
    rw [el, el2] at e
    have := (List.cons.inj e).1
    rw [this]; exact Nat.le_refl _
  | cons p pre =>
    rw [el] at e
    have := (List.cons.inj e).1
    exact Nat.le_of_lt (hp x (by rw [← this]; exact List.mem_cons_self))
/-- how long a road can be -/
theorem road_len : ∀ (n : Nat) (x : Spt), x.1 ≤ n → x.1 < 2 ^ 140 → (roadL P ps bs x).length ≤ 141 * (bs.filter fun z => decide (z < x.1)).length + (x.1 - lastB bs x.1).log2 + 2 := by
  intro n
  induction n with
  | zero =>
    intro x hx _
    have e : stepE P ps bs x = none := if_pos (.inl (by omega))
    rw [road_none e]
    show 1 ≤ _
    omega
  | succ n ih =>
    intro x hx h140
    cases e : stepE P ps bs x with
    | none =>
      rw [road_none e]
      show 1 ≤ _
      omega
    | some y =>
      have hy := step_lt p2 hs e
      have h := ih y (by omega) (by omega)
      rw [road_some p2 hs e, List.length_cons]
      obtain ⟨h0, ey⟩ := step_some e
      have hy1 : y.1 = lastB bs x.1 + (x.1 - lastB bs x.1) / P.pace := by rw [ey]
      clear ey e
      obtain ⟨a1, a2, a3⟩ := lastB_is hs (show 0 < x.1 by omega)
      have hw : (x.1 - lastB bs x.1) / P.pace < x.1 - lastB bs x.1 := Nat.div_lt_self (by omega) (by omega)
      generalize hL : lastB bs x.1 = s at *
      generalize hd : (x.1 - s) / P.pace = d at *
      generalize (roadL P ps bs y).length = len at *
      generalize y.1 = yb at *
      subst hy1
      by_cases c : d = 0
      · subst c
        have e0 : s + 0 = s := Nat.add_zero s
        rw [e0] at h
        have hlt : (bs.filter fun z => decide (z < s)).length < (bs.filter fun z => decide (z < x.1)).length := by
          have e1 : (bs.filter fun z => decide (z < s)) = ((bs.filter fun z => decide (z < x.1)).filter fun z => decide (z < s)) := by
            rw [List.filter_filter]
            refine List.filter_congr fun z _ => ?_
            by_cases q : z < s
            · rw [decide_eq_true q, decide_eq_true (show z < x.1 by omega)]; rfl
            · rw [decide_eq_false q]; rfl
          rw [e1]
          refine List.length_filter_lt_length_iff_exists.mpr ⟨s, List.mem_filter.mpr ⟨a1, decide_eq_true a2⟩, ?_⟩
          rw [decide_eq_false (Nat.lt_irrefl s)]
          exact nofun
        have hlog : (s - lastB bs s).log2 ≤ 139 := by
          by_cases q : s - lastB bs s = 0
          · rw [q]; decide
          · have := (Nat.log2_lt q).mpr (show s - lastB bs s < 2 ^ 140 by omega)
            omega
        omega
      · have e1 : lastB bs (s + d) = s := by
          rw [lastB_same hs (b := x.1) (by omega) (by omega) (by rw [hL]; omega), hL]
        have e2 : (bs.filter fun z => decide (z < s + d)) = bs.filter fun z => decide (z < x.1) := by
          refine List.filter_congr fun z hz => ?_
          by_cases q : z < x.1
          · have := a3 z hz q
            rw [decide_eq_true q, decide_eq_true (by omega)]
          · rw [decide_eq_false q, decide_eq_false (by omega)]
        rw [e1, e2, Nat.add_sub_cancel_left] at h
        have h2 : d.log2 < (x.1 - s).log2 := by
          have hle : d ≤ (x.1 - s) / 2 := by rw [← hd]; exact Nat.div_le_div_left p2 (by decide)
          have h3 := Nat.log2_self_le c
          have hl2 : 2 ^ (d.log2 + 1) ≤ x.1 - s := by
            rw [Nat.pow_succ]
            generalize 2 ^ d.log2 = u at *
            omega
          have := (Nat.le_log2 (by omega)).mpr hl2
          omega
        omega
end
end HG

/-! roads: what the program's defs promise -/
namespace HG
open PySem PySem.Spec PyProof.Rows L2 HF
def cueK (b : Nat) (z : Str) : List Key := [Sum.inl (b : Int), Sum.inr z]
theorem cueK_inj {b c : Nat} {y z : Str} (h : cueK b y = cueK c z) : b = c ∧ y = z := by
  injection h with h1 h2
  injection h2 with h2 _
  exact ⟨by have := Sum.inl.inj h1; omega, Sum.inr.inj h2⟩
theorem cueK_eq {b : Nat} {z : Str} : ([.int (b : Int), .str z] : List V) = (cueK b z).map kV := rfl
def CuedT (H : Hp) (D : Addr) (S : SongD) : Prop := ∃ kvs, H D = some (.dT kvs) ∧ ∀ (b : Nat) (z : Str), valV kvs (cueK b z) = if (cueAt S.puts b z).isSome = true then some (.bl true) else none
theorem CuedT.same {H H' : Hp} (s : Same H H') {D : Addr} {S : SongD} (h : CuedT H D S) : CuedT H' D S := let ⟨k, a, b⟩ := h; ⟨k, s _ _ a, b⟩
def SptAt (H : Hp) (x : V) (y : Spt) : Prop := ∃ a, x = .ref a ∧ H a = some (.tup [.int (y.1 : Int), .str y.2])
theorem SptAt.same {H H' : Hp} (s : Same H H') {x : V} {y : Spt} (h : SptAt H x y) : SptAt H' x y := let ⟨a, e, h⟩ := h; ⟨a, e, s _ _ h⟩
def SptsAll (H : Hp) (xs : List V) (ys : List Spt) : Prop := xs.length = ys.length ∧ ∀ (i : Nat) (x : V), xs[i]? = some x → ∃ y, ys[i]? = some y ∧ SptAt H x y
theorem SptsAll.same {H H' : Hp} (s : Same H H') {xs : List V} {ys : List Spt} (h : SptsAll H xs ys) : SptsAll H' xs ys := ⟨h.1, fun i x e => let ⟨y, a, b⟩ := h.2 i x e; ⟨y, a, b.same s⟩⟩
theorem SptsAll.tups {H H' : Hp} (s : ∀ b ts, H b = some (.tup ts) → H' b = some (.tup ts)) {xs : List V} {ys : List Spt} (h : SptsAll H xs ys) : SptsAll H' xs ys := ⟨h.1, fun i x e => let ⟨y, a, b, e2, c⟩ := h.2 i x e; ⟨y, a, b, e2, s _ _ c⟩⟩
theorem SptsAll.snoc {H : Hp} {xs : List V} {ys : List Spt} (h : SptsAll H xs ys) {x : V} {y : Spt} (hx : SptAt H x y) : SptsAll H (xs ++ [x]) (ys ++ [y]) := by
  refine ⟨by rw [List.length_append, List.length_append, h.1]; rfl, fun i z e => ?_⟩
  rcases Nat.lt_trichotomy i xs.length with c | c | c
  · rw [List.getElem?_append_left c] at e
    obtain ⟨w, a, b⟩ := h.2 i z e
    exact ⟨w, by rw [List.getElem?_append_left (by rw [← h.1]; exact c)]; exact a, b⟩
  · subst c
    rw [List.getElem?_concat_length] at e
    cases e
    exact ⟨y, by rw [h.1, List.getElem?_concat_length], hx⟩
  · rw [List.getElem?_eq_none (by rw [List.length_append]; simp; omega)] at e
    cases e
/-- a step as _walk tells it -/
def stepV (P : Parts) (ps : List Put) (bs : List Nat) (y : Spt) : V := match stepE P ps bs y with
  | none => .non
  | some _ => .int (restE P bs y : Int)
def StepAt (P : Parts) (ps : List Put) (bs : List Nat) (H : Hp) (x : V) (y : Spt) : Prop := ∃ a, x = .ref a ∧ H a = some (.tup [.int (y.1 : Int), .str y.2, stepV P ps bs y])
def StepsAll (P : Parts) (ps : List Put) (bs : List Nat) (H : Hp) (xs : List V) (ys : List Spt) : Prop := xs.length = ys.length ∧ ∀ (i : Nat) (x : V), xs[i]? = some x → ∃ y, ys[i]? = some y ∧ StepAt P ps bs H x y
theorem StepsAll.same {P : Parts} {ps : List Put} {bs : List Nat} {H H' : Hp} (s : Same H H') {xs : List V} {ys : List Spt} (h : StepsAll P ps bs H xs ys) : StepsAll P ps bs H' xs ys := ⟨h.1, fun i x e => let ⟨y, a, b, e2, c⟩ := h.2 i x e; ⟨y, a, b, e2, s _ _ c⟩⟩
theorem StepsAll.tups {P : Parts} {ps : List Put} {bs : List Nat} {H H' : Hp} (s : ∀ b ts, H b = some (.tup ts) → H' b = some (.tup ts)) {xs : List V} {ys : List Spt} (h : StepsAll P ps bs H xs ys) : StepsAll P ps bs H' xs ys := ⟨h.1, fun i x e => let ⟨y, a, b, e2, c⟩ := h.2 i x e; ⟨y, a, b, e2, s _ _ c⟩⟩
theorem StepsAll.snoc {P : Parts} {ps : List Put} {bs : List Nat} {H : Hp} {xs : List V} {ys : List Spt} (h : StepsAll P ps bs H xs ys) {x : V} {y : Spt} (hx : StepAt P ps bs H x y) : StepsAll P ps bs H (xs ++ [x]) (ys ++ [y]) := by
  refine ⟨by rw [List.length_append, List.length_append, h.1]; rfl, fun i z e => ?_⟩
  rcases Nat.lt_trichotomy i xs.length with c | c | c
  · rw [List.getElem?_append_left c] at e
    obtain ⟨w, a, b⟩ := h.2 i z e
    exact ⟨w, by rw [List.getElem?_append_left (by rw [← h.1]; exact c)]; exact a, b⟩
  · subst c
    rw [List.getElem?_concat_length] at e
    cases e
    exact ⟨y, by rw [h.1, List.getElem?_concat_length], hx⟩
  · rw [List.getElem?_eq_none (by rw [List.length_append]; simp; omega)] at e
    cases e
section
variable (K : PySem.W.Frag) (At : Hp → Addr → Parts → Prop) (C : Addr)
def spChoirM : Sp := fun vs H Q _ => ∃ (G : Hp) (y : Addr) (P : Parts) (S : SongD) (bs : List Nat), vs = [.ref y] ∧ Same G H ∧ SoC K At C G y P S bs ∧ ∀ x : Addr, At G x P → Q (.ref x) H
def spCuesM : Sp := fun vs H Q _ => ∃ (G : Hp) (y : Addr) (P : Parts) (S : SongD) (bs : List Nat), vs = [.ref y] ∧ Same G H ∧ SoC K At C G y P S bs ∧ ∀ (q : Addr) (H' : Hp) (xs : List V), Same H H' → H q = none → H' q = some (.lst xs) → DpAll K G xs ((sortP S.puts).map putD) → Q (.ref q) H'
def spCued : Sp := fun vs H Q _ => ∃ (G : Hp) (y : Addr) (P : Parts) (S : SongD) (bs : List Nat), vs = [.ref y] ∧ Same G H ∧ SoC K At C G y P S bs ∧ SOk P S ∧ ∀ (D : Addr) (H' : Hp), Same H H' → H D = none → CuedT H' D S → Q (.ref D) H'
def spStep : Sp := fun vs H Q _ => ∃ (G : Hp) (x ra D : Addr) (ys : List V) (P : Parts) (S : SongD) (bs : List Nat) (b : Nat) (z : Str), vs = [.ref x, .ref ra, .ref D, .int (b : Int), .str z] ∧ Same G H ∧ At G x P ∧ P.Ok 64 ∧ SqL K H ra ys ∧ RootsAll H ys (rootsR P S.puts S.first bs) ∧ Spots S bs ∧ CuedT H D S ∧ z ∈ P.names ∧ b < 2 ^ 900 ∧
  (∀ H', Same H H' → stepE P S.puts bs (b, z) = none → Q .non H') ∧ ∀ (y : Spt) (q : Addr) (H' : Hp), Same H H' → stepE P S.puts bs (b, z) = some y → H q = none → H' q = some (.tup [.int (y.1 : Int), .str y.2, .int (restE P bs (b, z) : Int)]) → Q (.ref q) H'
def spWalkM : Sp := fun vs H Q _ => ∃ (G : Hp) (y : Addr) (P : Parts) (S : SongD) (bs : List Nat) (b : Nat) (z : Str), vs = [.ref y, .int (b : Int), .str z] ∧ Same G H ∧ SoC K At C G y P S bs ∧ P.Ok 64 ∧ SOk P S ∧ Spots S bs ∧ z ∈ P.names ∧ b < 2 ^ 140 ∧ bs.length ≤ 201 ∧
  ∀ (q : Addr) (H' : Hp) (xs : List V), Same H H' → H q = none → H' q = some (.lst xs) → StepsAll P S.puts bs H' xs (roadL P S.puts bs (b, z)) → Q (.ref q) H'
def spRoadP : Sp := fun vs H Q _ => ∃ (G : Hp) (y : Addr) (P : Parts) (S : SongD) (bs : List Nat) (b : Nat) (z : Str), vs = [.ref y, .int (b : Int), .str z] ∧ Same G H ∧ SoC K At C G y P S bs ∧ P.Ok 64 ∧ SOk P S ∧ Spots S bs ∧ z ∈ P.names ∧ b < 2 ^ 140 ∧
  ∀ (q : Addr) (H' : Hp) (xs : List V), Same H H' → H q = none → H' q = some (.lst xs) → SptsAll H' xs (roadL P S.puts bs (b, z)) → Q (.ref q) H'
def tieV (P : Parts) (ps : List Put) (bs : List Nat) (x y : Spt) : Option Spt := (roadL P ps bs x).find? fun z => decide (z ∈ roadL P ps bs y)
def spTie : Sp := fun vs H Q _ => ∃ (G : Hp) (y a1 a2 : Addr) (P : Parts) (S : SongD) (bs : List Nat) (x1 x2 : Spt), vs = [.ref y, .ref a1, .ref a2] ∧ Same G H ∧ SoC K At C G y P S bs ∧ P.Ok 64 ∧ SOk P S ∧ Spots S bs ∧ SqT K G a1 [.int (x1.1 : Int), .str x1.2] ∧ SqT K G a2 [.int (x2.1 : Int), .str x2.2] ∧ x1.2 ∈ P.names ∧ x2.2 ∈ P.names ∧ x1.1 < 2 ^ 140 ∧ x2.1 < 2 ^ 140 ∧
  ∀ (v : V) (H' : Hp), Same H H' → (match tieV P S.puts bs x1 x2 with | none => v = .non | some w => SptAt H' v w) → Q v H'
end
theorem elderZ_mem {P : Parts} {lim : Nat} (ok : P.Ok lim) {z : Str} (hz : z ∈ P.names) {r : Nat} (hr : r < P.pace) : elderZ P z r ∈ P.names := by
  obtain ⟨c, hc, rfl⟩ := List.mem_map.mp hz
  rw [elderZ_of ok.nodup hc]
  exact elder_mem ok hc hr
theorem step_name {P : Parts} {lim : Nat} (ok : P.Ok lim) {ps : List Put} {bs : List Nat} {x y : Spt} (hx : x.2 ∈ P.names) (h : stepE P ps bs x = some y) : y.2 ∈ P.names := by
  obtain ⟨_, rfl⟩ := step_some h
  exact elderZ_mem ok hx (Nat.mod_lt _ (by have := ok.p2; omega))
theorem roots_lastB {P : Parts} {ps : List Put} {st bs : List Nat} {b : Nat} (hb : 0 < b) : (atR P ps st (bs.filter fun z => decide (z ≤ b - 1))).1 = lastB bs b := by
  rw [atR_fst]
  unfold lastB
  congr 1
  refine List.filter_congr fun z _ => ?_
  by_cases c : z < b
  · rw [decide_eq_true c, decide_eq_true (by omega)]
  · rw [decide_eq_false c, decide_eq_false (by omega)]
end HG

/-! roads: the law's side -/
namespace HG
open PySem PySem.Spec PyProof.Rows L2 HF
def sptD (x : Spt) : PyData := .tuple [.int (x.1 : Int), .str x.2]
theorem keyD_spt (r : Put) : keyD r = sptD (putKey r) := rfl
theorem sptD_eqv (x y : Spt) : PyData.eqv (sptD x) (sptD y) = decide (x = y) := by
  show (((x.1 : Int) == (y.1 : Int)) && ((x.2 == y.2) && true)) = _
  by_cases c : x = y
  · subst c
    rw [decide_eq_true rfl, beq_self_eq_true, beq_self_eq_true]
    rfl
  · rw [decide_eq_false c]
    by_cases e1 : x.1 = y.1
    · have e2 : ¬ x.2 = y.2 := fun e => c (Prod.ext e1 e)
      rw [beq_eq_false_iff_ne.mpr e2, Bool.false_and, Bool.and_false]
    · rw [beq_eq_false_iff_ne.mpr (show (x.1 : Int) ≠ (y.1 : Int) by omega), Bool.false_and]
theorem sptD_any (x : Spt) (ys : List Spt) : ((ys.map sptD).any fun z => PyData.eqv z (sptD x)) = decide (x ∈ ys) := by
  induction ys with
  | nil => rfl
  | cons y ys ih =>
    rw [List.map_cons, List.any_cons, ih, sptD_eqv]
    by_cases c : x ∈ ys
    · rw [decide_eq_true c, Bool.or_true, decide_eq_true (List.mem_cons_of_mem _ c)]
    · rw [decide_eq_false c, Bool.or_false]
      by_cases d : y = x
      · rw [decide_eq_true d, decide_eq_true (by rw [d]; exact List.mem_cons_self)]
      · rw [decide_eq_false d, decide_eq_false (fun h => (List.mem_cons.mp h).elim (fun e => d e.symm) c)]
theorem sz_big {k : Nat} (h : k < 10 ^ 50) : Sz 0 60 (.int (k : Int)) := by
  have f : Fine (nD k) := fine_int (by
    have : (10 : Nat) ^ 50 < 2 ^ 1000 := by decide +kernel
    show ((k : Int)).natAbs < 2 ^ 1000
    omega)
  refine ⟨f.lay, f.show_, Nat.le_refl 0, ?_⟩
  have e := int_text_length_le10 (a := (k : Int)) (k := 50) (by decide) (by show k < 10 ^ 50; exact h)
  show (Str.ofString (toString (k : Int))).length ≤ 60
  rw [PySem.ofString_length]
  omega
theorem b1450 : (2 : Nat) ^ 140 < 10 ^ 50 := by decide +kernel
theorem sz_spt {x : Spt} (h1 : x.1 < 2 ^ 140) (h2 : GoodN x.2) : Sz 1 300 (sptD x) := by
  refine (sz_tup (b := 0) (n := 102) (m := 2) (fun d hd => ?_) (by show 2 ≤ 2; exact Nat.le_refl 2)).up (by omega) (by omega)
  have := b1450
  rcases List.mem_cons.mp hd with rfl | hd
  · exact (sz_big (by omega)).up (by omega) (by omega)
  · rw [List.mem_singleton.mp hd]
    exact sz_good h2
theorem shaped_spt {x : Spt} (h : PyData.strOk x.2 = true) : SeqAt.shaped (sptD x) = true := shaped_key (r := (x.1, x.2, 0)) h
theorem shaped_spts {xs : List Spt} (h : ∀ x ∈ xs, PyData.strOk x.2 = true) : SeqAt.shaped (.list (xs.map sptD)) = true ∧ PyData.canLay0 (.list (xs.map sptD)) = true := by
  have q := shaped_list (ds := xs.map sptD) fun d hd => by
    obtain ⟨x, hx, rfl⟩ := List.mem_map.mp hd
    exact ⟨canlay_key (r := (x.1, x.2, 0)) (h x hx), by show 1 ≤ 40; decide⟩
  exact ⟨q.2, q.1⟩
theorem SptAt.dp {K : PySem.W.Frag} {H : Hp} {v : V} {x : Spt} (h : SptAt H v x) : Dp K H v (sptD x) := by
  obtain ⟨a, rfl, ha⟩ := h
  exact .tup (.inl (.of ha)) (.cons (.int _) (.cons (.str _) .nil))
theorem SptsAll.dp {K : PySem.W.Frag} {H : Hp} {xs : List V} {ys : List Spt} (h : SptsAll H xs ys) : DpAll K H xs (ys.map sptD) := by
  refine dpAll_mk (by rw [List.length_map]; exact h.1) fun i x d hx hd => ?_
  obtain ⟨y, hy, hat⟩ := h.2 i x hx
  rw [List.getElem?_map, hy] at hd
  cases hd
  exact hat.dp
theorem SptsAll.get {H : Hp} {xs : List V} {ys : List Spt} (h : SptsAll H xs ys) {i : Nat} {y : Spt} (hy : ys[i]? = some y) : ∃ a, xs[i]? = some (.ref a) ∧ H a = some (.tup [.int (y.1 : Int), .str y.2]) := by
  have hi : i < xs.length := by rw [h.1]; exact (List.getElem?_eq_some_iff.mp hy).1
  obtain ⟨y', h1, a, e, h2⟩ := h.2 i xs[i] (List.getElem?_eq_getElem hi)
  rw [hy] at h1
  cases h1
  exact ⟨a, by rw [List.getElem?_eq_getElem hi, e], h2⟩
/-! ### roads that meet -/
section
variable {P : Parts} {ps : List Put} {S : SongD} {bs : List Nat} (p2 : 2 ≤ P.pace) (hs : Spots S bs)
include p2 hs
theorem road_sub {x u : Spt} (h : u ∈ roadL P ps bs x) : ∀ w ∈ roadL P ps bs u, w ∈ roadL P ps bs x := fun w hw => by
  obtain ⟨pre, e, _⟩ := road_mem p2 hs x.1 x (Nat.le_refl _) u h
  rw [e]
  exact List.mem_append.mpr (.inr hw)
theorem tie_none {x1 x2 : Spt} (h : tieV P ps bs x1 x2 = none) : ∀ w ∈ roadL P ps bs x1, w ∉ roadL P ps bs x2 := fun w hw hw2 => by
  have := List.find?_eq_none.mp h w hw
  rw [decide_eq_true hw2] at this
  exact this rfl
/-- the first that both have: behind it both are one, ahead of it nothing is shared -/
theorem tie_some {x1 x2 u : Spt} (h : tieV P ps bs x1 x2 = some u) : ∃ p1 p2, roadL P ps bs x1 = p1 ++ roadL P ps bs u ∧ roadL P ps bs x2 = p2 ++ roadL P ps bs u ∧ (∀ w ∈ p1, w ∉ roadL P ps bs x2) ∧ ∀ w ∈ p2, w ∉ roadL P ps bs x1 := by
  have hu2 : u ∈ roadL P ps bs x2 := of_decide_eq_true (List.find?_some (p := fun z => decide (z ∈ roadL P ps bs x2)) h)
  have hu1 : u ∈ roadL P ps bs x1 := List.mem_of_find?_eq_some h
  obtain ⟨p1, e1, q1⟩ := road_mem p2 hs x1.1 x1 (Nat.le_refl _) u hu1
  obtain ⟨p2', e2, q2⟩ := road_mem p2 hs x2.1 x2 (Nat.le_refl _) u hu2
  obtain ⟨l, el⟩ := road_head (P := P) (ps := ps) (bs := bs) u
  have hp1 : ∀ w ∈ p1, w ∉ roadL P ps bs x2 := by
    intro w hw hw2
    unfold tieV at h
    rw [e1, List.find?_append] at h
    cases e : p1.find? fun z => decide (z ∈ roadL P ps bs x2) with
    | none =>
      have := List.find?_eq_none.mp e w hw
      rw [decide_eq_true hw2] at this
      exact this rfl
    | some z =>
      rw [e] at h
      have hz : z = u := Option.some.inj h
      subst hz
      have := q1 z (List.mem_of_find?_eq_some e)
      omega
  refine ⟨p1, p2', e1, e2, hp1, fun w hw hw1 => ?_⟩
  rw [e1] at hw1
  rcases List.mem_append.mp hw1 with h1 | h1
  · exact hp1 w h1 (by rw [e2]; exact List.mem_append.mpr (.inl hw))
  · have := road_le p2 hs h1
    have := q2 w hw
    omega
theorem tie_symm (x1 x2 : Spt) : tieV P ps bs x2 x1 = tieV P ps bs x1 x2 := by
  cases h : tieV P ps bs x1 x2 with
  | none =>
    refine List.find?_eq_none.mpr fun w hw => ?_
    rw [decide_eq_false (fun hw1 => tie_none p2 hs h w hw1 hw)]
    exact nofun
  | some u =>
    obtain ⟨p1, p2', e1, e2, q1, q2⟩ := tie_some p2 hs h
    obtain ⟨l, el⟩ := road_head (P := P) (ps := ps) (bs := bs) u
    unfold tieV
    rw [e2, List.find?_append]
    have e : p2'.find? (fun z => decide (z ∈ roadL P ps bs x1)) = none := List.find?_eq_none.mpr fun w hw => by
      rw [decide_eq_false (q2 w hw)]
      exact nofun
    rw [e, el, List.find?_cons_of_pos (by rw [e1, el]; exact decide_eq_true (List.mem_append.mpr (.inr List.mem_cons_self)))]
    rfl
theorem both_is (x1 x2 : Spt) : (roadL P ps bs x1).filter (fun w => decide (w ∈ roadL P ps bs x2)) = match tieV P ps bs x1 x2 with | none => [] | some u => roadL P ps bs u := by
  cases h : tieV P ps bs x1 x2 with
  | none =>
    rw [List.filter_eq_nil_iff]
    intro w hw
    rw [decide_eq_false (tie_none p2 hs h w hw)]
    exact nofun
  | some u =>
    obtain ⟨p1, p2', e1, e2, q1, q2⟩ := tie_some p2 hs h
    show (roadL P ps bs x1).filter _ = roadL P ps bs u
    have h1 : p1.filter (fun w => decide (w ∈ roadL P ps bs x2)) = [] := by
      rw [List.filter_eq_nil_iff]
      intro w hw
      rw [decide_eq_false (q1 w hw)]
      exact nofun
    have h2 : (roadL P ps bs u).filter (fun w => decide (w ∈ roadL P ps bs x2)) = roadL P ps bs u := by
      rw [List.filter_eq_self]
      intro w hw
      rw [e2]
      exact decide_eq_true (List.mem_append.mpr (.inr hw))
    rw [e1, List.filter_append, h1, h2]
    rfl
/-- the sources are unlike just where nothing is shared -/
theorem tie_last (x1 x2 : Spt) : ∃ m1 y1 m2 y2, roadL P ps bs x1 = m1 ++ [y1] ∧ roadL P ps bs x2 = m2 ++ [y2] ∧ (tieV P ps bs x1 x2 = none ↔ y1 ≠ y2) := by
  have ends : ∀ x : Spt, ∃ m y, roadL P ps bs x = m ++ [y] := fun x => by
    obtain ⟨l, el⟩ := road_head (P := P) (ps := ps) (bs := bs) x
    rcases List.eq_nil_or_concat (roadL P ps bs x) with e | ⟨m, y, e⟩
    · rw [el] at e; cases e
    · exact ⟨m, y, by rw [e, List.concat_eq_append]⟩
  obtain ⟨m1, y1, h1⟩ := ends x1
  obtain ⟨m2, y2, h2⟩ := ends x2
  refine ⟨m1, y1, m2, y2, h1, h2, fun h e => ?_, fun h => ?_⟩
  · refine tie_none p2 hs h y1 (by rw [h1]; exact List.mem_append.mpr (.inr (List.mem_singleton.mpr rfl))) ?_
    rw [h2, e]
    exact List.mem_append.mpr (.inr (List.mem_singleton.mpr rfl))
  · cases ht : tieV P ps bs x1 x2 with
    | none => rfl
    | some u =>
      obtain ⟨p1, p2', e1, e2, _, _⟩ := tie_some p2 hs ht
      obtain ⟨m, y, e⟩ := ends u
      rw [h1, e, ← List.append_assoc] at e1
      rw [h2, e, ← List.append_assoc] at e2
      have q1 := (List.append_inj' e1 rfl).2
      have q2 := (List.append_inj' e2 rfl).2
      injection q1 with q1 _
      injection q2 with q2 _
      exact absurd (q1.trans q2.symm) h
theorem road_names {lim : Nat} (ok : P.Ok lim) : ∀ (n : Nat) (x : Spt), x.1 ≤ n → x.2 ∈ P.names → ∀ w ∈ roadL P ps bs x, w.2 ∈ P.names := by
  intro n
  induction n with
  | zero =>
    intro x hx hz w hw
    have e : stepE P ps bs x = none := if_pos (.inl (by omega))
    rw [road_none e] at hw
    rw [List.mem_singleton.mp hw]
    exact hz
  | succ n ih =>
    intro x hx hz w hw
    cases e : stepE P ps bs x with
    | none =>
      rw [road_none e] at hw
      rw [List.mem_singleton.mp hw]
      exact hz
    | some y =>
      have hy := step_lt p2 hs e
      rw [road_some p2 hs e] at hw
      rcases List.mem_cons.mp hw with rfl | hw
      · exact hz
      · exact ih y (by omega) (step_name ok hz e) w hw
end
/-! ### what the law's parts promise -/
section
variable (K : PySem.W.Frag)
def spElderL : Sp := fun vs H Q _ => ∃ (G : Hp) (v sv : V) (P : Parts) (S : SongD) (bs : List Nat) (b : Nat) (z : Str), vs = [v, sv, .int (b : Int), .str z] ∧ Same G H ∧ Dp K G v (partsD P) ∧ P.Ok 64 ∧ SongAt K G sv S ∧ SOk P S ∧ Spots S bs ∧ z ∈ P.names ∧
  (∀ H', Same H H' → stepE P S.puts bs (b, z) = none → Q .non H') ∧ ∀ (y : Spt) (q : Addr) (H' : Hp), Same H H' → stepE P S.puts bs (b, z) = some y → H q = none → H' q = some (.tup [.int (y.1 : Int), .str y.2]) → Q (.ref q) H'
def spRoadL : Sp := fun vs H Q _ => ∃ (G : Hp) (v sv : V) (P : Parts) (S : SongD) (bs : List Nat) (b : Nat) (z : Str), vs = [v, sv, .int (b : Int), .str z] ∧ Same G H ∧ Dp K G v (partsD P) ∧ P.Ok 64 ∧ SongAt K G sv S ∧ SOk P S ∧ Spots S bs ∧ bs.length ≤ 26 ∧ z ∈ P.names ∧ b < 2 ^ 140 ∧
  ∀ (q : Addr) (H' : Hp) (xs : List V), Same H H' → H q = none → H' q = some (.lst xs) → SptsAll H' xs (roadL P S.puts bs (b, z)) → Q (.ref q) H'
def spPair : Sp := fun vs H Q _ => ∃ (p : Addr) (v sv : V) (P : Parts) (S : SongD) (bs : List Nat) (far : Nat), vs = [.ref p, v, sv, .int (far : Int)] ∧ Bag H p ∧ Dp K (off p H) v (partsD P) ∧ P.Ok 64 ∧ SongAt K (off p H) sv S ∧ SOk P S ∧ Spots S bs ∧ bs.length ≤ 26 ∧ far < 2 ^ 130 ∧
  ∀ (q : Addr) (H' : Hp) (a1 a2 : Addr) (x1 x2 : Spt), Stp p H H' → off p H' q = some (.tup [.ref a1, .ref a2]) → off p H' a1 = some (.tup [.int (x1.1 : Int), .str x1.2]) → off p H' a2 = some (.tup [.int (x2.1 : Int), .str x2.2]) → x1.2 ∈ P.names → x2.2 ∈ P.names → x1.1 < 2 ^ 140 → x2.1 < 2 ^ 140 → Q (.ref q) H'
end
theorem road_bound26 {P : Parts} {ps : List Put} {S : SongD} {bs : List Nat} (p2 : 2 ≤ P.pace) (hs : Spots S bs) (hl : bs.length ≤ 26) {b : Nat} {z : Str} (hb : b < 2 ^ 140) : (roadL P ps bs (b, z)).length ≤ 3900 := by
  have hlen : (roadL P ps bs (b, z)).length ≤ 141 * (bs.filter fun u => decide (u < b)).length + (b - lastB bs b).log2 + 2 := road_len (ps := ps) p2 hs b (b, z) (Nat.le_refl _) hb
  have hfl : 141 * (bs.filter fun u => decide (u < b)).length ≤ 141 * 26 := Nat.mul_le_mul_left _ (Nat.le_trans (List.length_filter_le ..) hl)
  have hlog : (b - lastB bs b).log2 ≤ 140 := by
    by_cases q : b - lastB bs b = 0
    · rw [q]; decide
    · have := (Nat.log2_lt q).mpr (show b - lastB bs b < 2 ^ 140 by omega)
      omega
  omega
theorem same_offN {D : Addr} {H H' : Hp} (s : Same H H') (nD : H D = none) : Same H (off D H') := fun b o e => by
  rw [off_ne (fun z => by rw [z, nD] at e; cases e)]
  exact s b o e
end HG

namespace HF
theorem num_cons (p d : Nat) (r : List Nat) : num p (d :: r) = d * p ^ r.length + num p r := by
  have h := num_val p (d :: r)
  rw [List.reverse_cons, val_app, List.length_reverse, ← num_val] at h
  rw [h]
  show num p r + p ^ r.length * (d + p * 0) = _
  rw [Nat.mul_zero, Nat.add_zero, Nat.mul_comm, Nat.add_comm]
def lexN : List Nat → List Nat → Bool
  | [], [] => false
  | [], _ :: _ => true
  | _ :: _, [] => false
  | x :: xs, y :: ys => if x = y then lexN xs ys else decide (x < y)
theorem lexN_num {p : Nat} : ∀ (xs ys : List Nat), xs.length = ys.length → (∀ d ∈ xs, d < p) → (∀ d ∈ ys, d < p) → lexN xs ys = decide (num p xs < num p ys)
  | [], [], _, _, _ => by simp [lexN]
  | [], _ :: _, h, _, _ => by simp at h
  | _ :: _, [], h, _, _ => by simp at h
  | x :: xs, y :: ys, h, hx, hy => by
    have hl : xs.length = ys.length := by simpa using h
    have hx' : ∀ d ∈ xs, d < p := fun d hd => hx d (List.mem_cons_of_mem _ hd)
    have hy' : ∀ d ∈ ys, d < p := fun d hd => hy d (List.mem_cons_of_mem _ hd)
    have bx := num_lt hx'
    have by' := num_lt hy'
    rw [num_cons, num_cons, hl]
    rw [hl] at bx
    show (if x = y then lexN xs ys else decide (x < y)) = _
    by_cases e : x = y
    · subst e
      rw [if_pos rfl, lexN_num xs ys hl hx' hy']
      by_cases c : num p xs < num p ys
      · rw [decide_eq_true c, decide_eq_true (by omega)]
      · rw [decide_eq_false c, decide_eq_false (by omega)]
    · rw [if_neg e]
      generalize p ^ ys.length = P at *
      by_cases c : x < y
      · rw [decide_eq_true c]
        have : (x + 1) * P ≤ y * P := Nat.mul_le_mul_right P c
        rw [Nat.succ_mul] at this
        rw [decide_eq_true (by omega)]
      · rw [decide_eq_false c]
        have : (y + 1) * P ≤ x * P := Nat.mul_le_mul_right P (by omega)
        rw [Nat.succ_mul] at this
        rw [decide_eq_false (by omega)]
theorem figs_low {p : Nat} (hp : 2 ≤ p) {n : Nat} {d : Nat} {r : List Nat} (e : figs p n = d :: r) : p ^ r.length ≤ n := by
  have h0 := figs_head hp n d (by rw [e]; rfl)
  have h1 := num_figs hp n
  rw [e, num_cons] at h1
  have : 1 * p ^ r.length ≤ d * p ^ r.length := Nat.mul_le_mul_right _ (by omega)
  omega
theorem figs_up {p : Nat} (hp : 2 ≤ p) (n : Nat) : n < p ^ (figs p n).length := by
  have := num_lt (figs_lt hp n)
  rwa [num_figs hp] at this
theorem figs_ord {p : Nat} (hp : 2 ≤ p) (a b : Nat) : decide (a < b) = if (figs p a).length = (figs p b).length then lexN (figs p a) (figs p b) else decide ((figs p a).length < (figs p b).length) := by
  have key : ∀ a b, (figs p a).length < (figs p b).length → a < b := by
    intro a b h
    cases e : figs p b with
    | nil => rw [e] at h; cases h
    | cons d r =>
      have h1 := figs_low hp e
      have h2 := figs_up hp a
      rw [e, List.length_cons] at h
      have h3 : p ^ (figs p a).length ≤ p ^ r.length := Nat.pow_le_pow_right (by omega) (by omega)
      omega
  by_cases e : (figs p a).length = (figs p b).length
  · rw [if_pos e, lexN_num _ _ e (figs_lt hp a) (figs_lt hp b), num_figs hp, num_figs hp]
  · rw [if_neg e]
    by_cases c : (figs p a).length < (figs p b).length
    · rw [decide_eq_true c, decide_eq_true (key a b c)]
    · rw [decide_eq_false c, decide_eq_false]
      have := key b a (by omega)
      omega
/-- figures put together -/
theorem figs_glue {p : Nat} (hp : 2 ≤ p) {one m other : Nat} (h1 : one ≠ 0) (h2 : other < p ^ m) : figs p one ++ List.replicate (m - (figs p other).length) 0 ++ figs p other = figs p (one * p ^ m + other) ∧ num p (figs p one ++ List.replicate (m - (figs p other).length) 0 ++ figs p other) = one * p ^ m + other := by
  have hl : (figs p other).length ≤ m := figs_len hp h2
  have hn : num p (figs p one ++ List.replicate (m - (figs p other).length) 0 ++ figs p other) = one * p ^ m + other := by
    rw [List.append_assoc, num_app, num_figs hp]
    have gen : ∀ (l : List Nat) (x : Nat), l.foldl (fun x d => x * p + d) x = x * p ^ l.length + num p l := by
      intro l
      induction l with
      | nil => intro x; simp [num]
      | cons d r ih =>
        intro x
        rw [List.foldl_cons, ih, num_cons, List.length_cons, Nat.add_mul, Nat.pow_succ, Nat.mul_comm (p ^ r.length) p, Nat.mul_assoc, Nat.add_assoc]
    rw [gen, num_zeros, num_figs hp, List.length_append, List.length_replicate, Nat.sub_add_cancel hl]
  refine ⟨?_, hn⟩
  rw [← hn, figs_num hp]
  · intro d hd
    rcases List.mem_append.mp hd with hd | hd
    · rcases List.mem_append.mp hd with hd | hd
      · exact figs_lt hp one d hd
      · have := List.eq_of_mem_replicate hd
        omega
    · exact figs_lt hp other d hd
  · intro d hd
    refine figs_head hp one d ?_
    cases e : figs p one with
    | nil =>
      have := num_figs hp one
      rw [e] at this
      exact absurd this.symm h1
    | cons x r =>
      rw [e] at hd
      exact hd
theorem num_glue0 {p : Nat} (hp : 2 ≤ p) {m other : Nat} : num p (figs p 0 ++ List.replicate (m - (figs p other).length) 0 ++ figs p other) = other := by
  show num p (List.replicate (m - (figs p other).length) 0 ++ figs p other) = other
  rw [num_zeros, num_figs hp]
theorem figs_step {p : Nat} (hp : 2 ≤ p) {n : Nat} (h : n ≠ 0) : figs p (n / p) ++ [n % p] = figs p n := by
  show (L p (n / p)).reverse ++ [n % p] = (L p n).reverse
  rw [L_pos hp h, List.reverse_cons]
end HF

/-! roads: what a voice sings hangs on its source alone -/
namespace HG
open PySem PySem.Spec PyProof.Rows L2 HF
theorem beh_stepR {P : Parts} {st : List Nat} {n : Nat} (p2 : 2 ≤ P.pace) (h : n ≠ 0) : behL P st n = ledL P (behL P st (n / P.pace)) (n % P.pace) := by
  unfold behL
  rw [← figs_step p2 h, List.foldl_append]
  rfl
/-- the roots ahead of a beat, and the beat itself where it is one -/
theorem upto_split {bs : List Nat} (h : bs.Pairwise (· < ·)) (b : Nat) : (bs.filter fun z => decide (z ≤ b)) = (bs.filter fun z => decide (z < b)) ++ if b ∈ bs then [b] else [] := by
  induction bs with
  | nil => rfl
  | cons x bs ih =>
    have h' := List.pairwise_cons.mp h
    rcases Nat.lt_trichotomy x b with c | c | c
    · rw [List.filter_cons_of_pos (by exact decide_eq_true (Nat.le_of_lt c)), List.filter_cons_of_pos (by exact decide_eq_true c), ih h'.2, List.cons_append]
      have e : (b ∈ x :: bs) ↔ b ∈ bs := by
        rw [List.mem_cons]
        exact ⟨fun q => q.elim (fun q => by omega) id, .inr⟩
      by_cases q : b ∈ bs
      · rw [if_pos q, if_pos (e.mpr q)]
      · rw [if_neg q, if_neg (fun z => q (e.mp z))]
    · subst c
      have e1 : (bs.filter fun z => decide (z ≤ x)) = [] := by
        rw [List.filter_eq_nil_iff]
        intro z hz
        have := h'.1 z hz
        rw [decide_eq_true_iff]
        omega
      have e2 : (bs.filter fun z => decide (z < x)) = [] := by
        rw [List.filter_eq_nil_iff]
        intro z hz
        have := h'.1 z hz
        rw [decide_eq_true_iff]
        omega
      rw [List.filter_cons_of_pos (by exact decide_eq_true (Nat.le_refl x)), List.filter_cons_of_neg (by rw [decide_eq_false (Nat.lt_irrefl x)]; exact nofun), e1, e2, if_pos List.mem_cons_self]
      rfl
    · have e1 : ((x :: bs).filter fun z => decide (z ≤ b)) = [] := by
        rw [List.filter_eq_nil_iff]
        intro z hz
        rw [decide_eq_true_iff]
        rcases List.mem_cons.mp hz with rfl | hz
        · omega
        · have := h'.1 z hz
          omega
      have e2 : ((x :: bs).filter fun z => decide (z < b)) = [] := by
        rw [List.filter_eq_nil_iff]
        intro z hz
        rw [decide_eq_true_iff]
        rcases List.mem_cons.mp hz with rfl | hz
        · omega
        · have := h'.1 z hz
          omega
      rw [e1, e2, if_neg (fun z => ?_)]
      · rfl
      rcases List.mem_cons.mp z with rfl | z
      · omega
      · have := h'.1 b z
        omega
/-- what is sung at a beat behind 0, by the last root ahead of it -/
theorem sung_ahead {P : Parts} {ps : List Put} {st : List Nat} {bs : List Nat} {lim : Nat} (ok : P.Ok lim) (hs : StOk P st) (hp : ∀ r ∈ ps, r.2.2 < P.notes) (h : bs.Pairwise (· < ·)) (hc : ∀ b, b ∈ ps.map (·.1) → b ∈ bs) (b : Nat) :
    sungL P ps st bs b = pinL P ps b (behL P (atR P ps st (bs.filter fun z => decide (z < b))).2 (b - (atR P ps st (bs.filter fun z => decide (z < b))).1)) := by
  unfold sungL
  rw [upto_split h b]
  by_cases c : b ∈ bs
  · rw [if_pos c, atR_snoc]
    show behL P (pinL P ps b _) (b - b) = _
    rw [Nat.sub_self, beh_at0]
  · rw [if_neg c, List.append_nil]
    exact (pin_same (beh_ok ok (atR_ok ok hs hp _) _).1 fun z => cueAt_no (fun q => c (hc b q)) z).symm
theorem sung_between {P : Parts} {ps : List Put} {st : List Nat} {bs : List Nat} {b c s : Nat} (hs : (atR P ps st (bs.filter fun z => decide (z < b))).1 = s) (h1 : s ≤ c) (h2 : c < b) (hf : ∀ z ∈ bs, z < b → z ≤ s) : sungL P ps st bs c = behL P (atR P ps st (bs.filter fun z => decide (z < b))).2 (c - s) := by
  have e : (bs.filter fun z => decide (z ≤ c)) = bs.filter fun z => decide (z < b) := by
    refine List.filter_congr fun z hz => ?_
    by_cases q : z < b
    · have := hf z hz q
      rw [decide_eq_true q, decide_eq_true (show z ≤ c by omega)]
    · rw [decide_eq_false q, decide_eq_false (show ¬ z ≤ c by omega)]
  unfold sungL
  rw [e, hs]
/-- the note of a voice at a beat -/
def sungN (P : Parts) (ps : List Put) (st bs : List Nat) (x : Spt) : Nat := (sungL P ps st bs x.1).getD (P.names.idxOf x.2) 0
def voiceT (P : Parts) (z : Str) (r : Nat) : List Nat := ((P.voices.find? fun c => decide (c.name = z)).map fun c => c.tables.getD r []).getD []
theorem voiceT_of {P : Parts} (nd : P.names.Nodup) {c : Voice} (h : c ∈ P.voices) (r : Nat) : voiceT P c.name r = c.tables.getD r [] := by
  unfold voiceT
  rw [find_name nd h]
  rfl
theorem idx_at {P : Parts} {z : Str} (hz : z ∈ P.names) : P.names[P.names.idxOf z]? = some z := by
  rw [List.getElem?_eq_getElem (List.idxOf_lt_length_of_mem hz), List.getElem_idxOf]
theorem voice_idx {P : Parts} (nd : P.names.Nodup) {c : Voice} (hc : c ∈ P.voices) : P.voices[P.names.idxOf c.name]? = some c := by
  have hz : c.name ∈ P.names := List.mem_map.mpr ⟨c, hc, rfl⟩
  obtain ⟨i, hi, e⟩ := List.mem_iff_getElem.mp hc
  have hn : P.names[i]? = some c.name := by
    unfold Parts.names
    rw [List.getElem?_map, List.getElem?_eq_getElem hi, e]
    rfl
  have h1 := idx_at hz
  obtain ⟨a1, b1⟩ := List.getElem?_eq_some_iff.mp hn
  obtain ⟨a2, b2⟩ := List.getElem?_eq_some_iff.mp h1
  have eij : P.names.idxOf c.name = i := (List.getElem_inj nd (h₀ := a2) (h₁ := a1)).mp (by rw [b1, b2])
  rw [eij, List.getElem?_eq_getElem hi, e]
section
variable {P : Parts} {lim : Nat} {S : SongD} {bs : List Nat} (ok : P.Ok lim) (sok : SOk P S) (hs : Spots S bs)
include ok sok hs
/-- at a source: the cue, or the first note -/
theorem sung_source {b : Nat} {z : Str} (hz : z ∈ P.names) (h : stepE P S.puts bs (b, z) = none) : sungN P S.puts S.first bs (b, z) = (cueAt S.puts b z).getD (S.first.getD (P.names.idxOf z) 0) := by
  have ha := sung_ahead ok sok.first sok.notes hs.1 (fun c hc => spot_cue hs c hc) b
  have hbok := beh_ok ok (atR_ok ok sok.first sok.notes (bs.filter fun z => decide (z < b))) (b - (atR P S.puts S.first (bs.filter fun z => decide (z < b))).1)
  have hi : P.names.idxOf z < P.voices.length := by rw [← names_len]; exact List.idxOf_lt_length_of_mem hz
  unfold sungN
  show (sungL P S.puts S.first bs b).getD (P.names.idxOf z) 0 = _
  rw [ha, List.getD_eq_getElem?_getD]
  rw [pin_get (idx_at hz) (List.getElem?_eq_getElem (by rw [hbok.1]; exact hi))]
  cases hc : cueAt S.puts b z with
  | some n => rfl
  | none =>
    have hb : b = 0 := by
      unfold stepE at h
      by_cases q : b = 0
      · exact q
      · rw [if_neg (fun w => w.elim q (fun e => by rw [show cueAt S.puts (b, z).1 (b, z).2 = none from hc] at e; cases e))] at h
        cases h
    subst hb
    have e0 : (bs.filter fun z => decide (z < 0)) = [] := by rw [List.filter_eq_nil_iff]; intro z _; rw [decide_eq_true_iff]; omega
    have e1 : behL P (atR P S.puts S.first (bs.filter fun z => decide (z < 0))).2 (0 - (atR P S.puts S.first (bs.filter fun z => decide (z < 0))).1) = S.first := by
      rw [e0]
      show behL P S.first (0 - 0) = S.first
      rw [Nat.sub_zero, beh_at0]
    have e2 : (behL P (atR P S.puts S.first (bs.filter fun z => decide (z < 0))).2 (0 - (atR P S.puts S.first (bs.filter fun z => decide (z < 0))).1))[P.names.idxOf z]? = some (S.first.getD (P.names.idxOf z) 0) := by
      rw [e1, List.getD_eq_getElem?_getD, List.getElem?_eq_getElem (by rw [sok.first.1]; exact hi)]
      rfl
    show _ = S.first.getD (P.names.idxOf z) 0
    exact Option.some.inj (by rw [← e2]; exact (List.getElem?_eq_getElem _).symm)
/-- a voice sings by its table what its elder sang -/
theorem sung_step {x y : Spt} (hz : x.2 ∈ P.names) (h : stepE P S.puts bs x = some y) : sungN P S.puts S.first bs x = (voiceT P x.2 (restE P bs x)).getD (sungN P S.puts S.first bs y) 0 := by
  obtain ⟨b, z⟩ := x
  obtain ⟨h0, hy⟩ := step_some h
  have h0 : b ≠ 0 := h0
  have hz : z ∈ P.names := hz
  have hcue : cueAt S.puts b z = none := by
    cases hc : cueAt S.puts b z with
    | none => rfl
    | some n =>
      unfold stepE at h
      rw [if_pos (.inr (by show (cueAt S.puts b z).isSome = true; rw [hc]; rfl))] at h
      cases h
  obtain ⟨c, hc, rfl⟩ := List.mem_map.mp hz
  have hci := voice_idx ok.nodup hc
  have ha := sung_ahead ok sok.first sok.notes hs.1 (fun c hc => spot_cue hs c hc) b
  have hL : (atR P S.puts S.first (bs.filter fun z => decide (z < b))).1 = lastB bs b := atR_fst _ _ _ _
  obtain ⟨l1, l2, l3⟩ := lastB_is hs (show 0 < b by omega)
  have hst := atR_ok ok sok.first sok.notes (bs.filter fun z => decide (z < b))
  have p2 := ok.p2
  have hw : (b - lastB bs b) / P.pace < b - lastB bs b := Nat.div_lt_self (by omega) (by omega)
  have hbt := sung_between (c := lastB bs b + (b - lastB bs b) / P.pace) hL (Nat.le_add_right _ _) (by omega) fun z hz hzb => l3 z hz hzb
  rw [hL] at ha
  generalize (atR P S.puts S.first (bs.filter fun z => decide (z < b))).2 = st at *
  have hrest : restE P bs (b, c.name) = (b - lastB bs b) % P.pace := rfl
  have hrp : (b - lastB bs b) % P.pace < P.pace := Nat.mod_lt _ (by omega)
  have hel := elder_mem ok hc hrp
  have e1 : y.1 = lastB bs b + (b - lastB bs b) / P.pace := by rw [hy]
  have e2 : y.2 = c.elders.getD ((b - lastB bs b) % P.pace) (Str.ofString "") := by rw [hy]; exact elderZ_of ok.nodup hc _
  have hbok := beh_ok ok hst (b - lastB bs b)
  have hi : P.names.idxOf c.name < P.voices.length := (List.getElem?_eq_some_iff.mp hci).1
  unfold sungN
  show (sungL P S.puts S.first bs b).getD (P.names.idxOf c.name) 0 = _
  rw [e1, e2, hbt, ha, hrest, voiceT_of ok.nodup hc, Nat.add_sub_cancel_left]
  have hstep := beh_stepR (P := P) (st := st) p2 (n := b - lastB bs b) (by omega)
  have e3 : (behL P st (b - lastB bs b))[P.names.idxOf c.name]? = some (ledV P (behL P st ((b - lastB bs b) / P.pace)) ((b - lastB bs b) % P.pace) c) := by
    rw [hstep]
    unfold ledL
    rw [List.getElem?_map, hci]
    rfl
  rw [List.getD_eq_getElem?_getD, pin_get (idx_at hz) e3, hcue]
  rfl
end
/-- the table of a road -/
def tabF (P : Parts) (ps : List Put) (bs : List Nat) : Nat → Spt → List Nat
  | 0, _ => List.range P.notes
  | n + 1, x => match stepE P ps bs x with
    | none => List.range P.notes
    | some y => (tabF P ps bs n y).map fun k => (voiceT P x.2 (restE P bs x)).getD k 0
def tabL (P : Parts) (ps : List Put) (bs : List Nat) (x : Spt) : List Nat := tabF P ps bs x.1 x
section
variable {P : Parts} {ps : List Put} {S : SongD} {bs : List Nat} (p2 : 2 ≤ P.pace) (hs : Spots S bs)
include p2 hs
theorem tab_fuel : ∀ (n m : Nat) (x : Spt), x.1 ≤ n → x.1 ≤ m → tabF P ps bs n x = tabF P ps bs m x := by
  intro n
  induction n with
  | zero =>
    intro m x h1 h2
    have e : stepE P ps bs x = none := if_pos (.inl (by omega))
    cases m with
    | zero => rfl
    | succ m =>
      show _ = match stepE P ps bs x with | none => _ | some y => _
      rw [e]
      rfl
  | succ n ih =>
    intro m x h1 h2
    cases m with
    | zero =>
      have e : stepE P ps bs x = none := if_pos (.inl (by omega))
      show (match stepE P ps bs x with | none => List.range P.notes | some y => (tabF P ps bs n y).map fun k => (voiceT P x.2 (restE P bs x)).getD k 0) = _
      rw [e]
      rfl
    | succ m =>
      show (match stepE P ps bs x with | none => List.range P.notes | some y => (tabF P ps bs n y).map fun k => (voiceT P x.2 (restE P bs x)).getD k 0) = match stepE P ps bs x with | none => List.range P.notes | some y => (tabF P ps bs m y).map fun k => (voiceT P x.2 (restE P bs x)).getD k 0
      cases e : stepE P ps bs x with
      | none => rfl
      | some y =>
        have := step_lt p2 hs e
        show (tabF P ps bs n y).map _ = (tabF P ps bs m y).map _
        rw [ih m y (by omega) (by omega)]
theorem tab_some {x y : Spt} (h : stepE P ps bs x = some y) : tabL P ps bs x = (tabL P ps bs y).map fun k => (voiceT P x.2 (restE P bs x)).getD k 0 := by
  have h1 := step_lt p2 hs h
  unfold tabL
  obtain ⟨n, e⟩ : ∃ n, x.1 = n + 1 := ⟨x.1 - 1, by omega⟩
  rw [e]
  show (match stepE P ps bs x with | none => List.range P.notes | some y => (tabF P ps bs n y).map fun k => (voiceT P x.2 (restE P bs x)).getD k 0) = _
  rw [h]
  show (tabF P ps bs n y).map _ = _
  rw [tab_fuel p2 hs n y.1 y (by omega) (Nat.le_refl _)]
omit p2 hs in
theorem tab_none {x : Spt} (h : stepE P ps bs x = none) : tabL P ps bs x = List.range P.notes := by
  unfold tabL
  cases x.1 with
  | zero => rfl
  | succ n =>
    show (match stepE P ps bs x with | none => List.range P.notes | some y => (tabF P ps bs n y).map fun k => (voiceT P x.2 (restE P bs x)).getD k 0) = _
    rw [h]
theorem tab_len : ∀ (n : Nat) (x : Spt), x.1 ≤ n → (tabL P ps bs x).length = P.notes := by
  intro n
  induction n with
  | zero =>
    intro x hx
    rw [tab_none (if_pos (.inl (by omega))), List.length_range]
  | succ n ih =>
    intro x hx
    cases e : stepE P ps bs x with
    | none => rw [tab_none e, List.length_range]
    | some y =>
      have := step_lt p2 hs e
      rw [tab_some p2 hs e, List.length_map, ih y (by omega)]
end
theorem sungN_lt {P : Parts} {lim : Nat} {S : SongD} {bs : List Nat} (ok : P.Ok lim) (sok : SOk P S) {x : Spt} (hz : x.2 ∈ P.names) : sungN P S.puts S.first bs x < P.notes := by
  have h := sung_ok ok sok.first sok.notes bs x.1
  exact getD_mem_lt (by rw [h.1, ← names_len]; exact List.idxOf_lt_length_of_mem hz) h.2
/-- by the road's table, of the source's note -/
theorem road_note {P : Parts} {lim : Nat} {S : SongD} {bs : List Nat} (ok : P.Ok lim) (sok : SOk P S) (hs : Spots S bs) : ∀ (n : Nat) (x : Spt), x.1 ≤ n → x.2 ∈ P.names → ∃ m y, roadL P S.puts bs x = m ++ [y] ∧ stepE P S.puts bs y = none ∧ y.2 ∈ P.names ∧ sungN P S.puts S.first bs x = (tabL P S.puts bs x).getD (sungN P S.puts S.first bs y) 0 := by
  have p2 := ok.p2
  intro n
  induction n with
  | zero =>
    intro x hx hz
    have e : stepE P S.puts bs x = none := if_pos (.inl (by omega))
    refine ⟨[], x, road_none e, e, hz, ?_⟩
    have := sungN_lt (bs := bs) ok sok hz
    rw [tab_none e, List.getD_eq_getElem?_getD, List.getElem?_range this]
    rfl
  | succ n ih =>
    intro x hx hz
    cases e : stepE P S.puts bs x with
    | none =>
      refine ⟨[], x, road_none e, e, hz, ?_⟩
      have := sungN_lt (bs := bs) ok sok hz
      rw [tab_none e, List.getD_eq_getElem?_getD, List.getElem?_range this]
      rfl
    | some w =>
      have hw := step_lt p2 hs e
      obtain ⟨m, y, h1, h2, h3, h4⟩ := ih w (by omega) (step_name ok hz e)
      have hk := sungN_lt (bs := bs) ok sok h3
      refine ⟨x :: m, y, by rw [road_some p2 hs e, h1]; rfl, h2, h3, ?_⟩
      rw [sung_step ok sok hs hz e, h4, tab_some p2 hs e, List.getD_eq_getElem?_getD (l := List.map _ _), List.getElem?_map, List.getElem?_eq_getElem (by rw [tab_len p2 hs w.1 w (Nat.le_refl _)]; exact hk), List.getD_eq_getElem?_getD (l := tabL P S.puts bs w), List.getElem?_eq_getElem (by rw [tab_len p2 hs w.1 w (Nat.le_refl _)]; exact hk)]
      rfl
/-- roads go by where the cues are, not by their notes -/
theorem step_congr {P : Parts} {ps ps' : List Put} {bs : List Nat} (h : ∀ b z, (cueAt ps b z).isSome = (cueAt ps' b z).isSome) : stepE P ps bs = stepE P ps' bs := by
  funext x
  unfold stepE
  rw [h]
theorem road_congr {P : Parts} {ps ps' : List Put} {bs : List Nat} (h : ∀ b z, (cueAt ps b z).isSome = (cueAt ps' b z).isSome) (x : Spt) : roadL P ps bs x = roadL P ps' bs x := by
  have e := step_congr (P := P) (bs := bs) h
  have : ∀ n x, roadF P ps bs n x = roadF P ps' bs n x := by
    intro n
    induction n with
    | zero => intro x; rfl
    | succ n ih =>
      intro x
      show x :: _ = x :: _
      rw [e]
      cases stepE P ps' bs x with
      | none => rfl
      | some y => show x :: roadF P ps bs n y = x :: roadF P ps' bs n y; rw [ih]
  exact this x.1 x
theorem tab_congr {P : Parts} {ps ps' : List Put} {bs : List Nat} (h : ∀ b z, (cueAt ps b z).isSome = (cueAt ps' b z).isSome) (x : Spt) : tabL P ps bs x = tabL P ps' bs x := by
  have e := step_congr (P := P) (bs := bs) h
  have : ∀ n x, tabF P ps bs n x = tabF P ps' bs n x := by
    intro n
    induction n with
    | zero => intro x; rfl
    | succ n ih =>
      intro x
      show (match stepE P ps bs x with | none => List.range P.notes | some y => (tabF P ps bs n y).map fun k => (voiceT P x.2 (restE P bs x)).getD k 0) = match stepE P ps' bs x with | none => List.range P.notes | some y => (tabF P ps' bs n y).map fun k => (voiceT P x.2 (restE P bs x)).getD k 0
      rw [e]
      cases stepE P ps' bs x with
      | none => rfl
      | some y => show (tabF P ps bs n y).map _ = (tabF P ps' bs n y).map _; rw [ih]
  exact this x.1 x
theorem tab_lt {P : Parts} {lim : Nat} {ps : List Put} {S : SongD} {bs : List Nat} (ok : P.Ok lim) (hs : Spots S bs) : ∀ (n : Nat) (x : Spt), x.1 ≤ n → x.2 ∈ P.names → ∀ k ∈ tabL P ps bs x, k < P.notes := by
  have p2 := ok.p2
  intro n
  induction n with
  | zero =>
    intro x hx hz k hk
    rw [tab_none (if_pos (.inl (by omega)))] at hk
    exact List.mem_range.mp hk
  | succ n ih =>
    intro x hx hz k hk
    cases e : stepE P ps bs x with
    | none =>
      rw [tab_none e] at hk
      exact List.mem_range.mp hk
    | some y =>
      have := step_lt p2 hs e
      rw [tab_some p2 hs e] at hk
      obtain ⟨q, hq, rfl⟩ := List.mem_map.mp hk
      have hq2 := ih y (by omega) (step_name ok hz e) q hq
      obtain ⟨c, hc, hcn⟩ := List.mem_map.mp hz
      have hcn : c.name = x.2 := hcn
      have ht := tab_at ok hc (show restE P bs x < P.pace from Nat.mod_lt _ (by omega))
      rw [← hcn, voiceT_of ok.nodup hc]
      exact getD_mem_lt (by rw [ht.1]; exact hq2) ht.2
theorem cutV_init (l : List V) : cutV l none (some (-1)) = l.take (l.length - 1) := by
  unfold cutV
  rw [HT.sIx_none, List.drop_zero]
  have e : HT.sIx l.length l.length (some (-1)) = l.length - 1 := by
    show (if (-1 : Int) < 0 then ((-1 : Int) + (l.length : Int)).toNat else min (-1 : Int).toNat l.length) = _
    rw [if_pos (by decide)]
    omega
  rw [e, Nat.sub_zero]
theorem road_split {P : Parts} {ps : List Put} {S : SongD} {bs : List Nat} (p2 : 2 ≤ P.pace) (hs : Spots S bs) : ∀ (pre : List Spt) (x u v : Spt) (rest : List Spt), roadL P ps bs x = pre ++ u :: v :: rest → stepE P ps bs u = some v ∧ roadL P ps bs v = v :: rest := by
  intro pre
  induction pre with
  | nil =>
    intro x u v rest h
    have h : roadL P ps bs x = u :: v :: rest := h
    cases e : stepE P ps bs x with
    | none =>
      rw [road_none e] at h
      injection h with h1 h2
      cases h2
    | some w =>
      rw [road_some p2 hs e] at h
      injection h with h1 h2
      subst h1
      obtain ⟨l, el⟩ := road_head (P := P) (ps := ps) (bs := bs) w
      rw [el] at h2
      injection h2 with h3 h4
      subst h3
      exact ⟨e, by rw [el, h4]⟩
  | cons p pre ih =>
    intro x u v rest h
    have h : roadL P ps bs x = p :: (pre ++ u :: v :: rest) := h
    cases e : stepE P ps bs x with
    | none =>
      rw [road_none e] at h
      injection h with h1 h2
      exact absurd h2.symm (by simp)
    | some w =>
      rw [road_some p2 hs e] at h
      injection h with h1 h2
      exact ih w u v rest h2
def spRoadTab (K : PySem.W.Frag) (At : Hp → Addr → Parts → Prop) (C : Addr) : Sp := fun vs H Q _ => ∃ (G : Hp) (y : Addr) (P : Parts) (S : SongD) (bs : List Nat) (b : Nat) (z : Str), vs = [.ref y, .int (b : Int), .str z] ∧ Same G H ∧ SoC K At C G y P S bs ∧ P.Ok 64 ∧ SOk P S ∧ Spots S bs ∧ z ∈ P.names ∧ b < 2 ^ 140 ∧
  ∀ (q : Addr) (H' : Hp), Same H H' → H q = none → H' q = some (.tup (nVs (tabL P S.puts bs (b, z)))) → Q (.ref q) H'
end HG

/-! least waits -/
namespace HG
open PySem PySem.Spec PyProof.Rows L2
theorem beh_mul {P : Parts} {st : List Nat} {w r : Nat} (p2 : 2 ≤ P.pace) (hr : r < P.pace) (h : P.pace * w + r ≠ 0) : behL P st (P.pace * w + r) = ledL P (behL P st w) r := by
  rw [beh_stepR p2 h, Nat.mul_add_div (by omega), Nat.div_eq_of_lt hr, Nat.add_zero, Nat.mul_add_mod, Nat.mod_eq_of_lt hr]
/-- w is the least wait at which what stands then stands -/
def lw (P : Parts) (rt : List Nat) (w : Nat) : Bool := decide (1 ≤ w ∧ ∀ v ∈ List.range w, 1 ≤ v → behL P rt v ≠ behL P rt w)
theorem lw_iff {P : Parts} {rt : List Nat} {w : Nat} : lw P rt w = true ↔ 1 ≤ w ∧ ∀ v, 1 ≤ v → v < w → behL P rt v ≠ behL P rt w := by
  unfold lw
  rw [decide_eq_true_eq]
  exact ⟨fun h => ⟨h.1, fun v h1 h2 => h.2 v (List.mem_range.mpr h2) h1⟩, fun h => ⟨h.1, fun v h1 h2 => h.2 v h2 (List.mem_range.mp h1)⟩⟩
/-- every wait has a least one -/
theorem lw_least (P : Parts) (rt : List Nat) : ∀ (w : Nat), 1 ≤ w → ∃ v, v ≤ w ∧ lw P rt v = true ∧ behL P rt v = behL P rt w := by
  intro w
  induction w using Nat.strongRecOn with
  | _ w ih =>
    intro h1
    by_cases c : lw P rt w = true
    · exact ⟨w, Nat.le_refl _, c, rfl⟩
    · have h : ∃ v, 1 ≤ v ∧ v < w ∧ behL P rt v = behL P rt w := by
        refine Classical.byContradiction fun z => c (lw_iff.mpr ⟨h1, fun v a b e => z ⟨v, a, b, e⟩⟩)
      obtain ⟨v, a, b, e⟩ := h
      obtain ⟨u, hu, l, e2⟩ := ih v b a
      exact ⟨u, by omega, l, e2.trans e⟩
theorem lw_inj {P : Parts} {rt : List Nat} {v w : Nat} (hv : lw P rt v = true) (hw : lw P rt w = true) (e : behL P rt v = behL P rt w) : v = w := by
  obtain ⟨a1, a2⟩ := lw_iff.mp hv
  obtain ⟨b1, b2⟩ := lw_iff.mp hw
  rcases Nat.lt_trichotomy v w with c | c | c
  · exact absurd e (b2 v a1 c)
  · exact c
  · exact absurd e.symm (a2 w b1 c)
/-- what a least wait begins with is one -/
theorem lw_div {P : Parts} {rt : List Nat} {w r : Nat} (p2 : 2 ≤ P.pace) (hr : r < P.pace) (hw : 1 ≤ w) (h : lw P rt (P.pace * w + r) = true) : lw P rt w = true := by
  obtain ⟨_, h2⟩ := lw_iff.mp h
  refine lw_iff.mpr ⟨hw, fun v h1 hv e => ?_⟩
  have hpv : P.pace * v < P.pace * w := Nat.mul_lt_mul_of_pos_left hv (by omega)
  have hv1 : 1 ≤ P.pace * v := Nat.mul_pos (by omega) h1
  have hw1 : 1 ≤ P.pace * w := Nat.mul_pos (by omega) hw
  refine h2 (P.pace * v + r) (by omega) (by omega) ?_
  rw [beh_mul p2 hr (by omega), beh_mul p2 hr (by omega), e]
def cand (P : Parts) (rt : List Nat) : Nat → List Nat
  | 0 => List.range' 1 (P.pace - 1)
  | k + 1 => ((cand P rt k).filter (lw P rt)).flatMap fun w => (List.range P.pace).map fun r => P.pace * w + r
def fnd (P : Parts) (rt : List Nat) : Nat → List Nat
  | 0 => []
  | k + 1 => fnd P rt k ++ (cand P rt k).filter (lw P rt)
theorem cand_bd {P : Parts} {rt : List Nat} (p2 : 2 ≤ P.pace) : ∀ {k c : Nat}, c ∈ cand P rt k → P.pace ^ k ≤ c ∧ c < P.pace ^ (k + 1)
  | 0, c, h => by
    have h : c ∈ List.range' 1 (P.pace - 1) := h
    rw [List.mem_range'_1] at h
    rw [Nat.pow_zero, Nat.zero_add, Nat.pow_one]
    omega
  | k + 1, c, h => by
    have h : c ∈ ((cand P rt k).filter (lw P rt)).flatMap fun w => (List.range P.pace).map fun r => P.pace * w + r := h
    obtain ⟨w, hw, hc⟩ := List.mem_flatMap.mp h
    obtain ⟨r, hr, rfl⟩ := List.mem_map.mp hc
    obtain ⟨h1, h2⟩ := cand_bd p2 (List.mem_filter.mp hw).1
    have hr := List.mem_range.mp hr
    have e1 : P.pace ^ (k + 1) = P.pace * P.pace ^ k := by rw [Nat.pow_succ, Nat.mul_comm]
    have e2 : P.pace ^ (k + 1 + 1) = P.pace * P.pace ^ (k + 1) := by rw [Nat.pow_succ, Nat.mul_comm]
    have h3 := Nat.mul_le_mul_left P.pace h1
    have h4 : P.pace * (w + 1) ≤ P.pace * P.pace ^ (k + 1) := Nat.mul_le_mul_left _ h2
    rw [Nat.mul_add, Nat.mul_one] at h4
    omega
theorem cand_all {P : Parts} {rt : List Nat} (p2 : 2 ≤ P.pace) : ∀ {k w : Nat}, lw P rt w = true → P.pace ^ k ≤ w → w < P.pace ^ (k + 1) → w ∈ cand P rt k
  | 0, w, _, h1, h2 => by
    show w ∈ List.range' 1 (P.pace - 1)
    rw [List.mem_range'_1]
    rw [Nat.pow_zero] at h1
    rw [Nat.zero_add, Nat.pow_one] at h2
    omega
  | k + 1, w, h, h1, h2 => by
    show w ∈ ((cand P rt k).filter (lw P rt)).flatMap fun w => (List.range P.pace).map fun r => P.pace * w + r
    have hp : 0 < P.pace := by omega
    have e : P.pace * (w / P.pace) + w % P.pace = w := Nat.div_add_mod w P.pace
    have hr := Nat.mod_lt w hp
    have b1 : P.pace ^ k ≤ w / P.pace := by
      rw [Nat.le_div_iff_mul_le hp, ← Nat.pow_succ]
      exact h1
    have b2 : w / P.pace < P.pace ^ (k + 1) := by
      rw [Nat.div_lt_iff_lt_mul hp, ← Nat.pow_succ]
      exact h2
    have hw1 : 1 ≤ w / P.pace := Nat.le_trans (Nat.le_trans Nat.one_le_two_pow (Nat.pow_le_pow_left p2 k)) b1
    have hl : lw P rt (w / P.pace) = true := lw_div p2 hr hw1 (by rw [e]; exact h)
    exact List.mem_flatMap.mpr ⟨w / P.pace, List.mem_filter.mpr ⟨cand_all p2 hl b1 b2, hl⟩, List.mem_map.mpr ⟨w % P.pace, List.mem_range.mpr hr, e⟩⟩
theorem cand_sort {P : Parts} {rt : List Nat} (p2 : 2 ≤ P.pace) : ∀ k, (cand P rt k).Pairwise (· < ·)
  | 0 => by
    show (List.range' 1 (P.pace - 1)).Pairwise (· < ·)
    exact List.pairwise_lt_range'
  | k + 1 => by
    show (((cand P rt k).filter (lw P rt)).flatMap fun w => (List.range P.pace).map fun r => P.pace * w + r).Pairwise (· < ·)
    rw [List.pairwise_flatMap]
    refine ⟨fun w _ => ?_, ((cand_sort p2 k).filter _).imp fun {a b} hab x hx y hy => ?_⟩
    · rw [List.pairwise_map]
      exact List.pairwise_lt_range.imp fun {x y} h => by omega
    · obtain ⟨r, hr, rfl⟩ := List.mem_map.mp hx
      obtain ⟨r', _, rfl⟩ := List.mem_map.mp hy
      have hr := List.mem_range.mp hr
      have := Nat.mul_le_mul_left P.pace (Nat.succ_le_of_lt hab)
      rw [Nat.mul_succ] at this
      omega
theorem fnd_mem {P : Parts} {rt : List Nat} (p2 : 2 ≤ P.pace) : ∀ {k w : Nat}, w ∈ fnd P rt k ↔ lw P rt w = true ∧ w < P.pace ^ k
  | 0, w => by
    show w ∈ [] ↔ _
    rw [Nat.pow_zero]
    exact ⟨fun h => (nomatch h), fun h => by have := (lw_iff.mp h.1).1; omega⟩
  | k + 1, w => by
    show w ∈ fnd P rt k ++ (cand P rt k).filter (lw P rt) ↔ _
    have hpk : P.pace ^ k ≤ P.pace ^ (k + 1) := Nat.pow_le_pow_right (by omega) (Nat.le_succ k)
    rw [List.mem_append, fnd_mem p2, List.mem_filter]
    constructor
    · rintro (⟨h1, h2⟩ | ⟨h1, h2⟩)
      · exact ⟨h1, by omega⟩
      · exact ⟨h2, (cand_bd p2 h1).2⟩
    · rintro ⟨h1, h2⟩
      by_cases c : w < P.pace ^ k
      · exact .inl ⟨h1, c⟩
      · exact .inr ⟨cand_all p2 h1 (by omega) h2, h1⟩
theorem fnd_sort {P : Parts} {rt : List Nat} (p2 : 2 ≤ P.pace) : ∀ k, (fnd P rt k).Pairwise (· < ·)
  | 0 => .nil
  | k + 1 => by
    show (fnd P rt k ++ (cand P rt k).filter (lw P rt)).Pairwise (· < ·)
    rw [List.pairwise_append]
    refine ⟨fnd_sort p2 k, (cand_sort p2 k).filter _, fun a ha b hb => ?_⟩
    have h1 := ((fnd_mem p2).mp ha).2
    have h2 := (cand_bd p2 (List.mem_filter.mp hb).1).1
    omega
/-- the least waits, ascending -/
structure WtL (P : Parts) (rt : List Nat) (l : List Nat) : Prop where
  sort : l.Pairwise (· < ·)
  mem : ∀ w, w ∈ l ↔ lw P rt w = true
theorem fnd_done {P : Parts} {rt : List Nat} (p2 : 2 ≤ P.pace) {k : Nat} (h : cand P rt k = []) : WtL P rt (fnd P rt k) := by
  have hn : ∀ i, cand P rt (k + i) = [] := by
    intro i
    induction i with
    | zero => exact h
    | succ i ih =>
      show ((cand P rt (k + i)).filter (lw P rt)).flatMap _ = []
      rw [ih]
      rfl
  refine ⟨fnd_sort p2 k, fun w => ⟨fun q => ((fnd_mem p2).mp q).1, fun q => (fnd_mem p2).mpr ⟨q, ?_⟩⟩⟩
  refine Classical.byContradiction fun z => ?_
  have hw1 := (lw_iff.mp q).1
  -- the level of w
  have hlev : ∀ i, P.pace ^ (k + i) ≤ w := by
    intro i
    induction i with
    | zero => show P.pace ^ k ≤ w; omega
    | succ i ih =>
      refine Classical.byContradiction fun z2 => ?_
      have := cand_all p2 q ih (by have : k + (i + 1) = k + i + 1 := rfl; rw [← this]; omega)
      rw [hn i] at this
      cases this
  have h1 := hlev w
  have h2 : w < 2 ^ w := Nat.lt_two_pow_self
  have h3 : 2 ^ w ≤ P.pace ^ w := Nat.pow_le_pow_left p2 w
  have h4 : P.pace ^ w ≤ P.pace ^ (k + w) := Nat.pow_le_pow_right (by omega) (by omega)
  omega
/-- the next candidate has been found before, or it is a least wait -/
theorem cand_new {P : Parts} {rt : List Nat} (p2 : 2 ≤ P.pace) {k j c : Nat} (h : (cand P rt k)[j]? = some c) : (∃ v ∈ fnd P rt k ++ ((cand P rt k).take j).filter (lw P rt), behL P rt v = behL P rt c) ↔ lw P rt c = false := by
  have hc := List.mem_of_getElem? h
  have hb := cand_bd p2 hc
  have hj := (List.getElem?_eq_some_iff.mp h).1
  have hs := cand_sort (rt := rt) p2 k
  have before : ∀ v ∈ (cand P rt k).take j, v < c := fun v hv => by
    obtain ⟨i, hi⟩ := List.getElem?_of_mem hv
    have hij : i < j := by have := (List.getElem?_eq_some_iff.mp hi).1; rw [List.length_take] at this; omega
    rw [List.getElem?_take_of_lt hij] at hi
    have e1 := (List.getElem?_eq_some_iff.mp hi).2
    have e2 := (List.getElem?_eq_some_iff.mp h).2
    have := List.pairwise_iff_getElem.mp hs i j (by omega) hj hij
    rw [e1, e2] at this
    exact this
  constructor
  · rintro ⟨v, hv, e⟩
    rw [Bool.eq_false_iff]
    intro z
    have hvl : lw P rt v = true ∧ v < c := by
      rcases List.mem_append.mp hv with hv | hv
      · have := (fnd_mem p2).mp hv
        exact ⟨this.1, by omega⟩
      · exact ⟨(List.mem_filter.mp hv).2, before v (List.mem_filter.mp hv).1⟩
    have := lw_inj hvl.1 z e
    omega
  · intro z
    have hc1 : 1 ≤ c := Nat.le_trans (Nat.le_trans Nat.one_le_two_pow (Nat.pow_le_pow_left p2 k)) hb.1
    obtain ⟨v, hv, hl, e⟩ := lw_least P rt c hc1
    have hvc : v ≠ c := fun q => by rw [q, z] at hl; cases hl
    refine ⟨v, ?_, e⟩
    by_cases hk : v < P.pace ^ k
    · exact List.mem_append.mpr (.inl ((fnd_mem p2).mpr ⟨hl, hk⟩))
    · have hvm := cand_all (k := k) p2 hl (by omega) (by omega)
      obtain ⟨i, hi⟩ := List.getElem?_of_mem hvm
      have hij : i < j := by
        refine Classical.byContradiction fun q => ?_
        have hi2 := List.getElem?_eq_some_iff.mp hi
        have hj2 := List.getElem?_eq_some_iff.mp h
        rcases Nat.lt_or_eq_of_le (Nat.le_of_not_lt q) with q | q
        · have := List.pairwise_iff_getElem.mp hs j i hj hi2.1 q
          rw [hi2.2, hj2.2] at this
          omega
        · subst q
          rw [h] at hi
          exact hvc (Option.some.inj hi).symm
      exact List.mem_append.mpr (.inr (List.mem_filter.mpr ⟨List.mem_of_getElem? (i := i) (by rw [List.getElem?_take_of_lt hij]; exact hi), hl⟩))
theorem nodup_lt : ∀ {n : Nat} {l : List Nat}, l.Nodup → (∀ x ∈ l, x < n) → l.length ≤ n
  | 0, l, _, h => by
    cases l with
    | nil => exact Nat.le_refl _
    | cons x l => exact absurd (h x List.mem_cons_self) (Nat.not_lt_zero x)
  | n + 1, l, hn, h => by
    have h2 : (l.erase n).length ≤ n := nodup_lt (hn.erase n) fun x hx => by
      have := h x (List.mem_of_mem_erase hx)
      have hne : x ≠ n := fun e => by rw [e] at hx; exact (List.Nodup.mem_erase_iff hn).mp hx |>.1 rfl
      omega
    have h3 := List.length_erase_le (a := n) (l := l)
    by_cases c : n ∈ l
    · rw [List.length_erase_of_mem c] at h2
      omega
    · rw [List.erase_of_not_mem c] at h2
      omega
theorem beh_len {P : Parts} {lim : Nat} (ok : P.Ok lim) (hl : lim ≤ 64) {rt : List Nat} (hr : StOk P rt) {l : List Nat} (hs : l.Pairwise (· < ·)) (hw : ∀ w ∈ l, lw P rt w = true) : l.length ≤ 64 := by
  have h1 : (l.map fun w => numP P (behL P rt w)).Nodup := by
    show (l.map _).Pairwise (· ≠ ·)
    rw [List.pairwise_map]
    refine hs.imp_of_mem fun {a b} ha hb h e => ?_
    have := lw_inj (hw a ha) (hw b hb) (numP_inj (beh_ok ok hr a) (beh_ok ok hr b) e)
    omega
  have h2 := nodup_lt h1 (n := 64) fun x hx => by
    obtain ⟨w, _, rfl⟩ := List.mem_map.mp hx
    exact Nat.lt_of_lt_of_le (numP_lt (beh_ok ok hr w)) (stsP_len ok hl)
  rwa [List.length_map] at h2
theorem lw_zero {P : Parts} {rt : List Nat} : lw P rt 0 = false := by
  rw [Bool.eq_false_iff]
  intro z
  have := (lw_iff.mp z).1
  omega
theorem filt_succ {P : Parts} {rt : List Nat} (n : Nat) : (List.range (n + 1)).filter (lw P rt) = (List.range n).filter (lw P rt) ++ if lw P rt n then [n] else [] := by
  rw [List.range_succ, List.filter_append]
  congr 1
  by_cases c : lw P rt n = true
  · rw [if_pos c, List.filter_cons_of_pos c, List.filter_nil]
  · rw [if_neg c, List.filter_cons_of_neg c, List.filter_nil]
/-- what comes at n has come before, or n is a least wait -/
theorem lw_new {P : Parts} {rt : List Nat} {n : Nat} (h : 1 ≤ n) : (∃ v ∈ (List.range n).filter (lw P rt), behL P rt v = behL P rt n) ↔ lw P rt n = false := by
  constructor
  · rintro ⟨v, hv, e⟩
    rw [Bool.eq_false_iff]
    intro z
    obtain ⟨h1, h2⟩ := List.mem_filter.mp hv
    have := lw_inj h2 z e
    have := List.mem_range.mp h1
    omega
  · intro z
    obtain ⟨v, hv, hl, e⟩ := lw_least P rt n h
    have hvn : v ≠ n := fun q => by rw [q, z] at hl; cases hl
    exact ⟨v, List.mem_filter.mpr ⟨List.mem_range.mpr (by omega), hl⟩, e⟩
/-- the least waits are closed under leading -/
theorem wt_led {P : Parts} {rt l : List Nat} (p2 : 2 ≤ P.pace) (h : WtL P rt l) {w r : Nat} (hw : w ∈ l) (hr : r < P.pace) : ∃ v ∈ l, behL P rt v = ledL P (behL P rt w) r := by
  have h1 := (lw_iff.mp ((h.mem w).mp hw)).1
  have hm : 1 ≤ P.pace * w := Nat.mul_pos (by omega) h1
  obtain ⟨v, _, hl, e⟩ := lw_least P rt (P.pace * w + r) (by omega)
  exact ⟨v, (h.mem v).mpr hl, by rw [e, beh_mul p2 hr (by omega)]⟩
theorem wt_root {P : Parts} {rt l : List Nat} (p2 : 2 ≤ P.pace) (h : WtL P rt l) {r : Nat} (h0 : r ≠ 0) (hr : r < P.pace) : ∃ v ∈ l, behL P rt v = ledL P rt r := by
  obtain ⟨v, _, hl, e⟩ := lw_least P rt r (by omega)
  refine ⟨v, (h.mem v).mpr hl, ?_⟩
  have e2 := beh_mul (P := P) (st := rt) (w := 0) p2 hr (by rw [Nat.mul_zero, Nat.zero_add]; exact h0)
  rw [Nat.mul_zero, Nat.zero_add, beh_at0] at e2
  rw [e, e2]
/-- the told waits up to a wait are the walked ones -/
theorem wt_upto {P : Parts} {rt l : List Nat} (h : WtL P rt l) (n : Nat) : l.filter (fun w => decide (w ≤ n)) = (List.range (n + 1)).filter (lw P rt) := by
  have s1 : (l.filter (fun w => decide (w ≤ n))).Pairwise (· < ·) := h.sort.filter _
  have s2 : ((List.range (n + 1)).filter (lw P rt)).Pairwise (· < ·) := List.pairwise_lt_range.filter _
  refine List.Perm.eq_of_pairwise (fun a b _ _ h1 h2 => absurd h1 (by omega)) s1 s2 ((List.perm_ext_iff_of_nodup (s1.imp fun h => by omega) (s2.imp fun h => by omega)).mpr fun w => ?_)
  rw [List.mem_filter, List.mem_filter, List.mem_range, h.mem, decide_eq_true_eq]
  constructor
  · rintro ⟨a, b⟩; exact ⟨by omega, a⟩
  · rintro ⟨a, b⟩; exact ⟨b, by omega⟩
theorem lw_divs {P : Parts} {rt : List Nat} {w : Nat} (p2 : 2 ≤ P.pace) (h : lw P rt w = true) : ∀ i, 1 ≤ w / P.pace ^ i → lw P rt (w / P.pace ^ i) = true
  | 0, _ => by rw [Nat.pow_zero, Nat.div_one]; exact h
  | i + 1, h1 => by
    have e : w / P.pace ^ (i + 1) = w / P.pace ^ i / P.pace := by rw [Nat.pow_succ, Nat.div_div_eq_div_mul]
    rw [e] at h1 ⊢
    have h2 : 1 ≤ w / P.pace ^ i := Nat.le_trans h1 (Nat.div_le_self _ _)
    have h3 := lw_divs p2 h i h2
    exact lw_div p2 (Nat.mod_lt (w / P.pace ^ i) (by omega)) h1 (by rw [Nat.div_add_mod]; exact h3)
/-- a least wait has at most 64 figures -/
theorem lw_lt {P : Parts} {lim : Nat} (ok : P.Ok lim) (hl : lim ≤ 64) {rt : List Nat} (hr : StOk P rt) {w : Nat} (h : lw P rt w = true) : w < P.pace ^ 64 := by
  refine Nat.lt_of_not_le fun z => ?_
  have p2 := ok.p2
  have hp : ∀ i, 0 < P.pace ^ i := fun i => Nat.pow_pos (by omega)
  have h1 : ∀ i, i ≤ 64 → 1 ≤ w / P.pace ^ i := fun i hi => (Nat.le_div_iff_mul_le (hp i)).mpr (by
    rw [Nat.one_mul]
    exact Nat.le_trans (Nat.pow_le_pow_right (by omega) hi) z)
  have hs : ((List.range 65).map fun i => w / P.pace ^ (64 - i)).Pairwise (· < ·) := by
    rw [List.pairwise_map]
    refine List.pairwise_lt_range.imp_of_mem fun {a b} ha hb hab => ?_
    have ha := List.mem_range.mp ha
    have hb := List.mem_range.mp hb
    have e : w / P.pace ^ (64 - a) = w / P.pace ^ (64 - b) / P.pace ^ (b - a) := by
      rw [Nat.div_div_eq_div_mul, ← Nat.pow_add]
      congr 2
      omega
    rw [e]
    refine Nat.div_lt_self (h1 _ (by omega)) ?_
    have : P.pace ^ 1 ≤ P.pace ^ (b - a) := Nat.pow_le_pow_right (by omega) (by omega)
    rw [Nat.pow_one] at this
    omega
  have := beh_len ok hl hr hs fun x hx => by
    obtain ⟨i, hi, rfl⟩ := List.mem_map.mp hx
    exact lw_divs p2 h _ (h1 _ (by omega))
  rw [List.length_map, List.length_range] at this
  omega
theorem lw_small {P : Parts} {lim : Nat} (ok : P.Ok lim) (hl : lim ≤ 64) {rt : List Nat} (hr : StOk P rt) {w : Nat} (h : lw P rt w = true) : w < 2 ^ 1000 := by
  have h1 := lw_lt ok hl hr h
  have h2 : P.pace ^ 64 ≤ 4 ^ 64 := Nat.pow_le_pow_left ok.p4 64
  have h3 : (4 : Nat) ^ 64 < 2 ^ 1000 := by decide +kernel
  omega
end HG

/-! what the waits' defs promise -/
namespace HG
open PySem PySem.Spec PyProof.Rows L2
/-- pairs of a standing's number and its least wait -/
def RowsW (H : Hp) (P : Parts) (rt : List Nat) (ts : List Addr) (l : List Nat) : Prop := ts.length = l.length ∧ ∀ (k : Nat) (t : Addr), ts[k]? = some t → ∃ w, l[k]? = some w ∧ H t = some (.tup [.int (numP P (behL P rt w) : Int), .int (w : Int)])
theorem RowsW.keep {H H' : Hp} {P : Parts} {rt : List Nat} {ts : List Addr} {l : List Nat} (s : ∀ b xs, H b = some (.tup xs) → H' b = some (.tup xs)) (h : RowsW H P rt ts l) : RowsW H' P rt ts l := ⟨h.1, fun k t e => let ⟨w, a, b⟩ := h.2 k t e; ⟨w, a, s _ _ b⟩⟩
theorem RowsW.snoc {H : Hp} {P : Parts} {rt : List Nat} {ts : List Addr} {l : List Nat} {t : Addr} {w : Nat} (h : RowsW H P rt ts l) (e : H t = some (.tup [.int (numP P (behL P rt w) : Int), .int (w : Int)])) : RowsW H P rt (ts ++ [t]) (l ++ [w]) := by
  refine ⟨by rw [List.length_append, List.length_append, h.1]; rfl, fun k t' q => ?_⟩
  by_cases c : k < ts.length
  · rw [List.getElem?_append_left c] at q
    obtain ⟨w', a, b⟩ := h.2 k t' q
    exact ⟨w', by rw [List.getElem?_append_left (by rw [← h.1]; exact c)]; exact a, b⟩
  · have hk : k = ts.length := by
      have := (List.getElem?_eq_some_iff.mp q).1
      rw [List.length_append] at this
      have : k < ts.length + 1 := this
      omega
    subst hk
    rw [List.getElem?_concat_length] at q
    cases q
    exact ⟨w, by rw [h.1, List.getElem?_concat_length], e⟩
theorem RowsW.nil {H : Hp} {P : Parts} {rt : List Nat} : RowsW H P rt [] [] := ⟨rfl, fun k t e => by cases e⟩
theorem keepL {H H' : Hp} {D : Addr} {ys zs : List V} (s : Same H H') (hD : H D = some (.lst ys)) : ∀ b xs, H b = some (.tup xs) → (upd H' D (.lst zs)) b = some (.tup xs) := fun b xs e => by
  rw [upd_ne fun z => by rw [z, hD] at e; cases e]
  exact s _ _ e
theorem beh_one {P : Parts} {rt : List Nat} {r : Nat} (p2 : 2 ≤ P.pace) (hr : r < P.pace) (h : r ≠ 0) : behL P rt r = ledL P rt r := by
  have := beh_mul (P := P) (st := rt) (w := 0) p2 hr (by rw [Nat.mul_zero, Nat.zero_add]; exact h)
  rwa [Nat.mul_zero, Nat.zero_add, beh_at0] at this
/-- what has been found, as the dict keeps it -/
def fkv (P : Parts) (rt : List Nat) (l : List Nat) : List (Key × V) := l.map fun w => (.inl (numP P (behL P rt w) : Int), .int (w : Int))
theorem fkv_val {P : Parts} {lim : Nat} (ok : P.Ok lim) {rt : List Nat} (hr : StOk P rt) {c : Nat} : ∀ l : List Nat, (valV (fkv P rt l) (.inl (numP P (behL P rt c) : Int))).isSome = true ↔ ∃ v ∈ l, behL P rt v = behL P rt c
  | [] => by
    show (none : Option V).isSome = true ↔ _
    exact ⟨fun h => (nomatch h), fun ⟨v, h, _⟩ => (nomatch h)⟩
  | v :: l => by
    have ih := fkv_val ok hr (c := c) l
    by_cases e : behL P rt v = behL P rt c
    · have e2 : (fkv P rt (v :: l)) = (.inl (numP P (behL P rt v) : Int), .int (v : Int)) :: fkv P rt l := rfl
      rw [e2, valV_pos (by rw [e])]
      exact ⟨fun _ => ⟨v, List.mem_cons_self, e⟩, fun _ => rfl⟩
    · have e2 : (fkv P rt (v :: l)) = (.inl (numP P (behL P rt v) : Int), .int (v : Int)) :: fkv P rt l := rfl
      rw [e2, valV_neg (fun q => e (numP_inj (beh_ok ok hr v) (beh_ok ok hr c) (by have := Sum.inl.inj q; omega))), ih]
      exact ⟨fun ⟨u, a, b⟩ => ⟨u, List.mem_cons_of_mem _ a, b⟩, fun ⟨u, a, b⟩ => by
        rcases List.mem_cons.mp a with rfl | a
        · exact absurd b e
        · exact ⟨u, a, b⟩⟩
/-- the steps as they lie -/
def StpsAt (G : Hp) (P : Parts) (tl : Addr) : Prop := ∃ ss, G tl = some (.tup ss) ∧ ss.length = (stsP P).length ∧ ∀ (k : Nat) (st : List Nat), (stsP P)[k]? = some st → ∃ b, ss[k]? = some (.ref b) ∧ G b = some (.tup (nVs (stepsP P st)))
theorem StpsAt.same {G G' : Hp} {P : Parts} {tl : Addr} (s : Same G G') (h : StpsAt G P tl) : StpsAt G' P tl := let ⟨ss, a, b, c⟩ := h; ⟨ss, s _ _ a, b, fun k st e => let ⟨q, d, f⟩ := c k st e; ⟨q, d, s _ _ f⟩⟩
def spBfs : Sp := fun vs H Q _ => ∃ (tl : Addr) (P : Parts) (lim : Nat) (rt : List Nat), vs = [.ref tl, .int (numP P rt : Int)] ∧ StpsAt H P tl ∧ P.Ok lim ∧ lim ≤ 64 ∧ StOk P rt ∧
  ∀ (p : Addr) (ts : List Addr) (l : List Nat) (H' : Hp), Same H H' → H p = none → H' p = some (.lst (ts.map V.ref)) → WtL P rt l → RowsW H' P rt ts l → Q (.ref p) H'
/-- what is kept of waits -/
def RchOk (H : Hp) (rl : Addr) (P : Parts) (m : Nat) : Prop := ∃ kvs, H rl = some (.dK kvs) ∧ kvs.length ≤ m ∧ ∀ (n : Nat) (v : V), valV kvs (.inl (n : Int)) = some v → ∃ (rt : List Nat) (tu : Addr) (ts : List Addr) (l : List Nat), StOk P rt ∧ n = numP P rt ∧ v = .ref tu ∧ H tu = some (.tup (ts.map V.ref)) ∧ WtL P rt l ∧ RowsW H P rt ts l
theorem RchOk.keep {H H' : Hp} {rl : Addr} {P : Parts} {m : Nat} (s : ∀ b xs, H b = some (.tup xs) → H' b = some (.tup xs)) (e : H' rl = H rl) (h : RchOk H rl P m) : RchOk H' rl P m := by
  obtain ⟨kvs, h1, h2, h3⟩ := h
  refine ⟨kvs, by rw [e]; exact h1, h2, fun n v q => ?_⟩
  obtain ⟨rt, tu, ts, l, a, b, c, d, f, g⟩ := h3 n v q
  exact ⟨rt, tu, ts, l, a, b, c, s _ _ d, f, g.keep s⟩
theorem RchOk.same {H H' : Hp} {rl : Addr} {P : Parts} {m : Nat} (s : Same H H') (h : RchOk H rl P m) : RchOk H' rl P m := h.keep (fun b xs e => s _ _ e) (by
  obtain ⟨kvs, h1, _⟩ := h
  rw [h1, s _ _ h1])
/-- but for the one place -/
theorem Kx.off {x : Addr} {H H' : Hp} (k : Kx x H H') : Same (off x H) (off x H') := fun b o e => by
  unfold HG.off at e ⊢
  by_cases c : b = x
  · rw [if_pos c] at e; cases e
  · rw [if_neg c] at e ⊢; exact k _ _ e c
/-- the choir of which more may be kept: G the heap without it -/
def spNumM (K : PySem.W.Frag) (C : Addr) : Sp := fun vs H Q _ => ∃ (G : Hp) (x : Addr) (sv : V) (P : Parts) (rl ll : Addr) (st : List Nat), vs = [.ref x, sv] ∧ Same G H ∧ AtF K C G x P rl ll ∧ TrT G sv st ∧ StOk P st ∧ Q (.int (numP P st : Int)) H
def spStds (K : PySem.W.Frag) (C : Addr) : Sp := fun vs H Q _ => ∃ (G : Hp) (x : Addr) (P : Parts) (rl ll : Addr), vs = [.ref x] ∧ Same G H ∧ AtF K C G x P rl ll ∧ ∀ (q : Addr) (ys : List V) (H' : Hp), Same H H' → H q = none → H' q = some (.lst ys) → TrAll G ys (stsP P) → Q (.ref q) H'
def spReach (K : PySem.W.Frag) (C : Addr) : Sp := fun vs H Q _ => ∃ (G : Hp) (x : Addr) (P : Parts) (lim : Nat) (rl ll : Addr) (rt : List Nat) (m : Nat), vs = [.ref x, .int (numP P rt : Int)] ∧ Same G H ∧ G rl = none ∧ AtF K C G x P rl ll ∧ P.Ok lim ∧ lim ≤ 64 ∧ StOk P rt ∧ RchOk H rl P m ∧ m ≤ 900 ∧
  ∀ (tu : Addr) (ts : List Addr) (l : List Nat) (H' : Hp), Kx rl H H' → RchOk H' rl P (m + 1) → H' tu = some (.tup (ts.map V.ref)) → WtL P rt l → RowsW H' P rt ts l → Q (.ref tu) H'
/-- rows of a standing and its least wait -/
def RowsS (H : Hp) (G : Hp) (P : Parts) (rt : List Nat) (ts : List Addr) (l : List Nat) : Prop := ts.length = l.length ∧ ∀ (k : Nat) (t : Addr), ts[k]? = some t → ∃ w y, l[k]? = some w ∧ H t = some (.tup [y, .int (w : Int)]) ∧ TrT G y (behL P rt w)
theorem RowsS.keep {H H' G : Hp} {P : Parts} {rt : List Nat} {ts : List Addr} {l : List Nat} (s : ∀ b xs, H b = some (.tup xs) → H' b = some (.tup xs)) (h : RowsS H G P rt ts l) : RowsS H' G P rt ts l := ⟨h.1, fun k t e => let ⟨w, y, a, b, c⟩ := h.2 k t e; ⟨w, y, a, s _ _ b, c⟩⟩
theorem RowsS.nil {H G : Hp} {P : Parts} {rt : List Nat} : RowsS H G P rt [] [] := ⟨rfl, fun k t e => by cases e⟩
theorem RowsS.snoc {H G : Hp} {P : Parts} {rt : List Nat} {ts : List Addr} {l : List Nat} {t : Addr} {w : Nat} {y : V} (h : RowsS H G P rt ts l) (e : H t = some (.tup [y, .int (w : Int)])) (f : TrT G y (behL P rt w)) : RowsS H G P rt (ts ++ [t]) (l ++ [w]) := by
  refine ⟨by rw [List.length_append, List.length_append, h.1]; rfl, fun k t' q => ?_⟩
  by_cases c : k < ts.length
  · rw [List.getElem?_append_left c] at q
    obtain ⟨w', y', a, b⟩ := h.2 k t' q
    exact ⟨w', y', by rw [List.getElem?_append_left (by rw [← h.1]; exact c)]; exact a, b⟩
  · have hk : k = ts.length := by
      have := (List.getElem?_eq_some_iff.mp q).1
      rw [List.length_append] at this
      have : k < ts.length + 1 := this
      omega
    subst hk
    rw [List.getElem?_concat_length] at q
    cases q
    exact ⟨w, y, by rw [h.1, List.getElem?_concat_length], e, f⟩
def spWaits (K : PySem.W.Frag) (C : Addr) : Sp := fun vs H Q _ => ∃ (G : Hp) (x : Addr) (sv : V) (P : Parts) (lim : Nat) (rl ll : Addr) (rt : List Nat) (m : Nat), vs = [.ref x, sv] ∧ Same G H ∧ G rl = none ∧ AtF K C G x P rl ll ∧ TrT G sv rt ∧ P.Ok lim ∧ lim ≤ 64 ∧ StOk P rt ∧ RchOk H rl P m ∧ m ≤ 900 ∧
  ∀ (q : Addr) (ts : List Addr) (l : List Nat) (H' : Hp), Kx rl H H' → RchOk H' rl P (m + 1) → H q = none → (∀ t ∈ ts, H t = none) → H' q = some (.lst (ts.map V.ref)) → WtL P rt l → RowsS H' G P rt ts l → Q (.ref q) H'
theorem RowsS.up {H H' G G' : Hp} {P : Parts} {rt : List Nat} {ts : List Addr} {l : List Nat} (s : ∀ b xs, H b = some (.tup xs) → H' b = some (.tup xs)) (g : ∀ b xs, G b = some (.tup xs) → G' b = some (.tup xs)) (h : RowsS H G P rt ts l) : RowsS H' G' P rt ts l := ⟨h.1, fun k t e => let ⟨w, y, a, b, ⟨q, c, d⟩⟩ := h.2 k t e; ⟨w, y, a, s _ _ b, ⟨q, c, g _ _ d⟩⟩⟩
/-- tuples stay -/
def KeepT (H H' : Hp) : Prop := ∀ b xs, H b = some (.tup xs) → H' b = some (.tup xs)
theorem KeepT.same {H H' : Hp} (s : Same H H') : KeepT H H' := fun _ _ e => s _ _ e
theorem KeepT.trans {A B C : Hp} (a : KeepT A B) (b : KeepT B C) : KeepT A C := fun x xs e => b x xs (a x xs e)
theorem KeepT.lst {H H' : Hp} {D : Addr} {ys zs : List V} (s : Same H H') (hD : H D = some (.lst ys)) : KeepT H (upd H' D (.lst zs)) := keepL s hD
theorem KeepT.kx {H H' : Hp} {x : Addr} {kvs : List (Key × V)} (k : Kx x H H') (h : H x = some (.dK kvs)) : KeepT H H' := fun b xs e => k _ _ e fun z => by rw [z, h] at e; cases e
theorem TrT.kt {G G' : Hp} {v : V} {t : List Nat} (k : KeepT G G') (h : TrT G v t) : TrT G' v t := let ⟨a, e, q⟩ := h; ⟨a, e, k _ _ q⟩
theorem TrAll.kt {G G' : Hp} {ys : List V} {ts : List (List Nat)} (k : KeepT G G') (h : TrAll G ys ts) : TrAll G' ys ts := ⟨h.1, fun i x e => let ⟨t, a, b⟩ := h.2 i x e; ⟨t, a, b.kt k⟩⟩
theorem RowsS.kt {H H' : Hp} {P : Parts} {rt : List Nat} {ts : List Addr} {l : List Nat} (k : KeepT H H') (h : RowsS H H P rt ts l) : RowsS H' H' P rt ts l := h.up k k
theorem RchOk.kt {H H' : Hp} {rl : Addr} {P : Parts} {m : Nat} (k : KeepT H H') (e : H' rl = H rl) (h : RchOk H rl P m) : RchOk H' rl P m := h.keep k e
/-- the row as data -/
def rowD (P : Parts) (rt : List Nat) (w : Nat) : PyData := .tuple [tabD (behL P rt w), .int (w : Int)]
theorem RowsS.dp {K : PySem.W.Frag} {H : Hp} {P : Parts} {rt : List Nat} : ∀ {ts : List Addr} {l : List Nat}, RowsS H H P rt ts l → DpAll K H (ts.map V.ref) (l.map (rowD P rt))
  | [], [], _ => .nil
  | [], _ :: _, h => nomatch h.1
  | _ :: _, [], h => nomatch h.1
  | t :: ts, w :: l, h => by
    obtain ⟨w', y, e, h1, h2⟩ := h.2 0 t rfl
    cases e
    exact .cons (.tup (.inl (.inl h1)) (.cons h2.dp (.cons (.int _) .nil))) (RowsS.dp ⟨Nat.succ.inj h.1, fun k t e => h.2 (k + 1) t e⟩)
def spWalked (K : PySem.W.Frag) : Sp := fun vs H Q _ => ∃ (G : Hp) (v sv : V) (P : Parts) (lim : Nat) (rt : List Nat) (n : Nat), vs = [v, sv, .int (n : Int)] ∧ Same G H ∧ Dp K G v (partsD P) ∧ P.Ok lim ∧ lim ≤ 64 ∧ StOk P rt ∧ TrT G sv rt ∧ n ≤ 600 ∧
  ∀ (q : Addr) (ts : List Addr) (H' : Hp), Same H H' → H q = none → (∀ t ∈ ts, H t = none) → H' q = some (.lst (ts.map V.ref)) → RowsS H' H' P rt ts ((List.range (n + 1)).filter (lw P rt)) → Q (.ref q) H'
def spClosed (K : PySem.W.Frag) : Sp := fun vs H Q _ => ∃ (G : Hp) (v sv : V) (P : Parts) (lim : Nat) (rt : List Nat) (q : Addr) (ts : List Addr) (l : List Nat), vs = [v, sv, .ref q] ∧ Same G H ∧ Dp K G v (partsD P) ∧ P.Ok lim ∧ lim ≤ 64 ∧ StOk P rt ∧ TrT G sv rt ∧ H q = some (.lst (ts.map V.ref)) ∧ RowsS H H P rt ts l ∧ WtL P rt l ∧
  ∀ (H' : Hp), Same H H' → Q (.bl true) H'
def spRight51 (K : PySem.W.Frag) (C : Addr) : Sp := fun vs H Q _ => ∃ (G : Hp) (x : Addr) (v sv : V) (P : Parts) (lim : Nat) (rl ll : Addr) (rt : List Nat) (m : Nat), vs = [.ref x, v, sv] ∧ Same G H ∧ G rl = none ∧ AtF K C G x P rl ll ∧ Dp K G v (partsD P) ∧ TrT G sv rt ∧ P.Ok lim ∧ lim ≤ 64 ∧ StOk P rt ∧ RchOk H rl P m ∧ m ≤ 800 ∧
  ∀ (H' : Hp), Kx rl H H' → RchOk H' rl P (m + 2) → Q (.bl true) H'
end HG

/-! enumerate(tuple), sorted(tuple) -/
namespace HG
open PySem PySem.Spec PyProof.Rows L2
open PySem.W (sortingHeap sortingHeap_old list_sort_vals sortVals sortVals_length)
/-- a promise of either kind -/
def spOr (a b : Sp) : Sp := fun vs H Q E => a vs H Q E ∨ b vs H Q E
theorem FnOk_or {P : Program} {w : World} {K : PySem.W.Frag} {mg : Str → Option Value} {base : Heap} {CX : CXT} {k : Nat} {f : Addr} {fd : FuncData} {ps : List Str} {a b : Sp} (A : FnOk P w K mg base CX k f fd ps a) (B : FnOk P w K mg base CX k f fd ps b) : FnOk P w K mg base CX k f fd ps (spOr a b) :=
  ⟨fun vs H Q E h => h.elim (A.len vs H Q E) (B.len vs H Q E), fun Ar outer s H args us vs Q E hr he hb hv h => h.elim (A.run Ar outer s H args us vs Q E hr he hb hv) (B.run Ar outer s H args us vs Q E hr he hb hv)⟩
/-! ### enumerate(tuple) -/
def IteT (K : PySem.W.Frag) (a : Addr) : It :=
  ⟨fun i H => ∃ (ys : List V) (y : V), SqT K H a ys ∧ ys[i]? = some y, fun i H v H' => ∃ p y, v = .ref p ∧ H p = none ∧ H' = upd H p (.tup [.int (i : Nat), y]) ∧ ∀ ys, SqT K H a ys → ys[i]? = some y, fun i H => ∃ ys : List V, SqT K H a ys ∧ ys.length = i⟩
def stE (t e j : Addr) (i : Nat) (h : Heap) : Prop := (∃ old, IsEnum h e j ((i : Nat) : Int) old) ∧ h.IsTupleIter j t i ∧ e ≠ j ∧ t ≠ j ∧ t ≠ e
theorem stE_in {t e j b : Addr} {i : Nat} {h : Heap} (q : stE t e j i h) (m : b ∈ [e, j]) : ∃ o, h.get? b = some o ∧ ∀ v, o.data ≠ .cell v := by
  obtain ⟨⟨old, g1⟩, ⟨o, g2, _, g3⟩, _⟩ := q
  rcases List.mem_cons.mp m with rfl | m
  · exact ⟨_, g1, nofun⟩
  · rw [List.mem_singleton.mp m]
    exact ⟨o, g2, fun v z => by rw [g3] at z; cases z⟩
theorem turn_enumT {P : Program} {w : World} {K : PySem.W.Frag} {elts : List Expr} {kk : Nat} {tpos : Pos} (t e j : Addr) : Turn P w K (.Tuple elts kk tpos) (IteT K t) [e, j] e (stE t e j) where
  mem := List.mem_cons_self
  obj := fun i h q b m => stE_in q m
  keep := fun i h h' ⟨⟨old, g1⟩, g2, g3⟩ k => ⟨⟨old, k e (by simp) _ g1⟩, g2.at fun o z => k j (by simp) o z, g3⟩
  self := fun A i s Q E ⟨⟨_, g⟩, _⟩ h => wpAny_pyIter_enum g h
  item := by
    rintro X rfl rfl rfl hc i pins s σ H E I free q ⟨ys, y, sy, hy⟩
    obtain ⟨⟨old, g1⟩, g2, ne, tj, te⟩ := id q
    obtain ⟨vs, rv, pv, _⟩ := I.tuple sy
    obtain ⟨v, hv, ry⟩ := rv.get hy
    have D2 := drawsTup (prog := X.prog) (w := X.w) (A := X.A.in1) (I.ok.hd hc) j t tj vs.toArray
    have lv : i < vs.toArray.size := by
      have := (List.getElem?_eq_some_iff.mp hv).1
      simpa using this
    have el : e < s.heap.objs.size := Heap.lt_size g1
    have jl : j < s.heap.objs.size := by obtain ⟨_, z, _⟩ := id g2; exact Heap.lt_size z
    refine wpAny_pyNext_enum_itemD D2 g1 ⟨g2, pv⟩ lv ne (notIn2 ne te.symm) fun v' h1 tk e1 r1 r2 r3 r4 more => ?_
    obtain rfl : v' = v := by
      have e1' : vs[i]? = some v' := by simpa using e1
      rw [hv] at e1'
      exact (Option.some.inj e1').symm
    refine ⟨_, rfl, wpAny_letOwnedTupleGo_enum (s := { s with heap := h1, toks := tk + 1 }) r1 fun h2 r1' sb => ?_⟩
    have there : h2.get? s.heap.objs.size = some { cls := .type "tuple", data := .seq #[.int i tk, v'] } := (sb.2 _ (Nat.ne_of_gt el)).trans r3
    have obj : ObjOk X.prog X.w (upd H s.heap.objs.size (.tup [.int (i : Nat), y])) h2 s.heap.objs.size (.tup [.int (i : Nat), y]) := ⟨(by show 2 ≤ sizeLine; decide), [.int i tk, v'], .cons ⟨_, rfl⟩ (.cons ry .nil), _, there, rfl, _, rfl⟩
    have I1 : Inv X pins σ (upd H s.heap.objs.size (.tup [.int (i : Nat), y])) { s with heap := h2, toks := tk + 1 } := by
      refine I.turnedNew (t' := tk + 1) (ch := [e, j]) (fun c o nb z => ?_) free (Nat.le_refl _) obj
      have n1 : c ≠ e := fun g => nb (by simp [g])
      have n2 : c ≠ j := fun g => nb (by simp [g])
      exact (sb.2 c n1).trans (more c o n1 n2 z)
    refine ⟨.ref s.heap.objs.size, _, I1, rfl, ⟨_, y, rfl, I.hok.fresh (Nat.le_refl _), rfl, fun l hl => ?_⟩, ⟨⟨v', ?_⟩, ?_, ne, tj, te⟩, fun c m => ?_⟩
    · rw [I.tuple_inj hl sy]; exact hy
    · have e2 : ((i + 1 : Nat) : Int) = (i : Int) + 1 := by omega
      rw [e2]; exact r1'
    · exact r2.1.at fun o z => (sb.2 _ ne.symm).trans z
    · have lt : c < s.heap.objs.size := by
        rcases List.mem_cons.mp m with rfl | m
        · exact el
        · rw [List.mem_singleton.mp m]; exact jl
      rw [upd_ne (Nat.ne_of_lt lt)]
      exact (free c m).1
  done := by
    rintro X rfl rfl rfl hc i pins s σ H E I free q ⟨ys, sy, en⟩
    obtain ⟨⟨old, g1⟩, g2, ne, tj, te⟩ := id q
    obtain ⟨vs, rv, pv, _⟩ := I.tuple sy
    have D2 := drawsTup (prog := X.prog) (w := X.w) (A := X.A.in1) (I.ok.hd hc) j t tj vs.toArray
    have l2 : vs.toArray.size = i := by rw [← en, rv.length]; simp
    refine wpAny_pyNext_enum_endD D2 g1 (by rw [l2]; exact ⟨g2, pv⟩) fun h1 more => ⟨rfl, ?_⟩
    exact I.turnedL (t' := s.toks) (ch := [e, j]) (fun c o nb z => more c o (fun g => nb (by simp [g])) z) free
abbrev em1 (h : Heap) (t : Addr) : Heap := h.push { cls := .type "tuple_iterator", data := .fields #[.ref t, .int 0 0] }
abbrev em2 (h : Heap) (t : Addr) : Heap := (em1 h t).push { cls := .type "enumerate", data := .fields #[.none, .bool false, .ref h.objs.size, rawInt 0, .none, .none] }
theorem meets_enumT (t : Addr) (ys : Array Value) : Meets (Builtin.«enumerate.__new__» ⟨[.type "enumerate", .ref t], []⟩) (fun _ R s => s.heap.IsTuple t ys ∧ R (.ok (.ret (.ref (em1 s.heap t).objs.size))) { s with heap := em2 s.heap t }) :=
  .of_wp fun prog w A R s ⟨it, r⟩ => by
    obtain ⟨hp, g, d, tk, os⟩ := s
    have sub := sub_enumerate
    have q2 : Heap.IsTuple (Shared.heap ⟨hp, g, d, tk, os⟩) t ys := it
    obtain ⟨o2, e2, c2, n2, d2⟩ := id it
    wp_walk using wpAny_loadPart' e2
    refine wpAny_stack_any fun st => wpAny_pure ?_
    split
    · rename_i c _ _ _ _ _
      cases (c == Value.type "enumerate")
      · wp_walk using wpAny_loadPart' e2, wpAny_pyIter_tuple q2
        exact ⟨_, rfl, r⟩
      · wp_walk using wpAny_loadPart' e2, wpAny_pyIter_tuple q2
        exact ⟨_, rfl, r⟩
    · wp_walk using wpAny_loadPart' e2, wpAny_pyIter_tuple q2
      exact ⟨_, rfl, r⟩
section
variable {prog : Program} {w : World} {A : Around} {E : Value → Shared → Prop} {s : Shared}
theorem call_enumT {t : Addr} {ys : Array Value} {Q : Value → Shared → Prop} (it : s.heap.IsTuple t ys)
    (wish : ∀ h', (IsEnum h' (s.heap.objs.size + 1) s.heap.objs.size ((0 : Nat) : Int) .none ∧ h'.IsTupleIter s.heap.objs.size t 0) → (∀ c o, s.heap.get? c = some o → h'.get? c = some o) → Q (.ref (s.heap.objs.size + 1)) { s with heap := h' }) :
    wpAny (model prog w) A (call (.type "enumerate") [.ref t]) Q E s := by
  refine callType_new F.called_enumerate (by decide) (F.typeCall_enumerate_1 _) (F.newCall_enumerate_1 _) (fun obj => F.args_object_init_2 obj _) F.entry_enumerate_new (meets_enumT t ys) ⟨it, ?_⟩
  have n1 : (em1 s.heap t).objs.size = s.heap.objs.size + 1 := Heap.size_push ..
  have a2 : (em2 s.heap t).get? (em1 s.heap t).objs.size = some _ := Heap.get?_push_size _ rfl
  have a1 : (em2 s.heap t).get? s.heap.objs.size = some _ := Heap.get?_push_of_some _ (Heap.get?_push_size _ rfl)
  show _ ∧ _
  rw [n1] at a2
  rw [n1]
  exact ⟨⟨_, a2, rfl⟩, wish _ ⟨a2, ⟨_, a1, rfl, rfl⟩⟩ fun c o e => Heap.get?_push_of_some _ (Heap.get?_push_of_some _ e)⟩
end
def iEnumT (K : PySem.W.Frag) (ta : TA) : TI := fun σ H R => ta σ H fun vs H1 => ∃ a ys, vs = [.ref a] ∧ SqT K H1 a ys ∧ R (IteT K a) H1
theorem pi_enumT {X : Cx} {e : Expr} {ta : TA} {p pos tpos : Pos} {elts : List Expr} {kk : Nat} (hg : Gl X "enumerate") (hm : X.mg "enumerate" = none) (ha : PA X [e] ta) (h1 : starEach [e] X.env = [(false, eval e X.env)] := by rfl) : PI X (.Tuple elts kk tpos) (.Call (.Name "enumerate" p) [e] [] pos) (iEnumT X.K ta) := by
  refine ⟨fun pins s σ H R I wish => Call_ (ld_blt I hg hm boot_enumerate (PyProof.Rows.callWith_type1 (thn (ha.run pos pins s σ H _ I wish) fun us t ⟨vs, H1, J, rel, a, ys, ev, sy, q⟩ => ?_) h1 rfl))⟩
  subst ev
  cases rel with
  | cons r rr =>
    cases rr
    cases r
    obtain ⟨vs, rv, pv, _⟩ := J.tuple sy
    obtain ⟨o2, e2, _⟩ := id pv
    have la : a < t.heap.objs.size := Heap.lt_size e2
    refine call_enumT (show t.heap.IsTuple a vs.toArray from pv) fun h' st up => wpAny_pyIter_enum st.1 ?_
    refine ⟨t.heap.objs.size + 1, [t.heap.objs.size + 1, t.heap.objs.size], _, _, H1, rfl, J.kept (t' := t.toks) up, turn_enumT a (t.heap.objs.size + 1) t.heap.objs.size, ⟨⟨.none, st.1⟩, st.2, Nat.succ_ne_self _, Nat.ne_of_lt la, Nat.ne_of_lt (Nat.lt_succ_of_lt la)⟩, fun c m => ?_, q⟩
    have le : t.heap.objs.size ≤ c := by
      rcases List.mem_cons.mp m with rfl | m
      · exact Nat.le_succ _
      · rw [List.mem_singleton.mp m]; exact Nat.le_refl _
    exact J.fpOk le (J.hok.fresh le)
theorem walk_enumT {K : PySem.W.Frag} {a : Addr} {ys : List V} : Walk (IteT K a) ys.length (fun H => SqT K H a ys) (YPair (fun i => some (.int (i : Nat))) (fun i => ys[i]?)) :=
  ⟨fun i _ hi q => ⟨ys, ys[i], q, by simp [hi]⟩, fun _ q => ⟨ys, q, rfl⟩, fun i H v H' _ q ⟨p, y, e1, e2, e3, e4⟩ => ⟨p, .int (i : Nat), y, e1, e2, e3, rfl, e4 ys q⟩⟩
/-! ### sorted(tuple) -/
def rSortedIT (K : PySem.W.Frag) : List V → Hp → VK → Prop := fun vs H Q => ∃ (a : Addr) (ns : List Int), vs = [V.ref a] ∧ SqT K H a (ns.map V.int) ∧ ns.length ≤ 1000 ∧ ∀ (ms : List Int) (p : Addr), ms.Perm ns → ms.Pairwise (· ≤ ·) → H p = none → Q (.ref p) (upd H p (.lst (ms.map V.int)))
theorem cr_sortedIT {X : Cx} : CallR X (.builtin "sorted") (rSortedIT X.K) := by
  rintro pins s σ H xs us Q I r ⟨a, ks, rfl, ha, lk, wish⟩
  obtain ⟨u, rfl, ru⟩ := vals1 r
  cases ru
  obtain ⟨vs, rv, ⟨o2, e2, c2, n2, d2⟩, _⟩ := I.tuple ha
  have areI := rv.ints
  have len : vs.length = ks.length := by rw [← rv.length, List.length_map]
  refine Calls.call_function_entry PyProof.Rows.kind_sorted PyProof.Rows.plain_sorted PyProof.Rows.entry_sorted (PyProof.Rows.args_sorted1 _) ?_
  unfold Builtin.«sorted»
  refine wpAny_bind (m := checkCount "sorted" 1 1 _) (wpAny_pure ?_)
  refine wpAny_bind (PySem.wpAny_collect_seq a (.inr rfl) e2 c2 d2 (fun h1 keep => ?_) (by rw [List.size_toArray, len]; exact Nat.le_of_lt (small1000 lk)))
  have I1 : L2.Inv X pins σ H { s with heap := h1, toks := s.toks } := I.kept keep
  refine wpAny_bind (wpAny_newList ?_ (by rw [List.toList_toArray, len]; exact Nat.le_of_lt (small1000 lk)))
  have there : (h1.push (seqObj "list" vs.toArray.toList.toArray 0)).get? h1.objs.size = some (seqObj "list" vs.toArray.toList.toArray 0) := Heap.get?_push_size _ rfl
  refine wpAny_bind (wpAny_holding ?_)
  refine wpAny_call_entry_kw slot_list_sort ⟨_, there, rfl⟩ entry_list_sort ?_ (args_list_sort _)
  refine SrtO.list_sort_ord (n := 0) SrtO.swo_int there (by rw [List.toList_toArray, len]; exact Nat.le_of_lt (small1000 lk)) (fun q => SrtO.ints_sortable (by rw [List.toList_toArray]; exact areI) q) ?_
  intro res g1 g2
  obtain ⟨z1, z2, z3⟩ := SrtO.ints_out (by rw [List.toList_toArray]; exact areI) g1 g2
  refine ⟨_, rfl, ?_⟩
  obtain ⟨c, hc⟩ := sortedHeap_at (vs := vs.toArray.toList) (out := res.toArray) there
  have hl : (res.map SrtO.iv).length ≤ sizeLine := by rw [z2.length_eq]; exact Nat.le_of_lt (small1000 lk)
  refine wpAny_pure ⟨_, rfl, .ref h1.objs.size, upd H h1.objs.size (.lst ((res.map SrtO.iv).map V.int)), ?_, rfl, wish _ _ z2 z3 (I1.hok.fresh (Nat.le_refl _))⟩
  refine I1.laid (t' := s.toks) (o := .lst ((res.map SrtO.iv).map V.int)) (a := h1.objs.size) (fun b o e => ?_) (Nat.le_refl _) ⟨by rw [List.length_map]; exact hl, res.toArray.toList, c, vals_ints (by simpa using z1), by simpa using hc⟩
  have lt : b < h1.objs.size := lt_get e
  have lt2 : b < (h1.push (seqObj "list" vs.toArray.toList.toArray 0)).objs.size := by
    show b < (h1.objs.push _).size
    rw [Array.size_push]
    exact Nat.lt_succ_of_lt lt
  exact (sortedHeap_old (h := h1.push (seqObj "list" vs.toArray.toList.toArray 0)) (a := h1.objs.size) (vs := vs.toArray.toList) (out := res.toArray) (Nat.ne_of_lt lt) lt2).trans (Heap.get?_push_of_some _ e)
def rSortedDatT {β : Type} (enc : β → PyData) (K : PySem.W.Frag) : List V → Hp → VK → Prop := fun vs H Q => ∃ (G : Hp) (a : Addr) (xs : List V) (bs : List β), vs = [V.ref a] ∧ Same G H ∧ SqT K H a xs ∧ DpAll K G xs (bs.map enc) ∧ PySem.W.AllAlike (bs.map enc) ∧ PySem.W.Sortable (bs.map enc) ∧ (∀ b ∈ bs, (enc b).depth ≤ 40) ∧
  ∀ (p : Addr) (ys : List V), H p = none → DpAll K G ys ((bs.mergeSort (PySem.W.dataLe false enc)).map enc) → Q (.ref p) (upd H p (.lst ys))
theorem cr_sortedDatT {β : Type} (enc : β → PyData) {X : Cx} {k : Nat} (hr : Room k X.A) : CallR X (.builtin "sorted") (rSortedDatT enc X.K) := by
  intro pins s σ H vs us Q I r h
  obtain ⟨G, a, xs, bs, rfl, g, hs, hd, hal, hk, hdep, wish⟩ := h
  obtain ⟨its, rv, ⟨o2, e2, c2, n2, d2⟩, hz⟩ := I.tuple hs
  rw [Vals.ref1 r]
  have un := hr.un
  have len : its.length = xs.length := rv.length.symm
  refine Calls.call_function_entry PyProof.Rows.kind_sorted PyProof.Rows.plain_sorted PyProof.Rows.entry_sorted (PyProof.Rows.args_sorted1 _) ?_
  unfold Builtin.«sorted»
  refine wpAny_bind (m := checkCount "sorted" 1 1 _) (wpAny_pure ?_)
  refine wpAny_bind (PySem.wpAny_collect_seq a (.inr rfl) e2 c2 d2 (fun h1 keep => ?_) (by rw [List.size_toArray, len]; exact hz))
  have I1 : L2.Inv X pins σ H { s with heap := h1, toks := s.toks } := I.kept keep
  rw [List.toList_toArray]
  refine wpAny_bind (wpAny_newList ?_ (by rw [len]; exact hz))
  have there : (h1.push (seqObj "list" its.toArray 0)).get? h1.objs.size = some (seqObj "list" its.toArray 0) := Heap.get?_push_size _ rfl
  refine wpAny_bind (wpAny_holding ?_)
  obtain ⟨e, er⟩ := zip_each enc I1 rv (dpAll_same g _ _ hd)
  obtain ⟨hzd, hlen⟩ := zip_dp enc hd
  have hm : (xs.zip bs).map (fun b => enc b.2) = bs.map enc := by
    rw [← zip_snd hlen, List.map_map, zip_snd hlen]
    rfl
  have hzl : (xs.zip bs).length = xs.length := by rw [List.length_zip]; omega
  have up : ∀ b o, h1.get? b = some o → (sortingHeap (h1.push (seqObj "list" its.toArray 0)) h1.objs.size its).get? b = some o := fun b o z =>
    sortingHeap_old (Nat.ne_of_lt (lt_get z)) (Heap.get?_push_of_some _ z)
  have er' : PySem.W.EachIs (fun (v : Value) (b : V × β) => ∃ as, Reads (sortingHeap (h1.push (seqObj "list" its.toArray 0)) h1.objs.size its) v (enc b.2) as) its (xs.zip bs) := er.mono fun _ _ ⟨as, q⟩ => ⟨as, PyProof.Rows.Reads.keeps up q⟩
  have er2 := PySem.W.each_map (R := fun v d => ∃ as, Reads (sortingHeap (h1.push (seqObj "list" its.toArray 0)) h1.objs.size its) v d as) (fun b : V × β => enc b.2) er'
  refine wpAny_call_entry_kw slot_list_sort ⟨_, there, rfl⟩ entry_list_sort ?_ (args_list_sort _)
  refine list_sort_vals (κ := PySem.W.dataKind (sortingHeap (h1.push (seqObj "list" its.toArray 0)) h1.objs.size its) ((xs.zip bs).map fun b => enc b.2)) there (PySem.W.SortsAt.data er2 (by rw [hm]; exact hal) (by rw [hm]; exact hk) fun d hd' => ?_) (by rw [len]; exact hz) ?_
  · rw [hm] at hd'
    obtain ⟨b, hb, rfl⟩ := List.mem_map.mp hd'
    have := hdep b hb
    simp only [Around.in1_units]
    omega
  have eo := PySem.W.sortVals_data (R := fun v (b : V × β) => RelV b.1 v) (enc := fun b : V × β => enc b.2) false e er' (by rw [hm]; exact hal)
  have ho : (sortVals (PySem.W.dataKind (sortingHeap (h1.push (seqObj "list" its.toArray 0)) h1.objs.size its) ((xs.zip bs).map fun b => enc b.2)) false its its).length = its.length := sortVals_length false rfl
  refine ⟨_, rfl, ?_⟩
  generalize sortVals (PySem.W.dataKind (sortingHeap (h1.push (seqObj "list" its.toArray 0)) h1.objs.size its) ((xs.zip bs).map fun b => enc b.2)) false its its = res at *
  obtain ⟨c, hc⟩ := sortedHeap_at (vs := its) (out := res.toArray) there
  have hv := each_vals (f := fun b : V × β => b.1) eo
  have hp := List.mergeSort_perm (xs.zip bs) (PySem.W.dataLe false fun b : V × β => enc b.2)
  have hsnd : ((xs.zip bs).mergeSort (PySem.W.dataLe false fun b : V × β => enc b.2)).map (·.2) = bs.mergeSort (PySem.W.dataLe false enc) := by
    have e := List.map_mergeSort (l := xs.zip bs) (f := fun p : V × β => p.2) (r := PySem.W.dataLe false fun b : V × β => enc b.2) (s := PySem.W.dataLe false enc) (fun a _ b _ => rfl)
    rw [zip_snd hlen] at e
    exact e
  have hda := dpAll_map (K := X.K) (H := G) enc (ps := (xs.zip bs).mergeSort (PySem.W.dataLe false fun b : V × β => enc b.2)) fun p hp' => hzd p (hp.mem_iff.mp hp')
  rw [hsnd] at hda
  have hl2 : (((xs.zip bs).mergeSort (PySem.W.dataLe false fun b : V × β => enc b.2)).map (·.1)).length ≤ sizeLine := by
    rw [List.length_map, hp.length_eq, hzl]
    exact hz
  refine wpAny_pure ⟨_, rfl, .ref h1.objs.size, upd H h1.objs.size (.lst _), ?_, rfl, wish _ _ (I1.hok.fresh (Nat.le_refl _)) hda⟩
  refine I1.laid (t' := s.toks) (a := h1.objs.size) (fun b o z => ?_) (Nat.le_refl _) ⟨hl2, res, c, hv, by simpa using hc⟩
  have lt : b < h1.objs.size := lt_get z
  have lt2 : b < (h1.push (seqObj "list" its.toArray 0)).objs.size := by
    show b < (h1.objs.push _).size
    rw [Array.size_push]
    exact Nat.lt_succ_of_lt lt
  exact (sortedHeap_old (h := h1.push (seqObj "list" its.toArray 0)) (a := h1.objs.size) (vs := its) (out := res.toArray) (Nat.ne_of_lt lt) lt2).trans (Heap.get?_push_of_some _ z)
end HG

/-! shorter ways for laws: the bag, list comprehensions without tests -/
namespace HG
open PySem PySem.Spec PyProof.Rows L2 HF
/-- a number is taken out of the bag (kept shut, so that what takeS says is found again) -/
@[irreducible] def spTk : Sp := fun vs H Q _ => ∃ (p : Addr) (m : Nat), vs = [.ref p, .int (m : Int)] ∧ Bag H p ∧ 0 < m ∧ m ≤ 10000 ∧ ∀ (r : Nat) (H' : Hp), r < m → Stp p H H' → Q (.int (r : Int)) H'
theorem takeS {p : Addr} {H : Hp} {Q : VK} {E : XK} {m : Nat} (B : Bag H p) (h0 : 0 < m) (h1 : m ≤ 10000) (k : ∀ (r : Nat) (H' : Hp), r < m → Stp p H H' → Q (.int (r : Int)) H') : spTk [.ref p, .int (m : Int)] H Q E := by
  unfold spTk
  exact ⟨p, m, rfl, B, h0, h1, k⟩
theorem tk_take : ∀ vs H Q E, spTk vs H Q E → spTake2 vs H Q E := by
  intro vs H Q E h
  unfold spTk at h
  obtain ⟨p, m, rfl, B, h0, h1, k⟩ := h
  refine ⟨p, m, rfl, B, by omega, ?_, fun r xs r0 r1 hB hk => ?_⟩
  · rw [Int.natAbs_natCast]
    exact Nat.lt_of_le_of_lt h1 (by decide +kernel)
  · obtain ⟨n, rfl⟩ := Int.eq_ofNat_of_zero_le r0
    exact k n _ (by omega) (.take hB hk)
theorem Df.tk {P : Program} {w : World} {K : PySem.W.Frag} {mg : Str → Option Value} {base : Heap} {x : Str} {k : Nat} {ps : List Str} (D : Df P w K mg base x k ps spTake2) : Df P w K mg base x k ps spTk := by
  obtain ⟨f, fd, a, b, c, F⟩ := D
  exact ⟨f, fd, a, b, c, F.imp tk_take⟩
theorem sizeLine_big : 1000 < sizeLine := by decide
theorem off_upd2 {D : Addr} {H : Hp} {o : HO} : Same (off D H) (off D (upd H D o)) := fun b u e => by
  unfold off at e ⊢
  by_cases c : b = D
  · rw [if_pos c] at e; cases e
  · rw [if_neg c] at e ⊢
    rw [upd_ne c]
    exact e
/-- [e for x in xs], what is found standing by R (the new list left out) -/
theorem lc_map {K : PySem.W.Frag} {a : Addr} {xs : List V} {j : Nat} {te : TE} {vs : List Nat} {σ : L2.St} {H : Hp} {Qd : Hp → Prop} {D : Addr} (nD : H D = none) (R : Nat → V → Hp → Prop) (mono : ∀ i y H1 H2, Same H1 H2 → R i y H1 → R i y H2) (hl : SqL K H a xs) (hn : xs.length ≤ 1000)
    (step : ∀ (i : Nat) (x : V) (Hc : Hp) (Z : VK), xs[i]? = some x → Same H Hc → Hc D ≠ none → (∀ (y : V) (Hd : Hp), Same Hc Hd → R i y (off D Hd) → Z y Hd) → te ((wipe σ vs).set j (some x)) Hc Z)
    (k : ∀ (H' : Hp) (ys : List V), Same H H' → H' D = some (.lst ys) → ys.length = xs.length → (∀ i y, ys[i]? = some y → R i y H') → Qd H')
    (hw : ∀ x, wipe ((wipe σ vs).set j (some x)) vs = wipe σ vs) :
    ∃ W : Nat → Nat → Hp → Prop, (∃ m, W 0 m (upd H D (.lst []))) ∧ ∀ i m H', W i m H' →
      ((Itl K a).stop i H' ∧ Qd H') ∨ ((Itl K a).go i H' ∧ ∃ Nx : Hp → Prop, (∀ H'', Nx H'' → ∃ m', m' < m ∧ W (i + 1) m' H'') ∧ ∀ x H'', (Itl K a).yld i H' x H'' → gName j x (wipe σ vs) H'' fun σ2 H2 => wipe σ2 vs = wipe σ vs ∧ tYes σ2 H2 fun b H3 =>
        if b = true then te σ2 H3 fun y H4 => ∃ acc, H4 D = some (.lst acc) ∧ acc.length < sizeLine ∧ Nx (upd H4 D (.lst (acc ++ [y]))) else Nx H3) := by
  refine lc_list (K := K) (a := a) (xs := xs) (fun j H' => Same H H' ∧ ∃ ys, H' D = some (.lst ys) ∧ ys.length = j ∧ ∀ i y, ys[i]? = some y → R i y (off D H')) ?_ ?_ ?_ ?_
  · exact ⟨same_upd nD, [], upd_same, rfl, fun i y e => by cases e⟩
  · rintro i H' _ ⟨s, _⟩
    exact s.seq hl
  · rintro i x Hc hx ⟨s, ys, hD, hyl, hR⟩
    have hi : i < xs.length := (List.getElem?_eq_some_iff.mp hx).1
    refine ⟨hw x, ?_⟩
    show te _ Hc _
    refine step i x Hc _ hx s (fun z => by rw [hD] at z; cases z) fun y Hd s2 hr => ?_
    refine ⟨ys, s2 _ _ hD, by have := sizeLine_big; omega, same_put (s.trans s2) nD, ys ++ [y], upd_same, by rw [List.length_append, hyl]; rfl, fun n z e => ?_⟩
    have so : Same (off D Hd) (off D (upd Hd D (.lst (ys ++ [y])))) := off_upd2
    by_cases c : n < ys.length
    · rw [List.getElem?_append_left c] at e
      exact mono n z _ _ ((off_same s2).trans so) (hR n z e)
    · rw [List.getElem?_append_right (by omega)] at e
      have e0 : n - ys.length = 0 := by
        by_cases q : n - ys.length = 0
        · exact q
        · rw [List.getElem?_eq_none (by show 1 ≤ _; omega)] at e
          cases e
      rw [e0] at e
      cases e
      obtain rfl : n = i := by omega
      exact mono n y _ _ so hr
  · rintro H' ⟨s, ys, hD, hyl, hR⟩
    exact k H' ys s hD hyl fun i y e => mono i y _ _ (off_sub D H') (hR i y e)
/-- the same for any target; what is found standing by R (the new list left out) -/
theorem lc_mapG {K : PySem.W.Frag} {a : Addr} {xs : List V} {g : TG} {te : TE} {vs : List Nat} {σ : L2.St} {H : Hp} {Qd : Hp → Prop} {D : Addr} (nD : H D = none) (R : Nat → V → Hp → Prop) (mono : ∀ i y H1 H2, Same H1 H2 → R i y H1 → R i y H2) (hl : SqL K H a xs) (hn : xs.length ≤ 1000)
    (step : ∀ (i : Nat) (x : V) (Hc : Hp) (Z : VK), xs[i]? = some x → Same H Hc → Hc D ≠ none → (∀ (y : V) (Hd : Hp), Same Hc Hd → R i y (off D Hd) → Z y Hd) → g x (wipe σ vs) Hc fun σ2 H2 => wipe σ2 vs = wipe σ vs ∧ te σ2 H2 Z)
    (k : ∀ (H' : Hp) (ys : List V), Same H H' → H' D = some (.lst ys) → ys.length = xs.length → (∀ i y, ys[i]? = some y → R i y H') → Qd H') :
    ∃ W : Nat → Nat → Hp → Prop, (∃ m, W 0 m (upd H D (.lst []))) ∧ ∀ i m H', W i m H' →
      ((Itl K a).stop i H' ∧ Qd H') ∨ ((Itl K a).go i H' ∧ ∃ Nx : Hp → Prop, (∀ H'', Nx H'' → ∃ m', m' < m ∧ W (i + 1) m' H'') ∧ ∀ x H'', (Itl K a).yld i H' x H'' → g x (wipe σ vs) H'' fun σ2 H2 => wipe σ2 vs = wipe σ vs ∧ tYes σ2 H2 fun b H3 =>
        if b = true then te σ2 H3 fun y H4 => ∃ acc, H4 D = some (.lst acc) ∧ acc.length < sizeLine ∧ Nx (upd H4 D (.lst (acc ++ [y]))) else Nx H3) := by
  refine lc_list (K := K) (a := a) (xs := xs) (fun j H' => Same H H' ∧ ∃ ys, H' D = some (.lst ys) ∧ ys.length = j ∧ ∀ i y, ys[i]? = some y → R i y (off D H')) ?_ ?_ ?_ ?_
  · exact ⟨same_upd nD, [], upd_same, rfl, fun i y e => by cases e⟩
  · rintro i H' _ ⟨s, _⟩
    exact s.seq hl
  · rintro i x Hc hx ⟨s, ys, hD, hyl, hR⟩
    have hi : i < xs.length := (List.getElem?_eq_some_iff.mp hx).1
    refine step i x Hc (fun y H4 => ∃ acc, H4 D = some (.lst acc) ∧ acc.length < sizeLine ∧ (Same H (upd H4 D (.lst (acc ++ [y]))) ∧ ∃ zs, (upd H4 D (.lst (acc ++ [y]))) D = some (.lst zs) ∧ zs.length = i + 1 ∧ ∀ n z, zs[n]? = some z → R n z (off D (upd H4 D (.lst (acc ++ [y])))))) hx s (fun z => by rw [hD] at z; cases z) fun y Hd s2 hr => ?_
    refine ⟨ys, s2 _ _ hD, by have := sizeLine_big; omega, same_put (s.trans s2) nD, ys ++ [y], upd_same, by rw [List.length_append, hyl]; rfl, fun n z e => ?_⟩
    have so : Same (off D Hd) (off D (upd Hd D (.lst (ys ++ [y])))) := off_upd2
    by_cases c : n < ys.length
    · rw [List.getElem?_append_left c] at e
      exact mono n z _ _ ((off_same s2).trans so) (hR n z e)
    · rw [List.getElem?_append_right (by omega)] at e
      have e0 : n - ys.length = 0 := by
        by_cases q : n - ys.length = 0
        · exact q
        · rw [List.getElem?_eq_none (by show 1 ≤ _; omega)] at e
          cases e
      rw [e0] at e
      cases e
      obtain rfl : n = i := by omega
      exact mono n y _ _ so hr
  · rintro H' ⟨s, ys, hD, hyl, hR⟩
    exact k H' ys s hD hyl fun i y e => mono i y _ _ (off_sub D H') (hR i y e)
/-- [e for x in range(n)] -/
theorem lc_mapR {lo : Int} {n : Nat} {j : Nat} {te : TE} {vs : List Nat} {σ : L2.St} {H : Hp} {Qd : Hp → Prop} {D : Addr} (nD : H D = none) (R : Nat → V → Hp → Prop) (mono : ∀ i y H1 H2, Same H1 H2 → R i y H1 → R i y H2) (hn : n ≤ 1000)
    (step : ∀ (i : Nat) (Hc : Hp) (Z : VK), i < n → Same H Hc → Hc D ≠ none → (∀ (y : V) (Hd : Hp), Same Hc Hd → R i y (off D Hd) → Z y Hd) → te ((wipe σ vs).set j (some (.int (lo + i)))) Hc Z)
    (k : ∀ (H' : Hp) (ys : List V), Same H H' → H' D = some (.lst ys) → ys.length = n → (∀ i y, ys[i]? = some y → R i y H') → Qd H')
    (hw : ∀ x, wipe ((wipe σ vs).set j (some x)) vs = wipe σ vs) :
    ∃ W : Nat → Nat → Hp → Prop, (∃ m, W 0 m (upd H D (.lst []))) ∧ ∀ i m H', W i m H' →
      ((Itr lo n).stop i H' ∧ Qd H') ∨ ((Itr lo n).go i H' ∧ ∃ Nx : Hp → Prop, (∀ H'', Nx H'' → ∃ m', m' < m ∧ W (i + 1) m' H'') ∧ ∀ x H'', (Itr lo n).yld i H' x H'' → gName j x (wipe σ vs) H'' fun σ2 H2 => wipe σ2 vs = wipe σ vs ∧ tYes σ2 H2 fun b H3 =>
        if b = true then te σ2 H3 fun y H4 => ∃ acc, H4 D = some (.lst acc) ∧ acc.length < sizeLine ∧ Nx (upd H4 D (.lst (acc ++ [y]))) else Nx H3) := by
  refine lc_range (lo := lo) (n := n) (fun j H' => Same H H' ∧ ∃ ys, H' D = some (.lst ys) ∧ ys.length = j ∧ ∀ i y, ys[i]? = some y → R i y (off D H')) ⟨same_upd nD, [], upd_same, rfl, fun i y e => by cases e⟩ ?_ ?_
  · rintro i Hc hi ⟨s, ys, hD, hyl, hR⟩
    refine ⟨hw _, ?_⟩
    show te _ Hc _
    refine step i Hc _ hi s (fun z => by rw [hD] at z; cases z) fun y Hd s2 hr => ?_
    refine ⟨ys, s2 _ _ hD, by have := sizeLine_big; omega, same_put (s.trans s2) nD, ys ++ [y], upd_same, by rw [List.length_append, hyl]; rfl, fun n z e => ?_⟩
    have so : Same (off D Hd) (off D (upd Hd D (.lst (ys ++ [y])))) := off_upd2
    by_cases c : n < ys.length
    · rw [List.getElem?_append_left c] at e
      exact mono n z _ _ ((off_same s2).trans so) (hR n z e)
    · rw [List.getElem?_append_right (by omega)] at e
      have e0 : n - ys.length = 0 := by
        by_cases q : n - ys.length = 0
        · exact q
        · rw [List.getElem?_eq_none (by show 1 ≤ _; omega)] at e
          cases e
      rw [e0] at e
      cases e
      obtain rfl : n = i := by omega
      exact mono n y _ _ so hr
  · rintro H' ⟨s, ys, hD, hyl, hR⟩
    exact k H' ys s hD hyl fun i y e => mono i y _ _ (off_sub D H') (hR i y e)
/-- what stands by place is a list of data -/
theorem dpAll_of {K : PySem.W.Frag} {H : Hp} {ys : List V} {ds : List PyData} (hl : ys.length = ds.length) (h : ∀ (i : Nat) (y : V), ys[i]? = some y → ∃ d, ds[i]? = some d ∧ Dp K H y d) : DpAll K H ys ds :=
  dpAll_mk hl fun i x d e1 e2 => by
    obtain ⟨d', e3, h3⟩ := h i x e1
    rw [e2] at e3
    cases e3
    exact h3
/-- [voice[0] for voice in parts[2]] -/
theorem names_of {K : PySem.W.Frag} {i j : Nat} {js : List Nat} {σ : L2.St} {G H : Hp} {Q : VK} {pv : V} {P : Parts} {lim : Nat} (g : Same G H) (hd : Dp K G pv (partsD P)) (ok : P.Ok lim) (hi : σ[i]? = some (some pv)) (hj : ∀ x, ((wipe σ js).set j (some x))[j]? = some (some x)) (hw : ∀ x, wipe ((wipe σ js).set j (some x)) js = wipe σ js)
    (k : ∀ (q : Addr) (H' : Hp), Same H H' → H q = none → H' q = some (.lst (P.names.map V.str)) → Q (.ref q) H') :
    tLc (iList K (tOp (rIxT K) (tVar i) (tC (.int 2)))) (gName j) tYes (tOp (rIxT K) (tVar j) (tC (.int 0))) js σ H Q := by
  obtain ⟨a, vl, xs, rfl, hs, hl, hda⟩ := parts_inv hd
  have hxl := dpAll_len hda
  rw [List.length_map] at hxl
  have v6 := ok.v6
  refine ⟨_, hi, a, _, 2, _, rfl, rfl, sqT_same g hs, rfl, vl, rfl, ⟨_, g.seq hl⟩, fun D nD => ?_⟩
  refine lc_map nD (fun n y _ => P.names[n]? = some (match y with | .str z => z | _ => Str.ofString "") ∧ ∃ z, y = .str z) (fun _ _ _ _ _ h => h) (g.seq hl) (by omega) (fun n x Hc Z hx s hD kz => ?_) (fun H' ys s hq hyl hR => ?_) hw
  · obtain ⟨d, hd1, hd2⟩ := dpAll_get' hda hx
    obtain ⟨c, hc, rfl⟩ : ∃ c, P.voices[n]? = some c ∧ d = voiceD c := by
      rw [List.getElem?_map] at hd1
      cases e : P.voices[n]? with
      | none => rw [e] at hd1; cases hd1
      | some c => rw [e] at hd1; exact ⟨c, rfl, (Option.some.inj hd1).symm⟩
    obtain ⟨b, x1, x2, rfl, hb, _, _⟩ := voice_inv hd2
    refine ⟨_, hj _, b, _, 0, _, rfl, rfl, sqT_same (g.trans s) hb, rfl, kz _ _ (.refl _) ⟨?_, _, rfl⟩⟩
    unfold Parts.names
    rw [List.getElem?_map, hc]
    rfl
  · have e : ys = P.names.map V.str := by
      refine List.ext_getElem? fun n => ?_
      rw [List.getElem?_map]
      cases hy : ys[n]? with
      | some y =>
        obtain ⟨h1, z, rfl⟩ := hR n y hy
        rw [h1]
        rfl
      | none =>
        have : ys.length ≤ n := List.getElem?_eq_none_iff.mp hy
        rw [List.getElem?_eq_none (by unfold Parts.names; rw [List.length_map]; omega)]
        rfl
    exact k D H' s nD (by rw [hq, e])
end HG

/-! odd things: data with dicts within; what repr says of them, isinstance -/
namespace HG
open PySem PySem.Spec PyProof.Rows L2
def keyP : Key → PyData
  | .inl i => .int i
  | .inr z => .str z
mutual
inductive Dx (K : PySem.W.Frag) (H : Hp) : V → PyData → Prop
  | non : Dx K H .non .none
  | bl (b : Bool) : Dx K H (.bl b) (.bool b)
  | int (i : Int) : Dx K H (.int i) (.int i)
  | str (x : Str) : Dx K H (.str x) (.str x)
  | lst {a : Addr} {xs : List V} {ds : List PyData} : H a = some (.lst xs) → a ≠ sysModules → DxAll K H xs ds → Dx K H (.ref a) (.list ds)
  | tup {a : Addr} {xs : List V} {ds : List PyData} : SqT K H a xs → DxAll K H xs ds → Dx K H (.ref a) (.tuple ds)
  | dct {a : Addr} {kvs : List (Key × V)} {ds : List (PyData × PyData)} : H a = some (.dK kvs) → DxKV K H kvs ds → Dx K H (.ref a) (.dict ds)
inductive DxAll (K : PySem.W.Frag) (H : Hp) : List V → List PyData → Prop
  | nil : DxAll K H [] []
  | cons {v : V} {vs : List V} {d : PyData} {ds : List PyData} : Dx K H v d → DxAll K H vs ds → DxAll K H (v :: vs) (d :: ds)
inductive DxKV (K : PySem.W.Frag) (H : Hp) : List (Key × V) → List (PyData × PyData) → Prop
  | nil : DxKV K H [] []
  | cons {k : Key} {v : V} {d : PyData} {kvs : List (Key × V)} {ds : List (PyData × PyData)} : Dx K H v d → DxKV K H kvs ds → DxKV K H ((k, v) :: kvs) ((keyP k, d) :: ds)
end
mutual
theorem Dx.same {K : PySem.W.Frag} {H H' : Hp} (s : Same H H') : ∀ {v : V} {d : PyData}, Dx K H v d → Dx K H' v d
  | _, _, .non => .non
  | _, _, .bl b => .bl b
  | _, _, .int i => .int i
  | _, _, .str x => .str x
  | _, _, .lst h n a => .lst (s _ _ h) n (DxAll.same s a)
  | _, _, .tup h a => .tup (sqT_same s h) (DxAll.same s a)
  | _, _, .dct h a => .dct (s _ _ h) (DxKV.same s a)
theorem DxAll.same {K : PySem.W.Frag} {H H' : Hp} (s : Same H H') : ∀ {vs : List V} {ds : List PyData}, DxAll K H vs ds → DxAll K H' vs ds
  | _, _, .nil => .nil
  | _, _, .cons h a => .cons (Dx.same s h) (DxAll.same s a)
theorem DxKV.same {K : PySem.W.Frag} {H H' : Hp} (s : Same H H') : ∀ {kvs : List (Key × V)} {ds : List (PyData × PyData)}, DxKV K H kvs ds → DxKV K H' kvs ds
  | _, _, .nil => .nil
  | _, _, .cons h a => .cons (Dx.same s h) (DxKV.same s a)
end
theorem DxAll.len {K : PySem.W.Frag} {H : Hp} : ∀ {vs : List V} {ds : List PyData}, DxAll K H vs ds → vs.length = ds.length
  | _, _, .nil => rfl
  | _, _, .cons _ a => by rw [List.length_cons, List.length_cons, a.len]
theorem DxAll.get {K : PySem.W.Frag} {H : Hp} : ∀ {vs : List V} {ds : List PyData} {i : Nat} {v : V}, DxAll K H vs ds → vs[i]? = some v → ∃ d, ds[i]? = some d ∧ Dx K H v d
  | _, _, 0, _, .cons h _, e => by cases e; exact ⟨_, rfl, h⟩
  | _, _, i + 1, _, .cons _ a, e => by
    rw [List.getElem?_cons_succ] at e ⊢
    exact a.get e
theorem DxAll.app {K : PySem.W.Frag} {H : Hp} : ∀ {vs : List V} {ds : List PyData} {ws : List V} {es : List PyData}, DxAll K H vs ds → DxAll K H ws es → DxAll K H (vs ++ ws) (ds ++ es)
  | _, _, _, _, .nil, b => b
  | _, _, _, _, .cons h a, b => .cons h (a.app b)
theorem DxAll.take {K : PySem.W.Frag} {H : Hp} : ∀ {vs : List V} {ds : List PyData} (n : Nat), DxAll K H vs ds → DxAll K H (vs.take n) (ds.take n)
  | _, _, 0, _ => .nil
  | _, _, _ + 1, .nil => .nil
  | _, _, n + 1, .cons h a => .cons h (a.take n)
theorem DxAll.drop {K : PySem.W.Frag} {H : Hp} : ∀ {vs : List V} {ds : List PyData} (n : Nat), DxAll K H vs ds → DxAll K H (vs.drop n) (ds.drop n)
  | _, _, 0, a => a
  | _, _, _ + 1, .nil => .nil
  | _, _, n + 1, .cons _ a => a.drop n
section
variable {X : Cx} {pins : List (Addr × Obj)} {σ : L2.St} {H : Hp} {s : Shared}
mutual
theorem Dx.reads (I : Inv X pins σ H s) : ∀ {v : V} {d : PyData} {u : Value}, Dx X.K H v d → RelV v u → ∃ as, Reads s.heap u d as ∧ sysModules ∉ as
  | _, _, _, .non, r => by cases r; exact ⟨_, Reads.none, nofun⟩
  | _, _, _, .bl b, r => by cases r; exact ⟨_, Reads.bool b, nofun⟩
  | _, _, _, .int i, r => by obtain ⟨t, rfl⟩ := r; exact ⟨_, Reads.int i t, nofun⟩
  | _, _, _, .str x, r => by obtain ⟨t, rfl⟩ := r; exact ⟨_, Reads.str x t, nofun⟩
  | _, _, _, .lst h n a, r => by
    cases r
    obtain ⟨its, rv, ⟨o, nn, ho, hc, _, hd⟩, _⟩ := I.list (.inl (.of h))
    obtain ⟨as, hr, hn⟩ := DxAll.reads I a rv
    exact ⟨_, Reads.list ho hc hd hr, fun z => (List.mem_cons.mp z).elim (fun q => n q.symm) hn⟩
  | _, _, _, .tup h a, r => by
    cases r
    obtain ⟨its, rv, ⟨o, ho, hc, n, hd⟩, _⟩ := I.tuple h
    obtain ⟨as, hr, hn⟩ := DxAll.reads I a rv
    exact ⟨_, Reads.tuple ho hc hd hr, hn⟩
  | _, _, _, .dct (a := x) h a, r => by
    cases r
    obtain ⟨_, hs, vs, hkv, hdo⟩ := (show ObjOk X.prog X.w H s.heap x (.dK _) from I.hok _ _ h)
    obtain ⟨bs, hr, hn⟩ := DxKV.reads I a hkv
    refine ⟨_, PyProof.V.reads_dictOf (enc := keyP) (fun k key e => ?_) hdo hr, fun z => (List.mem_cons.mp z).elim (fun q => by rw [← q] at hs; cases hs) hn⟩
    rcases keyIs_shape e with ⟨i, t, rfl, rfl⟩ | ⟨z, t, rfl, rfl⟩
    · exact Reads.int i t
    · exact Reads.str z t
theorem DxAll.reads (I : Inv X pins σ H s) : ∀ {vs : List V} {ds : List PyData} {us : List Value}, DxAll X.K H vs ds → Vals vs us → ∃ as, ReadsAll s.heap us ds as ∧ sysModules ∉ as
  | _, _, _, .nil, r => by cases r; exact ⟨_, ReadsAll.nil, nofun⟩
  | _, _, _, .cons h a, .cons r1 r2 => by
    obtain ⟨as, q1, n1⟩ := Dx.reads I h r1
    obtain ⟨bs, q2, n2⟩ := DxAll.reads I a r2
    exact ⟨_, ReadsAll.cons q1 q2, fun z => (List.mem_append.mp z).elim n1 n2⟩
theorem DxKV.reads (I : Inv X pins σ H s) : ∀ {kvs : List (Key × V)} {ds : List (PyData × PyData)} {vs : List (Key × Value)}, DxKV X.K H kvs ds → KV kvs vs → ∃ bs, PyProof.V.PairsRead s.heap keyP vs ds bs ∧ sysModules ∉ bs
  | _, _, _, .nil, r => by cases r; exact ⟨_, .nil, nofun⟩
  | _, _, (k', u) :: _, .cons (k := k) h a, .cons r01 r2 => by
    obtain rfl : k = k' := r01.1
    have r1 := r01.2
    obtain ⟨as, q1, n1⟩ := Dx.reads I h r1
    obtain ⟨bs, q2, n2⟩ := DxKV.reads I a r2
    exact ⟨_, .cons q1 q2, fun z => (List.mem_append.mp z).elim n1 n2⟩
end
theorem fresh_sys (I : Inv X pins σ H s) : s.heap.objs.size ≠ sysModules := fun z => by
  obtain ⟨o, es, ep, h, _⟩ := I.mod.glob
  have h1 := Heap.lt_size (I.bk _ _ h)
  rw [z] at h1
  exact absurd h1 (by decide)
/-- the sum of two lists, which is not the system's own dict -/
def rCatS : R2 := fun x y H Q => ∃ l b xs zs, x = .ref l ∧ y = .ref b ∧ H l = some (.lst xs) ∧ H b = some (.lst zs) ∧ xs.length + zs.length ≤ sizeLine ∧ ∀ p, H p = none → p ≠ sysModules → Q (.ref p) (upd H p (.lst (xs ++ zs)))
end
theorem op_catS {X : Cx} : OpR X (binaryOp .Add) rCatS := by
  intro pins s σ H x y v u Q I rx ry h
  obtain ⟨l, b, xs, zs, rfl, rfl, hH, hB, hz, q⟩ := h
  cases rx
  cases ry
  obtain ⟨z, its, n, r, hl, e⟩ := I.lstM hH
  obtain ⟨z2, its2, n2, r2, hl2, e2⟩ := I.lstM hB
  refine PySem.P.add_list e e2 ?_ (by rw [List.size_toArray, List.size_toArray]; omega)
  rw [show its.toArray ++ its2.toArray = (its ++ its2).toArray by simp]
  exact ⟨.ref _, _, I.lnew (t' := s.toks) (r.append r2) (by rw [List.length_append]; omega), rfl, q _ I.fresh (fresh_sys I)⟩
/-- an odd thing: data, or data with dicts within -/
def Ox (K : PySem.W.Frag) (H : Hp) (v : V) (d : PyData) : Prop := Dp K H v d ∨ Dx K H v d
theorem Ox.same {K : PySem.W.Frag} {H H' : Hp} (s : Same H H') {v : V} {d : PyData} (h : Ox K H v d) : Ox K H' v d := h.imp (dp_same s _ _) (Dx.same s)
/-- what an odd thing is, one level deep -/
inductive Vw (K : PySem.W.Frag) (H : Hp) : V → PyData → Prop
  | non : Vw K H .non .none
  | bl (b : Bool) : Vw K H (.bl b) (.bool b)
  | int (i : Int) : Vw K H (.int i) (.int i)
  | str (x : Str) : Vw K H (.str x) (.str x)
  | lst {a : Addr} {xs : List V} {ds : List PyData} : SqL K H a xs → xs.length = ds.length → (∀ (i : Nat) (x : V), xs[i]? = some x → ∃ d, ds[i]? = some d ∧ Ox K H x d) → Vw K H (.ref a) (.list ds)
  | tup {a : Addr} {xs : List V} {ds : List PyData} : SqT K H a xs → xs.length = ds.length → (∀ (i : Nat) (x : V), xs[i]? = some x → ∃ d, ds[i]? = some d ∧ Ox K H x d) → Vw K H (.ref a) (.tuple ds)
  | dct {a : Addr} {kvs : List (Key × V)} {ds : List (PyData × PyData)} : H a = some (.dK kvs) → Vw K H (.ref a) (.dict ds)
theorem Ox.view {K : PySem.W.Frag} {H : Hp} {v : V} {d : PyData} (h : Ox K H v d) : Vw K H v d := by
  rcases h with h | h
  · cases h with
    | non => exact .non
    | bl b => exact .bl b
    | int i => exact .int i
    | str x => exact .str x
    | lst h a => exact .lst h (dpAll_len a) fun i x e => let ⟨d, h1, h2⟩ := dpAll_get' a e; ⟨d, h1, .inl h2⟩
    | tup h a => exact .tup h (dpAll_len a) fun i x e => let ⟨d, h1, h2⟩ := dpAll_get' a e; ⟨d, h1, .inl h2⟩
  · cases h with
    | non => exact .non
    | bl b => exact .bl b
    | int i => exact .int i
    | str x => exact .str x
    | lst h n a => exact .lst (.inl (.of h)) a.len fun i x e => let ⟨d, h1, h2⟩ := a.get e; ⟨d, h1, .inr h2⟩
    | tup h a => exact .tup h a.len fun i x e => let ⟨d, h1, h2⟩ := a.get e; ⟨d, h1, .inr h2⟩
    | dct h a => exact .dct h
def tyD : PyData → Value
  | .none => .type "NoneType"
  | .bool _ => .type "bool"
  | .int _ => .type "int"
  | .str _ => .type "str"
  | .list _ => .type "list"
  | .tuple _ => .type "tuple"
  | .dict _ => .type "dict"
theorem Ox.ty {K : PySem.W.Frag} {H : Hp} {v : V} {d : PyData} (h : Ox K H v d) : TyX K H v (tyD d) := by
  cases h.view with
  | non => exact .base .non
  | bl b => exact .base (.bl b)
  | int i => exact .base (.int i)
  | str x => exact .base (.str x)
  | lst q _ _ => exact ty_lst q
  | tup q _ _ => exact ty_tup q
  | dct q => exact .base (.dK q)
/-! ### repr -/
def rReprO (K : PySem.W.Frag) : List V → Hp → VK → Prop := fun xs H Q => ∃ (x : V) (d : PyData), xs = [x] ∧ Ox K H x d ∧ d.showable = true ∧ d.depth ≤ 40 ∧ d.shown.length ≤ sizeLine ∧ (∀ h : Dp K H x d, d.canLay0 = true) ∧ Q (.str d.shown) H
theorem call_reprO {X : Cx} {k : Nat} (hg : X.A.guards = some []) (hr : Room k X.A) : CallR X (.builtin "repr") (rReprO X.K) := by
  intro pins s σ H xs us Q I r h
  obtain ⟨x, d, rfl, hd, hs, h40, hz, hcl, q⟩ := h
  rcases hd with hd | hd
  · exact call_reprG hg hr pins s σ H [x] us Q I r ⟨x, d, rfl, hd, hcl hd, hs, h40, hz, q⟩
  obtain ⟨u, rfl, rx⟩ := vals1 r
  have un : X.A.units + 100 < cLine := by have := hr.un; omega
  obtain ⟨as, rd, hn⟩ := Dx.reads I hd rx
  have str : ∀ (y : Str) (h' : Heap) (tk tk' : Tok) (n : Nat), d.shown = y → (∀ b o, s.heap.get? b = some o → h'.get? b = some o) → EP X pins σ Q (.str y tk) { s with heap := h', toks := n } := by
    rintro _ h' tk tk' n rfl kk
    exact ⟨.str d.shown, H, I.kept kk, ⟨_, rfl⟩, q⟩
  cases rd with
  | none => exact PySem.P.repr_of_none (str _ _ _ 0 _ rfl fun _ _ z => z)
  | bool b => exact PySem.P.repr_of_bool (str _ _ _ 0 _ (by simp only [PyData.shown]) fun _ _ z => z)
  | int i t =>
    have hs2 : i.natAbs.log2 < 1920 := by simpa [PyData.showable] using hs
    exact PySem.P.repr_of_int hs2 (str _ _ _ 0 _ (by simp only [PyData.shown]) fun _ _ z => z)
  | str y t =>
    have hz2 : (reprText y).length ≤ sizeLine := by simpa only [PyData.shown] using hz
    exact PySem.P.repr_of_str (str _ _ _ 0 _ (by simp only [PyData.shown]) fun _ _ z => z) hz2
  | list h1 h2 h3 h4 => exact repr_of_reads' (.list h1 h2 h3 h4) hs (fun _ => hn) hg (by omega) (fun _ _ z => z) (fun h' u tk kk => str _ _ _ 0 _ rfl kk) hz
  | tuple h1 h2 h3 h4 => exact repr_of_reads' (.tuple h1 h2 h3 h4) hs (fun _ => hn) hg (by omega) (fun _ _ z => z) (fun h' u tk kk => str _ _ _ 0 _ rfl kk) hz
  | dict h1 h2 h3 h4 h5 => exact repr_of_reads' (.dict h1 h2 h3 h4 h5) hs (fun _ => hn) hg (by omega) (fun _ _ z => z) (fun h' u tk kk => str _ _ _ 0 _ rfl kk) hz
end HG

/-! chords: what is handed in as one, what is told of it -/
namespace HG
open PySem PySem.Spec PyProof.Rows L2
theorem tyx_same {K : PySem.W.Frag} {H H' : Hp} {v : V} {t : Value} (s : Same H H') (h : TyX K H v t) : TyX K H' v t := by
  cases h with
  | base h =>
    cases h with
    | non => exact .base .non
    | bl x => exact .base (.bl x)
    | int i => exact .base (.int i)
    | str x => exact .base (.str x)
    | flt x => exact .base (.flt x)
    | lst e => exact .base (.lst (s _ _ e))
    | frz e => exact .base (.frz (s _ _ e))
    | tup e => exact .base (.tup (s _ _ e))
    | dK e => exact .base (.dK (s _ _ e))
    | dT e => exact .base (.dT (s _ _ e))
    | ins e a b c d e2 => exact .base (.ins (s _ _ e) a b c d e2)
  | byt b => exact .byt b
  | set e => exact .set (s _ _ e)
  | kList e c => exact .kList e c
  | kTuple e c => exact .kTuple e c
  | kDict e c => exact .kDict e c
  | fTuple e => exact .fTuple (s _ _ e)
  | fDict e => exact .fDict (s _ _ e)
theorem known_same {K : PySem.W.Frag} {H H' : Hp} {v : V} (s : Same H H') (h : Known K H v) : Known K H' v := by
  cases v with
  | ref a => obtain ⟨t, ht, ty⟩ := h; exact ⟨t, ht, tyx_same s ty⟩
  | _ => exact h
/-- a thing whose kind is known and none of `t` -/
def OthT (K : PySem.W.Frag) (H : Hp) (t : String) (v : V) : Prop := ∃ u : String, u ≠ t ∧ u ∈ ["NoneType", "bool", "int", "str", "list", "tuple", "dict"] ∧ TyX K H v (.type u)
theorem OthT.kit {K : PySem.W.Frag} {H : Hp} {t : String} {v : V} (ht : t = "tuple" ∨ t = "list") (h : OthT K H t v) : ∃ u : String, TyX K H v (.type u) ∧ PySem.W.kitOne K (.type u) (.type t) = some false := by
  obtain ⟨u, hn, hu, ty⟩ := h
  refine ⟨u, ty, ?_⟩
  simp only [List.mem_cons, List.mem_nil_iff, or_false] at hu
  rcases ht with rfl | rfl
  · rcases hu with rfl | rfl | rfl | rfl | rfl | rfl | rfl
    · exact kit_ty (show kitB "NoneType" "tuple" = some false by decide +kernel)
    · exact kit_ty (show kitB "bool" "tuple" = some false by decide +kernel)
    · exact kit_ty (show kitB "int" "tuple" = some false by decide +kernel)
    · exact kit_ty (show kitB "str" "tuple" = some false by decide +kernel)
    · exact kit_ty (show kitB "list" "tuple" = some false by decide +kernel)
    · exact absurd rfl hn
    · exact kit_ty (show kitB "dict" "tuple" = some false by decide +kernel)
  · rcases hu with rfl | rfl | rfl | rfl | rfl | rfl | rfl
    · exact kit_ty (show kitB "NoneType" "list" = some false by decide +kernel)
    · exact kit_ty (show kitB "bool" "list" = some false by decide +kernel)
    · exact kit_ty (show kitB "int" "list" = some false by decide +kernel)
    · exact kit_ty (show kitB "str" "list" = some false by decide +kernel)
    · exact absurd rfl hn
    · exact kit_ty (show kitB "tuple" "list" = some false by decide +kernel)
    · exact kit_ty (show kitB "dict" "list" = some false by decide +kernel)
theorem kit_tup_t {K : PySem.W.Frag} : PySem.W.kitOne K (.type "tuple") (.type "tuple") = some true := kit_ty (show kitB "tuple" "tuple" = some true by decide +kernel)
theorem kit_lst_t {K : PySem.W.Frag} : PySem.W.kitOne K (.type "list") (.type "list") = some true := kit_ty (show kitB "list" "list" = some true by decide +kernel)
theorem OthT.same {K : PySem.W.Frag} {H H' : Hp} {t : String} {v : V} (s : Same H H') (h : OthT K H t v) : OthT K H' t v := by
  obtain ⟨u, hn, hu, ty⟩ := h
  exact ⟨u, hn, hu, tyx_same s ty⟩
/-- a thing in the place of a chord's part: a text and a thing beside it, or none such -/
inductive PartK (K : PySem.W.Frag) (H : Hp) : V → Option (Str × V) → Prop
  | yes {b : Addr} {z : Str} {e : V} : SqT K H b [.str z, e] → Known K H e → PartK K H (.ref b) (some (z, e))
  | odd {b : Addr} {u e : V} : SqT K H b [u, e] → Known K H u → xStr u = false → PartK K H (.ref b) none
  | len {b : Addr} {xs : List V} : SqT K H b xs → xs.length ≠ 2 → PartK K H (.ref b) none
  | oth {v : V} : OthT K H "tuple" v → PartK K H v none
inductive ChK (K : PySem.W.Frag) (H : Hp) : V → Option (List (Option (Str × V))) → Prop
  | lst {a : Addr} {xs : List V} {qs : List (Option (Str × V))} : SqL K H a xs → xs.length ≤ 100 → xs.length = qs.length → (∀ (i : Nat) (x : V), xs[i]? = some x → ∃ q, qs[i]? = some q ∧ PartK K H x q) → ChK K H (.ref a) (some qs)
  | oth {v : V} : OthT K H "list" v → ChK K H v none
theorem PartK.same {K : PySem.W.Frag} {H H' : Hp} {v : V} {q : Option (Str × V)} (s : Same H H') (h : PartK K H v q) : PartK K H' v q := by
  cases h with
  | yes h k => exact .yes (sqT_same s h) (known_same s k)
  | odd h k n => exact .odd (sqT_same s h) (known_same s k) n
  | len h n => exact .len (sqT_same s h) n
  | oth h => exact .oth (h.same s)
theorem ChK.same {K : PySem.W.Frag} {H H' : Hp} {v : V} {q : Option (List (Option (Str × V)))} (s : Same H H') (h : ChK K H v q) : ChK K H' v q := by
  cases h with
  | lst h a b c => exact .lst (s.seq h) a b fun i x e => let ⟨q, h1, h2⟩ := c i x e; ⟨q, h1, h2.same s⟩
  | oth h => exact .oth (h.same s)
theorem nk_drop {ns : List Str} {z : Str} : dropK (nk ns) (Sum.inr z) = nk (ns.filter fun y => !decide (y = z)) := by
  unfold dropK nk
  rw [List.filter_map]
  congr 1
  refine List.filter_congr fun y _ => ?_
  by_cases c : y = z <;> simp [c, Function.comp]
def partQ (n : Int) : Option (Str × V) → Bool
  | none => false
  | some (_, e) => blw n e
def headQ (ns seen : List Str) : Option (Str × V) → Bool
  | none => false
  | some (z, _) => decide (z ∈ ns) && !decide (z ∈ seen)
def nameQ : Option (Str × V) → List Str
  | none => []
  | some (z, _) => [z]
def chordQ (ns : List Str) (n : Int) : List Str → List (Option (Str × V)) → Bool
  | _, [] => true
  | seen, q :: qs => partQ n q && (headQ ns seen q && chordQ ns n (seen ++ nameQ q) qs)
theorem chordQ_cons (ns : List Str) (n : Int) (seen : List Str) (q : Option (Str × V)) (qs : List (Option (Str × V))) : chordQ ns n seen (q :: qs) = (partQ n q && (headQ ns seen q && chordQ ns n (seen ++ nameQ q) qs)) := rfl
def chordO (ns : List Str) (n : Int) : Option (List (Option (Str × V))) → Bool
  | none => false
  | some qs => chordQ ns n [] qs
end HG

/-! [f(x) for x in a tuple], f a truth -/
namespace HG
open PySem PySem.Spec PyProof.Rows L2
theorem lc_blT {K : PySem.W.Frag} {a : Addr} {xs : List V} {g : TG} {te : TE} {vs : List Nat} {σ : L2.St} {H : Hp} {Qd : Hp → Prop} {D : Addr} (nD : H D = none) (f : V → Bool) (hl : SqT K H a xs) (hn : xs.length ≤ 1000)
    (step : ∀ (x : V) (Hc : Hp) (Z : VK), x ∈ xs → Same H Hc → (∀ (Hd : Hp), Same Hc Hd → Z (.bl (f x)) Hd) → g x (wipe σ vs) Hc fun σ2 H2 => wipe σ2 vs = wipe σ vs ∧ te σ2 H2 Z)
    (k : ∀ (H' : Hp), Same H H' → H' D = some (.lst ((xs.map f).map V.bl)) → Qd H') :
    ∃ W : Nat → Nat → Hp → Prop, (∃ m, W 0 m (upd H D (.lst []))) ∧ ∀ i m H', W i m H' →
      ((Itt K a).stop i H' ∧ Qd H') ∨ ((Itt K a).go i H' ∧ ∃ Nx : Hp → Prop, (∀ H'', Nx H'' → ∃ m', m' < m ∧ W (i + 1) m' H'') ∧ ∀ x H'', (Itt K a).yld i H' x H'' → g x (wipe σ vs) H'' fun σ2 H2 => wipe σ2 vs = wipe σ vs ∧ tYes σ2 H2 fun b H3 =>
        if b = true then te σ2 H3 fun y H4 => ∃ acc, H4 D = some (.lst acc) ∧ acc.length < sizeLine ∧ Nx (upd H4 D (.lst (acc ++ [y]))) else Nx H3) := by
  refine lc_tup (K := K) (a := a) (xs := xs) (fun j H' => Same H H' ∧ H' D = some (.lst (((xs.take j).map f).map V.bl))) ?_ ?_ ?_ ?_
  · exact ⟨same_upd nD, upd_same⟩
  · rintro i H' _ ⟨s, _⟩
    exact sqT_same s hl
  · rintro i x Hc hx ⟨s, hD⟩
    have hi : i < xs.length := (List.getElem?_eq_some_iff.mp hx).1
    refine step x Hc (fun y H4 => ∃ acc, H4 D = some (.lst acc) ∧ acc.length < sizeLine ∧ (Same H (upd H4 D (.lst (acc ++ [y]))) ∧ (upd H4 D (.lst (acc ++ [y]))) D = some (.lst (((xs.take (i + 1)).map f).map V.bl)))) (List.mem_of_getElem? hx) s fun Hd s2 => ?_
    refine ⟨_, s2 _ _ hD, by rw [List.length_map, List.length_map, List.length_take]; have := sizeLine_big; omega, same_put (s.trans s2) nD, ?_⟩
    rw [upd_same, List.take_add_one, hx]
    simp
  · rintro H' ⟨s, hD⟩
    rw [List.take_length] at hD
    exact k H' s hD
end HG

/-! dicts with tuple keys: made of a list of pairs, walked by items(), compared -/
namespace HG
open PySem PySem.Spec PyProof.Rows L2
/-- pairs put in, one behind another -/
def mergeT (kvs more : List (List Key × V)) : List (List Key × V) := more.foldl (fun acc kv => putK acc kv.1 kv.2) kvs
theorem KT.merge {H : Hp} : ∀ {more : List (List Key × V)} {rs : List (List Key × Addr × Value)} {kvs : List (List Key × V)} {xs : List (List Key × Addr × Value)}, KT H more rs → KT H kvs xs → KT H (mergeT kvs more) (PySem.storedAllH xs rs)
  | [], [], _, _, _, r => r
  | [], _ :: _, _, _, z, _ => nomatch z
  | _ :: _, [], _, _, z, _ => nomatch z
  | p :: ps, q :: qs, _, _, .cons h t, r => by
    obtain ⟨h1, h2, h3⟩ := h
    have := KT.merge t (r.put q.1 (by rw [← h1]; exact h2) h3)
    show KT H (mergeT (putK _ p.1 p.2) ps) (PySem.storedAllH (storedH _ q.1 q.2.1 q.2.2) qs)
    rw [h1]
    exact this
theorem length_mergeT : ∀ (more kvs : List (List Key × V)), (mergeT kvs more).length ≤ kvs.length + more.length
  | [], _ => Nat.le_refl _
  | p :: more, kvs => by
    have h1 := length_mergeT more (putK kvs p.1 p.2)
    have h2 := length_putK kvs p.1 p.2
    show (mergeT (putK kvs p.1 p.2) more).length ≤ kvs.length + (more.length + 1)
    omega
section
variable {X : Cx}
theorem pairsT_of {pins : List (Addr × Obj)} {σ : L2.St} {H : Hp} {s : Shared} (I : Inv X pins σ H s) : ∀ {ps : List Addr} {kvs : List (List Key × V)}, Paired (fun p kv => ∃ b, SqT X.K H p [.ref b, kv.2] ∧ H b = some (.tup (kv.1.map kV))) ps kvs →
    ∃ prs : List (List Key × Addr × Value), KT H kvs prs ∧ prs.length = ps.length ∧ ∀ (j : Nat) (q : List Key × Addr × Value), prs[j]? = some q → ∃ (b : Addr), ps[j]? = some b ∧ IsTup s.heap b #[.ref q.2.1, q.2.2] ∧ (tupleKind (mixKind X.prog X.w)).is s.heap q.1 q.2.1
  | _, _, .nil => ⟨[], .nil, rfl, fun j q e => by simp at e⟩
  | _, _, .cons (a := p) (b := kv) h t => by
    obtain ⟨prs, r, hl, hp⟩ := pairsT_of I t
    obtain ⟨b, hb, hk⟩ := h
    obtain ⟨its, rv, ht, _⟩ := I.tuple hb
    obtain ⟨u, y, ei, ru, ry⟩ := vals2 rv
    subst ei
    obtain rfl : u = Value.ref b := ru
    refine ⟨(kv.1, b, y) :: prs, .cons ⟨rfl, hk, ry⟩ r, by rw [List.length_cons, List.length_cons, hl], fun j q e => ?_⟩
    cases j with
    | zero =>
      have e' : (kv.1, b, y) = q := Option.some.inj e
      subst e'
      exact ⟨p, rfl, ht, key_of I.hok hk⟩
    | succ j =>
      obtain ⟨b', e1, e2, e3⟩ := hp j q (by simpa using e)
      exact ⟨b', by simpa using e1, e2, e3⟩
/-- dict(xs) of a list of pairs, the keys tuples -/
def rDictT (K : PySem.W.Frag) : List V → Hp → VK → Prop := fun xs H Q => ∃ (a : Addr) (ps : List Addr) (kvs : List (List Key × V)), xs = [.ref a] ∧ SqL K H a (ps.map V.ref) ∧ Paired (fun p kv => ∃ b, SqT K H p [.ref b, kv.2] ∧ H b = some (.tup (kv.1.map kV))) ps kvs ∧ ∀ p, H p = none → Q (.ref p) (upd H p (.dT (mergeT [] kvs)))
theorem call_dictT (hcalm : X.calm = true) (hu : X.A.units + 2 < cLine) : CallR X (.type "dict") (rDictT X.K) := by
  intro pins s σ H xs us Q I r q
  obtain ⟨a, ps, kvs, ex, hq, hp, q⟩ := q
  subst ex
  obtain ⟨u, eu, rx⟩ := vals1 r
  subst eu
  cases rx
  obtain ⟨its, rv, pl, hz⟩ := I.list hq
  have ei := refs_at rv
  subst ei
  rw [List.length_map] at hz
  obtain ⟨prs, rel, hl, hpr⟩ := pairsT_of I hp
  obtain ⟨o, n, ho, hc, hd, hdat⟩ := pl
  let Ts : Nat → Addr := fun j => ps.getD j 0
  have P := PySem.PairArg.list (prog := X.prog) (w := X.w) a (ps.map Value.ref).toArray Ts (prs.map fun q => (Value.ref q.2.1, q.2.2))
  have hps : ∀ {j : Nat} {b : Addr}, ps[j]? = some b → Ts j = b := fun {j b} e => by
    show ps.getD j 0 = b
    rw [List.getD_eq_getElem?_getD, e]
    rfl
  refine PySem.call_dict_pairsH (knd := tupleKind (mixKind X.prog X.w)) (ps := prs) P (I.ok.hd hcalm) hu ⟨⟨o, n, ho, hc, hd, hdat⟩, ?_, ?_⟩ ⟨by rw [List.length_map], ?_⟩ ?_ ?_ fun h' tk hd' k => ?_
  · rw [List.length_map, List.size_toArray, List.length_map, hl]
  · intro j k v e
    rw [List.getElem?_map] at e
    cases e2 : prs[j]? with
    | none => rw [e2] at e; cases e
    | some q' =>
      rw [e2] at e
      cases e
      obtain ⟨b, e1, e3, _⟩ := hpr j q' e2
      rw [hps e1]
      obtain ⟨ot, hot, hct, nt, hdt⟩ := e3
      exact ⟨by simp [e1], .inl ⟨ot, hot, hct, nt, hdt⟩⟩
  · intro i key v e
    have e : (prs.map fun q => (Value.ref q.2.1, q.2.2))[i]? = some (key, v) := e
    rw [List.getElem?_map] at e
    cases e2 : prs[i]? with
    | none => rw [e2] at e; cases e
    | some q' =>
      rw [e2] at e
      cases e
      exact ⟨q'.1, q'.2.1, rfl, rfl⟩
  · intro h' hk x hx
    obtain ⟨j, hj⟩ := List.getElem?_of_mem hx
    obtain ⟨_, _, _, e3⟩ := hpr j x hj
    exact PySem.tupleKind_stays.stays (fun b o vs n e _ => hk b o (Nat.ne_of_lt (Heap.lt_size e)) (fun z => nomatch z) e) e3
  · rw [List.length_map, hl]
    exact hz
  · have hm : (s.heap.objs.size == sysModules) = false := beq_eq_false_iff_ne.mpr (Nat.ne_of_gt I.big)
    have hlen : (mergeT [] kvs).length ≤ sizeLine := by
      refine Nat.le_trans (length_mergeT kvs []) ?_
      have := Paired.length rel
      rw [List.length_nil, Nat.zero_add]
      omega
    obtain ⟨oo, es, ep, h1, h2, h3, h4, _, h5⟩ := hd'
    refine ⟨.ref s.heap.objs.size, upd H s.heap.objs.size (.dT (mergeT [] kvs)), I.laid (t' := tk) (fun b o e => k b o (fun z => nomatch z) e) (Nat.le_refl _) (show ObjOk X.prog X.w _ _ _ (.dT (mergeT [] kvs)) from ⟨hlen, hm, PySem.storedAllH [] prs, KT.keeps (KT.merge rel .nil) fun b ys e => ?_, oo, es, ep, h1, h2, h3, h4, h5⟩), rfl, q _ (I.hok.fresh (Nat.le_refl _))⟩
    rw [upd_ne (ne_of_none e (I.hok.fresh (Nat.le_refl _)))]
    exact e
end
/-! ### for k, v in d.items(), the keys tuples -/
theorem frzTv {X : Cx} {pins : List (Addr × Obj)} {σ : L2.St} {H : Hp} {s : Shared} {d : Addr} {o : Obj} {kvs : List (List Key × V)} (I : Inv X pins σ H s) (h : H d = some (.frz o (.dT kvs))) :
    (d == sysModules) = false ∧ s.heap.get? d = some o ∧ o.ExactDict ∧ ∃ (es : Array DictEntry) (ep : Nat), o.data = .dict es ep ∧ es.size = kvs.length ∧
      ∀ (i : Nat) (k : List Key) (v : V), kvs[i]? = some (k, v) → ∃ (en : DictEntry) (q : Addr), es[i]? = some en ∧ en.key = .ref q ∧ H q = some (.tup (k.map kV)) ∧ RelV v en.val := by
  obtain ⟨hd, z, hs, xs, pr, o', es, ep, ho, hx, hdt, he, _⟩ := I.hok d _ h
  rw [hd] at ho
  cases ho
  refine ⟨hs, hd, hx, es, ep, hdt, ?_, fun i k v e => ?_⟩
  · have l1 : es.size = xs.length := size_of_entries he
    have l2 : kvs.length = xs.length := Paired.length pr
    omega
  · obtain ⟨b, hb, e1, e2, e3⟩ := paired_get pr e
    have q := entry_at he i
    rw [hb] at q
    exact ⟨_, b.2.1, q, rfl, e2, e3⟩
/-- the pairs of the locked dict at d, each a new tuple of the key's own tuple and the value -/
def Itit (d : Addr) (o : Obj) (kvs : List (List Key × V)) : It :=
  ⟨fun i H => H d = some (.frz o (.dT kvs)) ∧ i < kvs.length, fun i H x H' => ∃ T k v q, kvs[i]? = some (k, v) ∧ x = .ref T ∧ H T = none ∧ H q = some (.tup (k.map kV)) ∧ H' = upd H T (.tup [.ref q, v]), fun i H => H d = some (.frz o (.dT kvs)) ∧ kvs.length ≤ i⟩
section
variable {P : Program} {w : World} {K : PySem.W.Frag} {d : Addr} {o : Obj} {es : Array DictEntry} {ep : Nat}
theorem turn_itemsT {kvs : List (List Key × V)} {elts : List Expr} {kk : Nat} {tpos : Pos} (it : Addr) (hod : o.data = .dict es ep) :
    Turn P w K (.Tuple elts kk tpos) (Itit d o kvs) [it] it (fun i h => ∃ ok ov, IsItemIter h it d i kvs.length ep ok ov) where
  mem := by simp
  obj := fun i h st b hb => by
    have e : b = it := by simpa using hb
    subst e
    obtain ⟨ok, ov, e⟩ := st
    exact ⟨_, e, fun v z => nomatch z⟩
  keep := fun i h h' st k => let ⟨ok, ov, e⟩ := st; ⟨ok, ov, k it (by simp) _ e⟩
  item := by
    intro X hP hw hK hc i pins s σ H E I hf st hg
    subst hP hw hK
    obtain ⟨hd, hi⟩ := hg
    obtain ⟨hs, hgd, hx, es', ep', hdt, hsz, ent⟩ := frzTv I hd
    obtain ⟨rfl, rfl⟩ := dict_ep hod hdt
    obtain ⟨⟨k, v⟩, hkv⟩ : ∃ p, kvs[i]? = some p := ⟨kvs[i], List.getElem?_eq_getElem hi⟩
    obtain ⟨en, q, hen, hkey, hq, hval⟩ := ent i k v hkv
    obtain ⟨ok, ov, he⟩ := st
    rw [← hsz] at he
    have hlt : it < s.heap.objs.size := Heap.lt_size he
    have hie : i < es'.size := by rw [hsz]; exact hi
    have een : es'[i] = en := by rw [Array.getElem?_eq_getElem hie] at hen; exact Option.some.inj hen
    refine wpAny_pyNext_items_item_raw he ⟨o, hgd, hx, hdt⟩ hie fun h' ho hT hz hk => ?_
    rw [een, hkey] at ho hT
    refine ⟨_, rfl, wpAny_letOwnedTupleGo_items (s := { s with heap := h' }) ho fun h'' he' sb => ?_⟩
    have hT2 : h''.get? s.heap.objs.size = some { cls := .type "tuple", data := .seq #[.ref q, en.val] } := (sb.2 _ (Nat.ne_of_gt hlt)).trans hT
    have new : ObjOk X.prog X.w (upd H s.heap.objs.size (.tup [.ref q, v])) h'' s.heap.objs.size (.tup [.ref q, v]) :=
      ⟨by show 2 ≤ sizeLine; decide, [.ref q, en.val], .cons rfl (.cons hval .nil), ⟨_, hT2, rfl, _, rfl⟩⟩
    have I1 : Inv X pins σ (upd H s.heap.objs.size (.tup [.ref q, v])) { s with heap := h'' } :=
      I.turnedNew (t' := s.toks) (ch := [it]) (fun b ob hb e => (sb.2 b (by simpa using hb)).trans (hk b ob (by simpa using hb) e)) hf (Nat.le_refl _) new
    refine ⟨.ref s.heap.objs.size, _, I1, rfl, ⟨_, k, v, q, hkv, rfl, I.hok.fresh (Nat.le_refl _), hq, rfl⟩, ⟨.ref q, en.val, ?_⟩, fun b hb => ?_⟩
    · rw [← hsz]; exact he'
    · have e : b = it := by simpa using hb
      rw [e, upd_ne (Nat.ne_of_lt hlt)]
      exact (hf it (by simp)).1
  done := by
    intro X hP hw hK hc i pins s σ H E I hf st hg
    subst hP hw hK
    obtain ⟨hd, hi⟩ := hg
    obtain ⟨f0, f1, f2, f3, f4, f5⟩ := hf it (by simp)
    obtain ⟨hs, hgd, hx, es', ep', hdt, hsz, ent⟩ := frzTv I hd
    obtain ⟨rfl, rfl⟩ := dict_ep hod hdt
    obtain ⟨ok, ov, he⟩ := st
    rw [← hsz] at he
    exact wpAny_pyNext_items_end_raw (I.ok.hd hc) he ⟨o, hgd, hx, hdt⟩ (by omega) fun h' eb => ⟨rfl, I.turned (t' := s.toks) (fun b ob hb e => eb b ob hb e) f0 f1 f3 f4 f5⟩
  self := fun A i s Q E st h => let ⟨_, _, e⟩ := st; PySem.W.kcp_self e h
/-- the dict is locked -/
def iItemsT (td : TE) : TI := fun σ H R => td σ H fun x H1 => ∃ d o kvs, x = .ref d ∧ H1 d = some (.frz o (.dT kvs)) ∧ R (Itit d o kvs) H1
theorem pi_itemsT {X : Cx} {e : Expr} {td : TE} {apos cpos : Pos} {elts : List Expr} {kk : Nat} {tpos : Pos} (he : PE X e td) (hbase : attributeBase e "items" X.env (eval e X.env) = eval e X.env := by rfl) (hline : (apos.endLine == cpos.line) = true := by rfl) :
    PI X (.Tuple elts kk tpos) (.Call (.Attribute e "items" apos) [] [] cpos) (iItemsT td) := by
  refine ⟨fun pins s σ H R I h => ?_⟩
  refine wpAny_Call_method (T := "dict") (id := "dict.items") hbase rfl hline PySem.F.plainAttrs_dict PySem.F.slot_dict_items PySem.F.type_dict_items (thn (he.run pins s σ H _ I h) fun u s1 ⟨x, H1, I1, rx, d, o, kvs, ex, hd, q⟩ => ?_)
  subst ex
  obtain rfl : u = Value.ref d := rx
  obtain ⟨hs, hgd, hx, es, ep, hdt, hsz, ent⟩ := frzTv I1 hd
  have hr : s1.heap.DictRaw d es ep := ⟨o, hgd, hx, hdt⟩
  refine ⟨hr.typeIs, fun b e => by cases e; exact ⟨o, hgd, hx.2.1⟩, ?_⟩
  have I2 : Inv X pins σ H1 { s1 with heap := s1.heap.push { cls := .type "dict_items", data := .fields #[.ref d] } } := I1.kept (t' := s1.toks) fun b ob q => Heap.get?_push_of_some _ q
  have fin : wpAny (model X.prog X.w) X.A (pyIter (.ref s1.heap.objs.size)) (PIE X pins σ (.Tuple elts kk tpos) R) X.xe { s1 with heap := s1.heap.push { cls := .type "dict_items", data := .fields #[.ref d] } } := by
    refine wpAny_pyIter_items_raw (d := d) (es := es) (ep := ep) ⟨_, Heap.get?_push_size _ rfl, rfl, rfl⟩ (hr.at fun o e => Heap.get?_push_of_some _ e) (pi_one (tk := s1.toks) I2 _ (turn_itemsT _ hdt) ⟨.none, .none, ?_⟩ q)
    rw [← hsz]
    exact Heap.get?_push_size _ rfl
  show wpAny _ _ (callWith cpos (.builtin "dict.items") [.ref d] [] []) _ X.xe s1
  exact method_meetsIn PySem.F.slot_dict_items PySem.F.entry_dict_items rfl (PySem.evalArgs_none ⟨rfl, hr.typeIs, PySem.F.args_dict_items_1 _, _, meets_dict_items_raw d hs, ⟨es, ep, hr⟩, fin⟩)
theorem walk_itemsT {kvs : List (List Key × V)} : Walk (Itit d o kvs) kvs.length (fun H => H d = some (.frz o (.dT kvs)))
    (fun i H x H' => ∃ T k v q, kvs[i]? = some (k, v) ∧ x = .ref T ∧ H T = none ∧ H q = some (.tup (k.map kV)) ∧ H' = upd H T (.tup [.ref q, v])) :=
  ⟨fun _ _ hi q => ⟨q, hi⟩, fun _ q => ⟨q, Nat.le_refl _⟩, fun _ _ _ _ _ _ y => y⟩
end
end HG

/-! dicts with tuple keys: ==, where it is so -/
namespace HG
open PySem PySem.Spec PyProof.Rows L2
section
variable {prog : Program} {w : World} {K : Type} [DecidableEq K] {knd : HeapKind prog w K} {A : Around} {E : Value → Shared → Prop} {s : Shared}
theorem samePairsT {nm : String} {a b : Addr} {xa xb : List (K × Addr × Value)} {Q : Bool → Shared → Prop} (hu : knd.room A) (ha : (a == sysModules) = false) (hb : (b == sysModules) = false)
    (da : s.heap.DictOfH knd a xa) (db : s.heap.DictOfH knd b xb) (hlen : xa.length = xb.length) (hits : ∀ x ∈ xa, ∃ p, atKey xb x.1 = some p ∧ SeqAt.EqAt A s x.2.2 p.2 true) (h : Q true s) :
    wpAny (model prog w) A (Builtin.Dict.samePairs nm a b) Q E s := by
  obtain ⟨oa, es, ep, hoa, _, hda, hea, hisa, hna⟩ := da
  obtain ⟨ob, es', ep', hob, _, hdb, heb, hisb, hnb⟩ := db
  have hla : es.size = xa.length := size_of_entries hea
  have hlb : es'.size = xb.length := size_of_entries heb
  unfold Builtin.Dict.samePairs Builtin.Dict.showsAll
  rw [if_neg (show ¬ (a == sysModules) = true by rw [ha]; exact Bool.false_ne_true), if_neg (show ¬ (b == sysModules) = true by rw [hb]; exact Bool.false_ne_true)]
  refine wpAny_bind (wpAny_pure (wpAny_bind (wpAny_pure ?_)))
  refine wpAny_bind (wpAny_dictEntries hoa hda ?_)
  dsimp only
  refine wpAny_bind (wpAny_dictEntries hob hdb ?_)
  have hsz : es.size = es'.size := by omega
  rw [if_neg (by rw [hsz]; simp)]
  refine wpAny_bind (wpAny_dictEpoch hoa hda ?_)
  refine wpAny_bind ?_
  rw [Std.Legacy.Range.forIn_eq_forIn_range']
  simp only [Std.Legacy.Range.size, Nat.sub_zero, Nat.add_sub_cancel, Nat.div_one]
  refine wpAny_forIn_list _
    (fun rest q s' => s' = s ∧ q = (none, ()) ∧ ∃ i, rest = List.range' i (es.size - i) ∧ i ≤ es.size)
    _ ?_ ?_ _ _ ⟨rfl, rfl, 0, by simp, Nat.zero_le _⟩
  · rintro x rest q s' ⟨rfl, rfl, i, hr, hi⟩
    have hlt : i < es.size := by
      rcases Nat.lt_or_ge i es.size with h | h
      · exact h
      · rw [Nat.sub_eq_zero_of_le h] at hr; simp at hr
    obtain ⟨rfl, hrest⟩ : x = i ∧ rest = List.range' (i + 1) (es.size - (i + 1)) := by
      have e : es.size - i = (es.size - (i + 1)) + 1 := by omega
      rw [e, List.range'_succ] at hr
      injection hr with h1 h2
      exact ⟨h1, h2⟩
    refine wpAny_bind (wpAny_dictEntries hoa hda ?_)
    rw [Array.getElem?_eq_getElem hlt]
    have hlt' : x < xa.length := by omega
    have e1 := entry_at hea x
    rw [Array.getElem?_eq_getElem hlt, List.getElem?_eq_getElem hlt', Option.map_some] at e1
    have e1 := Option.some.inj e1
    have hm := List.getElem_mem hlt'
    obtain ⟨k, q, v, hkv⟩ : ∃ k q v, xa[x] = (k, q, v) := ⟨_, _, _, rfl⟩
    rw [hkv] at e1 hm
    have hkey := hisa _ hm
    obtain ⟨p, hp, he⟩ := hits _ hm
    show wpAny _ _ (holding [es[x].key, es[x].val] _ >>= _) _ _ _
    rw [e1]
    show wpAny _ _ (holding [Value.ref q, v] _ >>= _) _ _ _
    refine wpAny_bind (wpAny_holding (wpAny_bind (wpAny_dictFind_heap (k := k) hu hkey hob hdb heb hisb hnb (fun hno => ?_) (fun j p' hj => ?_))))
    · rw [atKey_none_of_get hno] at hp
      cases hp
    · have hpj := atKey_of_get hnb hj
      have hpj : p' = p := Option.some.inj (hpj.symm.trans hp)
      subst hpj
      have ej := entry_at heb j
      rw [hj, Option.map_some] at ej
      refine wpAny_bind (wpAny_dictEntries hob hdb ?_)
      rw [ej]
      refine wpAny_holding (he _ _ _ _ ?_)
      show wpAny _ _ (if (!true) = true then _ else _) _ _ _
      rw [if_neg (by decide)]
      refine wpAny_bind (wpAny_dictEpoch hoa hda ?_)
      rw [if_neg (by simp)]
      exact wpAny_pure ⟨rfl, rfl, x + 1, hrest, hlt⟩
  · rintro q s' ⟨rfl, rfl, i, hr, hi⟩
    exact wpAny_pure h
theorem eq_dictsT {a b : Addr} {xa xb : List (K × Addr × Value)} {Q : Value → Shared → Prop} (hr : knd.room A.in1) (hu : A.units < cLine) (ha : (a == sysModules) = false) (hb : (b == sysModules) = false)
    (da : s.heap.DictOfH knd a xa) (db : s.heap.DictOfH knd b xb) (hlen : xa.length = xb.length) (hits : ∀ x ∈ xa, ∃ p, atKey xb x.1 = some p ∧ SeqAt.EqAt A.in1 s x.2.2 p.2 true) (h : Q (.bool true) s) :
    wpAny (model prog w) A (compareOp .Eq (.ref a) (.ref b)) Q E s := by
  refine wpAny_richCompare_same_room (op := .Eq) da.typeIs db.typeIs PySem.F.slot_dict_eq (wpAny_call_entry PySem.F.slot_dict_eq da.typeIs PySem.F.entry_dict_eq ?_ (PySem.F.args_dict_eq_2 _ _)) hu
  show wpAny _ _ (Builtin.Dict.dictSlotArgs "__eq__" ⟨[.ref a, .ref b], []⟩ >>= _) _ _ s
  refine wpAny_bind ?_
  unfold Builtin.Dict.dictSlotArgs
  refine wpAny_bind (wpAny_notOrdered_dict da.typeIs ?_)
  show wpAny _ _ (pure (Value.ref a, Value.ref b)) _ _ s
  refine wpAny_pure ?_
  refine wpAny_bind (wpAny_isInstance (T := "dict") db.typeIs PySem.F.sub_dict_dict ?_)
  simp only [Bool.not_true, Bool.false_eq_true, if_false]
  refine wpAny_bind (wpAny_pure (wpAny_bind (wpAny_pure ?_)))
  refine wpAny_bind (samePairsT hr ha hb da db hlen hits ?_)
  refine wpAny_pure ⟨_, rfl, ?_, ?_⟩
  · exact fun x => nomatch x
  · simpa using h
end
section
variable {X : Cx}
/-- d == e, so: of as many entries, each of the one's in the other -/
def rEqT : R2 := fun x y H Q => ∃ a b ks ls, x = .ref a ∧ y = .ref b ∧ H a = some (.dT ks) ∧ H b = some (.dT ls) ∧ ks.length = ls.length ∧ (∀ p ∈ ks, valV ls p.1 = some p.2 ∧ flatB p.2 = true) ∧ Q (.bl true) H
theorem op_eqT (hu : X.A.units + 1 < cLine) : OpR X (compareOp .Eq) rEqT := by
  intro pins s σ H x y v u Q I rx ry h
  obtain ⟨a, b, ks, ls, rfl, rfl, ea, eb, hlen, hp, q⟩ := h
  obtain rfl : v = Value.ref a := rx
  obtain rfl : u = Value.ref b := ry
  obtain ⟨_, ya, xa, ra, da⟩ := dt_of I.hok ea
  obtain ⟨_, yb, xb, rb, db⟩ := dt_of I.hok eb
  have l1 := Paired.length ra
  have l2 := Paired.length rb
  refine eq_dictsT (tupleKind_room_in1 hu) (by omega) ya yb da db (by omega) (fun x hx => ?_) (fin_bl I q (by simp))
  have key : ∀ {ks : List (List Key × V)} {xa : List (List Key × Addr × Value)}, KT H ks xa → (∀ p ∈ ks, valV ls p.1 = some p.2 ∧ flatB p.2 = true) → ∀ x ∈ xa, ∃ p, atKey xb x.1 = some p ∧ SeqAt.EqAt X.A.in1 s x.2.2 p.2 true := by
    intro ks xa r
    induction r with
    | nil => intro _ x hx; cases hx
    | @cons p q ps qs h t ih =>
      intro hp x hx
      rcases List.mem_cons.mp hx with rfl | hx
      · obtain ⟨h1, _, h2⟩ := h
        obtain ⟨e, f⟩ := hp p List.mem_cons_self
        have rr : RelO (some p.2) ((atKey xb p.1).map (·.2)) := by rw [← e]; exact rb.val p.1
        obtain ⟨y, hy, ry⟩ := rr.some_of
        obtain ⟨p', hp', rfl⟩ := Option.map_eq_some_iff.mp hy
        exact ⟨p', by rw [← h1]; exact hp', eqAt_same h2 ry f⟩
      · exact ih (fun p' hm => hp p' (List.mem_cons_of_mem _ hm)) x hx
  exact key ra hp x hx
end
end HG

/-! songs made of lists or tuples of cues and breaths, and songs made without any -/
namespace HG
open PySem PySem.Spec PyProof.Rows L2 HF
def LtD (K : PySem.W.Frag) (G : Hp) (v : V) (ds : List PyData) : Prop := Dp K G v (.list ds) ∨ Dp K G v (.tuple ds)
theorem ltD_inv {K : PySem.W.Frag} {G : Hp} {v : V} {ds : List PyData} (h : LtD K G v ds) : ∃ a xs, v = .ref a ∧ (SqL K G a xs ∨ SqT K G a xs) ∧ DpAll K G xs ds := by
  rcases h with h | h
  · obtain ⟨a, xs, e, h1, h2⟩ := dp_lst_inv h
    exact ⟨a, xs, e, .inl h1, h2⟩
  · obtain ⟨a, xs, e, h1, h2⟩ := dp_tup_inv h
    exact ⟨a, xs, e, .inr h1, h2⟩
theorem sqTL_same {K : PySem.W.Frag} {G H : Hp} {a : Addr} {xs : List V} (g : Same G H) (h : SqL K G a xs ∨ SqT K G a xs) : SqL K H a xs ∨ SqT K H a xs := h.imp (fun q => g.seq q) (fun q => sqT_same g q)
structure SIn2 (K : PySem.W.Frag) (At : Hp → Addr → Parts → Prop) (G : Hp) (x : Addr) (v cv bv : V) (P : Parts) (S : SongD) : Prop where
  choir : At G x P
  ok : P.Ok 64
  first : TrT G v S.first
  cues : LtD K G cv (S.puts.map putD)
  breaths : LtD K G bv (nDs S.stops)
  sok : SOk P S
theorem SIn.two {K : PySem.W.Frag} {At : Hp → Addr → Parts → Prop} {G : Hp} {x : Addr} {v cv bv : V} {P : Parts} {S : SongD} (h : SIn K At G x v cv bv P S) : SIn2 K At G x v cv bv P S := ⟨h.choir, h.ok, h.first, .inl h.cues, .inl h.breaths, h.sok⟩
def spRwSong2 (K : PySem.W.Frag) (At : Hp → Addr → Parts → Prop) : Sp := fun vs H Q _ => ∃ (G : Hp) (x : Addr) (v cv bv : V) (P : Parts) (S : SongD), vs = [.ref x, v, cv, bv] ∧ Same G H ∧ SIn2 K At G x v cv bv P S ∧ SNear S ∧ ∀ H', Same H H' → Q .non H'
def spRbCuesT (K : PySem.W.Frag) (At : Hp → Addr → Parts → Prop) : Sp := fun vs H Q _ => ∃ (G : Hp) (x : Addr) (cv : V) (P : Parts) (S : SongD), vs = [.ref x, cv] ∧ Same G H ∧ At G x P ∧ P.Ok 64 ∧ SOk P S ∧ Dp K G cv (.tuple (S.puts.map putD)) ∧ SNear S ∧ ∀ H', Same H H' → Q .non H'
def spRbCuesL (K : PySem.W.Frag) (At : Hp → Addr → Parts → Prop) : Sp := fun vs H Q _ => ∃ (G : Hp) (x : Addr) (cv : V) (P : Parts) (S : SongD), vs = [.ref x, cv] ∧ Same G H ∧ At G x P ∧ P.Ok 64 ∧ SOk P S ∧ Dp K G cv (.list (S.puts.map putD)) ∧ SNear S ∧ ∀ H', Same H H' → Q .non H'
def spRbCues2 (K : PySem.W.Frag) (At : Hp → Addr → Parts → Prop) : Sp := spOr (spRbCuesL K At) (spRbCuesT K At)
def spUnlikeBT (K : PySem.W.Frag) : Sp := fun vs H Q _ => ∃ (G : Hp) (bv : V) (ds : List Nat), vs = [bv] ∧ Same G H ∧ Dp K G bv (.tuple (nDs ds)) ∧ (∀ d ∈ ds, d ≤ 10 ^ 18) ∧ ds.Nodup ∧ ds.length ≤ 100 ∧ ∀ H', Same H H' → Q (.bl true) H'
def spUnlikeB2 (K : PySem.W.Frag) : Sp := spOr (spUnlikeB K) (spUnlikeBT K)
def spFillS2 (K : PySem.W.Frag) (At : Hp → Addr → Parts → Prop) (C : Addr) : Sp := fun vs H Q _ => ∃ (G : Hp) (y dy x : Addr) (v cv bv : V) (P : Parts) (S : SongD) (fs0 : List (Str × V)), vs = [.ref y, .ref x, v, cv, bv] ∧ Same G H ∧ H y = some (.ins C dy fs0) ∧ (∀ m ∈ smeths, fs0.lookup m = none) ∧ fs0.length ≤ 100 ∧ H dy = some (.own y) ∧ G y = none ∧ G dy = none ∧ SIn2 K At G x v cv bv P S ∧
  ∀ (H' : Hp) (fs : List (Str × V)) (bs : List Nat), (∀ b o, H b = some o → b ≠ y → H' b = some o) → H' y = some (.ins C dy fs) → fs.length ≤ fs0.length + 5 → (∀ m ∈ smeths, fs.lookup m = none) → Spots S bs → SoC K At C (plus y dy (more G H H') H') y P S bs → Q .non H'
def spMakeS2 (K : PySem.W.Frag) (At : Hp → Addr → Parts → Prop) (C : Addr) : Sp := fun vs H Q _ => ∃ (G : Hp) (y dy x : Addr) (v cv bv : V) (P : Parts) (S : SongD), vs = [.ref y, .ref x, v, cv, bv] ∧ Same G H ∧ H y = some (.ins C dy []) ∧ H dy = some (.own y) ∧ G y = none ∧ G dy = none ∧ SIn2 K At G x v cv bv P S ∧ SNear S ∧
  ∀ (H' : Hp) (fs : List (Str × V)) (bs : List Nat), (∀ b o, H b = some o → b ≠ y → H' b = some o) → H' y = some (.ins C dy fs) → fs.length ≤ 5 → (∀ m ∈ smeths, fs.lookup m = none) → Spots S bs → SoC K At C (plus y dy (more G H H') H') y P S bs → Q .non H'
theorem make2_imp (K : PySem.W.Frag) (At : Hp → Addr → Parts → Prop) (C : Addr) : ∀ vs H Q E, spMakeS K At C vs H Q E → spMakeS2 K At C vs H Q E := fun vs H Q E ⟨G, y, dy, x, v, cv, bv, P, S, e, g, h1, h2, h3, h4, i, n, k⟩ => ⟨G, y, dy, x, v, cv, bv, P, S, e, g, h1, h2, h3, h4, i.two, n, k⟩
/-- _made: a song of parts that are right -/
def spMadeS (K : PySem.W.Frag) (At : Hp → Addr → Parts → Prop) (C : Addr) : Sp := fun vs H Q _ => ∃ (G : Hp) (x : Addr) (v cv bv : V) (P : Parts) (S : SongD), vs = [.ref x, v, cv, bv] ∧ Same G H ∧ SIn2 K At G x v cv bv P S ∧
  ∀ (y : Addr) (H' : Hp) (bs : List Nat), Same H H' → H y = none → Spots S bs → SoC K At C (more G H H') y P S bs → Q (.ref y) H'
/-- the class of songs, called with a choir and a first standing alone -/
def KSong0 (P : Program) (w : World) (K : PySem.W.Frag) (mg : Str → Option Value) (base : Heap) (At : Hp → Addr → Parts → Prop) (Cs : Addr) : Prop := ∃ f fd c0 b0 mv, mg "Song" = some (.ref Cs) ∧ Mk K Cs f ∧ (∀ H, SqT K H c0 []) ∧ (∀ H, SqT K H b0 []) ∧
  KBn K fd ["self", "choir", "first", "cues", "breaths"] 3 [] (fun us ws => us ++ mv) (fun vs zs => vs ++ [.ref c0, .ref b0]) ∧ FnOk P w K mg base CX0 6 f fd ["self", "choir", "first", "cues", "breaths"] (spMakeS2 K At Cs)
theorem sOk0 {P : Parts} {S : SongD} (h : SOk P S) : SOk P ⟨S.first, [], []⟩ := ⟨h.first, (fun _ z => nomatch z), (fun _ z => nomatch z), .nil, Nat.zero_le _, (fun _ z => nomatch z), .nil, Nat.zero_le _⟩
theorem sNear0 {st : List Nat} : SNear ⟨st, [], []⟩ := ⟨(fun _ z => nomatch z), (fun _ z => nomatch z), Nat.zero_le _, Nat.zero_le _⟩
theorem dp0 {K : PySem.W.Frag} {G : Hp} {c : Addr} (h : SqT K G c []) : Dp K G (.ref c) (.tuple []) := .tup h .nil
/-- a new song of the inner heap stands in the outer one's -/
theorem new_song {H H3 H' G : Hp} {y dy : Addr} (g : Same G H) (s3 : Same H H3) (nyH : H y = none) (ndyH : H dy = none) : Same (plus y dy (more G H3 H') H') (more G H H') := by
  intro b o e
  unfold plus at e
  by_cases c : b = y ∨ b = dy
  · rw [if_pos c] at e
    unfold more
    rw [if_pos (by rcases c with rfl | rfl; exact nyH; exact ndyH)]
    exact e
  · rw [if_neg c] at e
    unfold more at e ⊢
    by_cases c2 : H3 b = none
    · rw [if_pos c2] at e
      rw [if_pos (s3.free c2)]
      exact e
    · rw [if_neg c2] at e
      rw [if_neg (fun z => ?_)]
      · exact e
      · rw [g _ _ e] at z
        cases z
/-! sorted of a list or a tuple -/
def rSortedDatB {β : Type} (enc : β → PyData) (K : PySem.W.Frag) : List V → Hp → VK → Prop := fun vs H Q => rSortedDat enc K vs H Q ∨ rSortedDatT enc K vs H Q
theorem cr_sortedDatB {β : Type} (enc : β → PyData) {X : Cx} {k : Nat} (hr : Room k X.A) : CallR X (.builtin "sorted") (rSortedDatB enc X.K) := CallR.or (cr_sortedDat enc hr) (cr_sortedDatT enc hr)
theorem sdB {β : Type} {enc : β → PyData} {K : PySem.W.Frag} {G H : Hp} {a : Addr} {xs : List V} {bs : List β} {Q : VK} (g : Same G H) (hs : SqL K H a xs ∨ SqT K H a xs) (hd : DpAll K G xs (bs.map enc)) (h1 : PySem.W.AllAlike (bs.map enc)) (h2 : PySem.W.Sortable (bs.map enc)) (h3 : ∀ b ∈ bs, (enc b).depth ≤ 40)
    (k : ∀ (p : Addr) (ys : List V), H p = none → DpAll K G ys ((bs.mergeSort (PySem.W.dataLe false enc)).map enc) → Q (.ref p) (upd H p (.lst ys))) : rSortedDatB enc K [.ref a] H Q :=
  hs.elim (fun q => .inl ⟨G, a, xs, bs, rfl, g, q, hd, h1, h2, h3, k⟩) (fun q => .inr ⟨G, a, xs, bs, rfl, g, q, hd, h1, h2, h3, k⟩)
def rSortedIB (K : PySem.W.Frag) : List V → Hp → VK → Prop := fun vs H Q => rSortedI K vs H Q ∨ rSortedIT K vs H Q
theorem cr_sortedIB {X : Cx} : CallR X (.builtin "sorted") (rSortedIB X.K) := CallR.or cr_sortedI cr_sortedIT
theorem siB {K : PySem.W.Frag} {H : Hp} {a : Addr} {ns : List Int} {Q : VK} (hs : SqL K H a (ns.map V.int) ∨ SqT K H a (ns.map V.int)) (hl : ns.length ≤ 1000) (k : ∀ (ms : List Int) (p : Addr), ms.Perm ns → ms.Pairwise (· ≤ ·) → H p = none → Q (.ref p) (upd H p (.lst (ms.map V.int)))) : rSortedIB K [.ref a] H Q :=
  hs.elim (fun q => .inl ⟨a, ns, rfl, q, k⟩) (fun q => .inr ⟨a, ns, rfl, q, hl, k⟩)
end HG

/-! songs of the same cues in another order; what the song's deeds promise -/
namespace HG
open PySem PySem.Spec PyProof.Rows L2 HF
theorem str_anti {x y : Str} (h1 : ¬ x.cps.toList < y.cps.toList) (h2 : ¬ y.cps.toList < x.cps.toList) : x = y := by
  have e : x.cps.toList = y.cps.toList := List.le_antisymm (List.not_lt.mp h2) (List.not_lt.mp h1)
  cases x; cases y
  simp only [Str.mk.injEq]
  exact Array.toList_inj.mp e
theorem put_lt (p q : Put) : PySem.W.dataLt (putD p) (putD q) = if p.1 = q.1 then (if p.2.1 = q.2.1 then decide (p.2.2 < q.2.2) else decide (p.2.1.cps.toList < q.2.1.cps.toList)) else decide (p.1 < q.1) := by
  unfold putD
  rw [PySem.W.dataLt_tuple, PySem.W.dataLt_cons (by simp [PySem.W.alike]), PySem.W.dataLt_cons (by simp [PySem.W.alike]), PySem.W.dataLt_cons (by simp [PySem.W.alike]), PySem.W.dataLt_int, PySem.W.dataLt_int, PySem.W.dataLt_str]
  have e : PyProof.Rows.lexLt PyProof.Rows.itemOrd (PySem.W.keyToksAll []) (PySem.W.keyToksAll []) = false := PyProof.Rows.lex_irrefl _
  rw [e]
  simp only [PyData.eqv, beq_iff_eq]
  by_cases h1 : p.1 = q.1 <;> by_cases h2 : p.2.1 = q.2.1 <;> by_cases h3 : p.2.2 = q.2.2 <;> simp [h1, h2, h3] <;> omega
theorem put_anti {p q : Put} (h1 : PySem.W.dataLe false putD p q = true) (h2 : PySem.W.dataLe false putD q p = true) : p = q := by
  have h1 : (!PySem.W.dataLt (putD q) (putD p)) = true := h1
  have h2 : (!PySem.W.dataLt (putD p) (putD q)) = true := h2
  rw [put_lt, Bool.not_eq_true'] at h1 h2
  by_cases c1 : p.1 = q.1
  · rw [if_pos c1] at h2
    rw [if_pos c1.symm] at h1
    by_cases c2 : p.2.1 = q.2.1
    · rw [if_pos c2] at h2
      rw [if_pos c2.symm] at h1
      have h1 := of_decide_eq_false h1
      have h2 := of_decide_eq_false h2
      have c3 : p.2.2 = q.2.2 := by omega
      exact Prod.ext c1 (Prod.ext c2 c3)
    · rw [if_neg c2] at h2
      rw [if_neg (fun z => c2 z.symm)] at h1
      exact absurd (str_anti (of_decide_eq_false h2) (of_decide_eq_false h1)) c2
  · rw [if_neg c1] at h2
    rw [if_neg (fun z => c1 z.symm)] at h1
    have h1 := of_decide_eq_false h1
    have h2 := of_decide_eq_false h2
    omega
theorem sortP_sorted (ps : List Put) : (sortP ps).Pairwise (fun a b => PySem.W.dataLe false putD a b = true) := by
  have T := PySem.W.sortLe_total (PyProof.Rows.listOrd PyProof.Rows.itemOrd) false (fun b : Put => PySem.W.keyToks (putD b))
  exact List.pairwise_mergeSort (fun a b c => T.trans a b c) (fun a b => by rw [Bool.or_eq_true]; exact T.total a b) ps
theorem sortP_congr {ps qs : List Put} (h : ps.Perm qs) : sortP ps = sortP qs :=
  List.Perm.eq_of_pairwise (fun a b _ _ x y => put_anti x y) (sortP_sorted ps) (sortP_sorted qs) ((sortP_perm ps).trans (h.trans (sortP_perm qs).symm))
theorem stepR_perm {P : Parts} {ps qs : List Put} (h : ps.Perm qs) (nd : (ps.map putKey).Nodup) : stepR P ps = stepR P qs := by
  funext w b
  unfold stepR
  rw [pin_perm h nd]
theorem atR_perm {P : Parts} {ps qs : List Put} (h : ps.Perm qs) (nd : (ps.map putKey).Nodup) (st L : List Nat) : atR P ps st L = atR P qs st L := by
  unfold atR
  rw [stepR_perm h nd]
theorem rootsR_perm {P : Parts} {ps qs : List Put} (h : ps.Perm qs) (nd : (ps.map putKey).Nodup) (st bs : List Nat) : rootsR P ps st bs = rootsR P qs st bs := by
  unfold rootsR
  refine List.map_congr_left fun i _ => atR_perm h nd _ _
theorem Spots.perm {T S : SongD} {bs : List Nat} (h : Spots T bs) (e2 : T.puts.Perm S.puts) (e3 : T.stops.Perm S.stops) : Spots S bs := ⟨h.1, fun b => by
  rw [h.2 b, e3.mem_iff, (e2.map _).mem_iff]⟩
theorem SoC.perm {K : PySem.W.Frag} {At : Hp → Addr → Parts → Prop} {C : Addr} {G : Hp} {y : Addr} {P : Parts} {T S : SongD} {bs : List Nat} (nd : (T.puts.map putKey).Nodup) (h : SoC K At C G y P T bs) (e1 : T.first = S.first) (e2 : T.puts.Perm S.puts) (e3 : T.stops.Perm S.stops) : SoC K At C G y P S bs := by
  obtain ⟨dy, fs, h1, h2, h3, ⟨v, b1, b2⟩, ⟨cl, xs, c1, c2, c3⟩, ⟨bl, ds, d1, d2, d3, d4⟩, ⟨rl, ys, f1, f2, f3⟩⟩ := h
  refine ⟨dy, fs, h1, h2, h3, ⟨v, b1, by rw [← e1]; exact b2⟩, ⟨cl, xs, c1, c2, by rw [← sortP_congr e2]; exact c3⟩, ⟨bl, ds, d1, d2, d3.trans e3, d4⟩, ⟨rl, ys, f1, f2, by rw [← e1, ← rootsR_perm e2 nd]; exact f3⟩⟩
theorem SOk.perm {P : Parts} {T S : SongD} (h : SOk P T) (e1 : T.first = S.first) (e2 : T.puts.Perm S.puts) (e3 : T.stops.Perm S.stops) : SOk P S :=
  ⟨by rw [← e1]; exact h.first, fun r hr => h.puts r (e2.mem_iff.mpr hr), fun r hr => h.near r (e2.mem_iff.mpr hr), (e2.map _).nodup_iff.mp h.putN, by rw [← e2.length_eq]; exact h.putL, fun d hd => h.stops d (e3.mem_iff.mpr hd), e3.nodup_iff.mp h.stopN, by rw [← e3.length_eq]; exact h.stopL⟩
/-! ### deeds -/
section
variable (K : PySem.W.Frag) (At : Hp → Addr → Parts → Prop) (C : Addr)
def spHasCue : Sp := fun vs H Q _ => ∃ (G : Hp) (y : Addr) (P : Parts) (S : SongD) (bs : List Nat) (b : Nat) (z : Str), vs = [.ref y, .int (b : Int), .str z] ∧ Same G H ∧ SoC K At C G y P S bs ∧ P.Ok 64 ∧ SOk P S ∧ GoodN z ∧ ∀ H', Same H H' → Q (.bl (decide ((b, z) ∈ S.puts.map putKey))) H'
def spChanged : Sp := fun vs H Q _ => ∃ (G : Hp) (y : Addr) (cv bv : V) (P : Parts) (S0 : SongD) (bs : List Nat) (ps : List Put) (ds : List Nat), vs = [.ref y, cv, bv] ∧ Same G H ∧ SoC K At C G y P S0 bs ∧ P.Ok 64 ∧ LtD K G cv (ps.map putD) ∧ LtD K G bv (nDs ds) ∧ SOk P ⟨S0.first, ps, ds⟩ ∧
  ∀ (y' : Addr) (H' : Hp) (bs' : List Nat), Same H H' → H y' = none → Spots ⟨S0.first, ps, ds⟩ bs' → SoC K At C (more G H H') y' P ⟨S0.first, ps, ds⟩ bs' → Q (.ref y') H'
/-- a deed's end: a new song of S' -/
def NewS (G H : Hp) (P : Parts) (S' : SongD) (Q : VK) : Prop := ∀ (y' : Addr) (H' : Hp) (bs' : List Nat), Same H H' → H y' = none → Spots S' bs' → SoC K At C (more G H H') y' P S' bs' → Q (.ref y') H'
def spWithCue : Sp := fun vs H Q _ => ∃ (G : Hp) (y : Addr) (P : Parts) (S : SongD) (bs : List Nat) (b n : Nat) (z : Str), vs = [.ref y, .int (b : Int), .str z, .int (n : Int)] ∧ Same G H ∧ SoC K At C G y P S bs ∧ P.Ok 64 ∧ SOk P S ∧ (b, z) ∉ S.puts.map putKey ∧ S.puts.length < 40 ∧ z ∈ P.names ∧ n < P.notes ∧ b < 2 ^ 500 ∧
  NewS K At C G H P ⟨S.first, S.puts ++ [(b, z, n)], S.stops⟩ Q
def spWithout : Sp := fun vs H Q _ => ∃ (G : Hp) (y : Addr) (P : Parts) (S : SongD) (bs : List Nat) (b : Nat) (z : Str), vs = [.ref y, .int (b : Int), .str z] ∧ Same G H ∧ SoC K At C G y P S bs ∧ P.Ok 64 ∧ SOk P S ∧ (b, z) ∈ S.puts.map putKey ∧
  NewS K At C G H P ⟨S.first, S.puts.filter (fun r => !decide (putKey r = (b, z))), S.stops⟩ Q
def spWithBreath : Sp := fun vs H Q _ => ∃ (G : Hp) (y : Addr) (P : Parts) (S : SongD) (bs : List Nat) (b : Nat), vs = [.ref y, .int (b : Int)] ∧ Same G H ∧ SoC K At C G y P S bs ∧ P.Ok 64 ∧ SOk P S ∧ b ∉ S.stops ∧ S.stops.length < 40 ∧ b < 2 ^ 500 ∧
  NewS K At C G H P ⟨S.first, S.puts, S.stops ++ [b]⟩ Q
def spWithoutB : Sp := fun vs H Q _ => ∃ (G : Hp) (y : Addr) (P : Parts) (S : SongD) (bs : List Nat) (b : Nat), vs = [.ref y, .int (b : Int)] ∧ Same G H ∧ SoC K At C G y P S bs ∧ P.Ok 64 ∧ SOk P S ∧ b ∈ S.stops ∧
  NewS K At C G H P ⟨S.first, S.puts, S.stops.filter (fun d => !decide (d = b))⟩ Q
/-- the song from a root -/
def fromS (P : Parts) (S : SongD) (bs : List Nat) (b : Nat) : SongD := ⟨sungL P S.puts S.first bs b, (S.puts.filter fun r => decide (b < r.1)).map (fun r => (r.1 - b, r.2)), (S.stops.filter fun d => decide (b < d)).map (· - b)⟩
def spFromRoot : Sp := fun vs H Q _ => ∃ (G : Hp) (y : Addr) (P : Parts) (S : SongD) (bs : List Nat) (b : Nat), vs = [.ref y, .int (b : Int)] ∧ Same G H ∧ SoC K At C G y P S bs ∧ P.Ok 64 ∧ SOk P S ∧ Spots S bs ∧ b ∈ bs ∧
  NewS K At C G H P (fromS P S bs b) Q
end
theorem sub_nodup {b : Nat} : ∀ {ds : List Nat}, ds.Nodup → ((ds.filter fun d => decide (b < d)).map (· - b)).Nodup
  | [], _ => .nil
  | d :: ds, h => by
    have h' := List.nodup_cons.mp h
    by_cases c : b < d
    · rw [List.filter_cons_of_pos (by exact decide_eq_true c), List.map_cons]
      refine List.nodup_cons.mpr ⟨fun m => ?_, sub_nodup h'.2⟩
      obtain ⟨e, he, e2⟩ := List.mem_map.mp m
      obtain ⟨h1, h2⟩ := List.mem_filter.mp he
      have h2 := of_decide_eq_true h2
      have : e = d := by omega
      exact h'.1 (this ▸ h1)
    · rw [List.filter_cons_of_neg (by rw [decide_eq_false c]; exact nofun)]
      exact sub_nodup h'.2
theorem subP_nodup {b : Nat} : ∀ {ps : List Put}, (ps.map putKey).Nodup → (((ps.filter fun r => decide (b < r.1)).map (fun r => ((r.1 - b, r.2) : Put))).map putKey).Nodup
  | [], _ => .nil
  | p :: ps, h => by
    rw [List.map_cons] at h
    have h' := List.nodup_cons.mp h
    by_cases c : b < p.1
    · rw [List.filter_cons_of_pos (by exact decide_eq_true c), List.map_cons, List.map_cons]
      refine List.nodup_cons.mpr ⟨fun m => ?_, subP_nodup h'.2⟩
      obtain ⟨e, he, e2⟩ := List.mem_map.mp m
      obtain ⟨q, hq, rfl⟩ := List.mem_map.mp he
      obtain ⟨h1, h2⟩ := List.mem_filter.mp hq
      have h2 := of_decide_eq_true h2
      have e2 : (q.1 - b, q.2.1) = (p.1 - b, p.2.1) := e2
      have e3 := (Prod.mk.inj e2).1
      have e4 := (Prod.mk.inj e2).2
      exact h'.1 (List.mem_map.mpr ⟨q, h1, by show (q.1, q.2.1) = (p.1, p.2.1); rw [e4, show q.1 = p.1 by omega]⟩)
    · rw [List.filter_cons_of_neg (by rw [decide_eq_false c]; exact nofun)]
      exact subP_nodup h'.2
theorem SOk.from {P : Parts} {S : SongD} {bs : List Nat} {b lim : Nat} (ok : P.Ok lim) (h : SOk P S) : SOk P (fromS P S bs b) := by
  refine ⟨sung_ok ok h.first h.notes bs b, fun r hr => ?_, fun r hr => ?_, subP_nodup h.putN, ?_, fun d hd => ?_, sub_nodup h.stopN, ?_⟩
  · obtain ⟨q, hq, rfl⟩ := List.mem_map.mp hr
    exact h.puts q (List.mem_filter.mp hq).1
  · obtain ⟨q, hq, rfl⟩ := List.mem_map.mp hr
    exact Nat.lt_of_le_of_lt (Nat.sub_le _ _) (h.near q (List.mem_filter.mp hq).1)
  · show ((S.puts.filter _).map _).length ≤ 100
    rw [List.length_map]
    exact Nat.le_trans (List.length_filter_le ..) h.putL
  · obtain ⟨q, hq, rfl⟩ := List.mem_map.mp hd
    exact Nat.lt_of_le_of_lt (Nat.sub_le _ _) (h.stops q (List.mem_filter.mp hq).1)
  · show ((S.stops.filter _).map _).length ≤ 100
    rw [List.length_map]
    exact Nat.le_trans (List.length_filter_le ..) h.stopL
theorem filter_keys {f : Put → Bool} {ps : List Put} (h : (ps.map putKey).Nodup) : ((ps.filter f).map putKey).Nodup := h.sublist (List.filter_sublist.map _)
theorem SOk.less {P : Parts} {S : SongD} (h : SOk P S) (f : Put → Bool) : SOk P ⟨S.first, S.puts.filter f, S.stops⟩ :=
  ⟨h.first, fun r hr => h.puts r (List.mem_filter.mp hr).1, fun r hr => h.near r (List.mem_filter.mp hr).1, filter_keys h.putN, Nat.le_trans (List.length_filter_le ..) h.putL, h.stops, h.stopN, h.stopL⟩
theorem SOk.lessB {P : Parts} {S : SongD} (h : SOk P S) (f : Nat → Bool) : SOk P ⟨S.first, S.puts, S.stops.filter f⟩ :=
  ⟨h.first, h.puts, h.near, h.putN, h.putL, fun d hd => h.stops d (List.mem_filter.mp hd).1, h.stopN.sublist List.filter_sublist, Nat.le_trans (List.length_filter_le ..) h.stopL⟩
theorem nodup_snoc {α : Type} {l : List α} {a : α} (h : l.Nodup) (n : a ∉ l) : (l ++ [a]).Nodup := by
  rw [List.nodup_append]
  exact ⟨h, List.pairwise_singleton _ _, fun x hx y hy e => n (by rw [← List.mem_singleton.mp hy, ← e]; exact hx)⟩
theorem SOk.more {P : Parts} {S : SongD} (h : SOk P S) {b n : Nat} {z : Str} (hn : (b, z) ∉ S.puts.map putKey) (hl : S.puts.length < 40) (hz : z ∈ P.names) (hno : n < P.notes) (hb : b < 2 ^ 500) : SOk P ⟨S.first, S.puts ++ [(b, z, n)], S.stops⟩ := by
  refine ⟨h.first, fun r hr => ?_, fun r hr => ?_, ?_, ?_, h.stops, h.stopN, h.stopL⟩
  · rcases List.mem_append.mp hr with hr | hr
    · exact h.puts r hr
    · rw [List.mem_singleton.mp hr]; exact ⟨hz, hno⟩
  · rcases List.mem_append.mp hr with hr | hr
    · exact h.near r hr
    · rw [List.mem_singleton.mp hr]; exact hb
  · rw [List.map_append]
    exact nodup_snoc h.putN hn
  · show (S.puts ++ _).length ≤ 100
    rw [List.length_append]
    show S.puts.length + 1 ≤ 100
    omega
theorem SOk.moreB {P : Parts} {S : SongD} (h : SOk P S) {b : Nat} (hn : b ∉ S.stops) (hl : S.stops.length < 40) (hb : b < 2 ^ 500) : SOk P ⟨S.first, S.puts, S.stops ++ [b]⟩ := by
  refine ⟨h.first, h.puts, h.near, h.putN, h.putL, fun d hd => ?_, nodup_snoc h.stopN hn, ?_⟩
  · rcases List.mem_append.mp hd with hd | hd
    · exact h.stops d hd
    · rw [List.mem_singleton.mp hd]; exact hb
  · show (S.stops ++ _).length ≤ 100
    rw [List.length_append]
    show S.stops.length + 1 ≤ 100
    omega
/-! lists of new tuples -/
def TupsAll {β : Type} (f : β → List V) (H : Hp) (xs : List V) (ys : List β) : Prop := xs.length = ys.length ∧ ∀ (i : Nat) (x : V), xs[i]? = some x → ∃ y, ys[i]? = some y ∧ ∃ a, x = .ref a ∧ H a = some (.tup (f y))
section
variable {β : Type} {f : β → List V}
theorem TupsAll.tups {H H' : Hp} (s : ∀ b ts, H b = some (.tup ts) → H' b = some (.tup ts)) {xs : List V} {ys : List β} (h : TupsAll f H xs ys) : TupsAll f H' xs ys := ⟨h.1, fun i x e => let ⟨y, a, b, e2, c⟩ := h.2 i x e; ⟨y, a, b, e2, s _ _ c⟩⟩
theorem TupsAll.same {H H' : Hp} (s : Same H H') {xs : List V} {ys : List β} (h : TupsAll f H xs ys) : TupsAll f H' xs ys := h.tups fun b ts e => s _ _ e
theorem TupsAll.nil {H : Hp} : TupsAll f H [] [] := ⟨rfl, fun i x e => by simp at e⟩
theorem TupsAll.snoc {H : Hp} {xs : List V} {ys : List β} (h : TupsAll f H xs ys) {x : V} {y : β} {a : Addr} (hx : x = .ref a) (ha : H a = some (.tup (f y))) : TupsAll f H (xs ++ [x]) (ys ++ [y]) := by
  refine ⟨by rw [List.length_append, List.length_append, h.1]; rfl, fun i z e => ?_⟩
  rcases Nat.lt_trichotomy i xs.length with c | c | c
  · rw [List.getElem?_append_left c] at e
    obtain ⟨w, q, b⟩ := h.2 i z e
    exact ⟨w, by rw [List.getElem?_append_left (by rw [← h.1]; exact c)]; exact q, b⟩
  · subst c
    rw [List.getElem?_concat_length] at e
    cases e
    exact ⟨y, by rw [h.1, List.getElem?_concat_length], a, hx, ha⟩
  · rw [List.getElem?_eq_none (by rw [List.length_append]; simp; omega)] at e
    cases e
/-- the list itself grows, the tuples stay -/
theorem TupsAll.grow {H : Hp} {D q : Addr} {xs : List V} {ys : List β} {l : List V} {o : HO} (h : TupsAll f H xs ys) (hD : H D = some (.lst l)) (nq : H q = none) {y : β} (x : V) (hx : x = .ref q) : TupsAll f (upd (upd H q (.tup (f y))) D o) (xs ++ [x]) (ys ++ [y]) := by
  have nDq : D ≠ q := ne_of_none hD nq
  refine TupsAll.snoc (h.tups fun b2 ts e => ?_) hx ?_
  · rw [upd_ne (fun u => by rw [u, hD] at e; cases e), upd_ne (ne_of_none e nq)]
    exact e
  · rw [upd_ne nDq.symm, upd_same]
theorem fresh_inv {H0 H : Hp} {b : Addr} {o : HO} (e : fresh H0 H b = some o) : H0 b = none ∧ H b = some o := by
  unfold fresh at e
  by_cases c : H0 b = none
  · rw [if_pos c] at e; exact ⟨c, e⟩
  · rw [if_neg c] at e; cases e
theorem TupsAll.growF {H0 H : Hp} {D q : Addr} {xs : List V} {ys : List β} {l : List V} {o : HO} (h : TupsAll f (fresh H0 H) xs ys) (hD : H D = some (.lst l)) (nq : H q = none) (n0 : H0 q = none) {y : β} (x : V) (hx : x = .ref q) : TupsAll f (fresh H0 (upd (upd H q (.tup (f y))) D o)) (xs ++ [x]) (ys ++ [y]) := by
  have nDq : D ≠ q := ne_of_none hD nq
  refine TupsAll.snoc (h.tups fun b2 ts e => ?_) hx ?_
  · obtain ⟨e0, e1⟩ := fresh_inv e
    rw [fresh_at e0, upd_ne (fun u => by rw [u, hD] at e1; cases e1), upd_ne (ne_of_none e1 nq)]
    exact e1
  · rw [fresh_at n0, upd_ne nDq.symm, upd_same]
theorem TupsAll.freshMore {G H0 H1 H2 : Hp} {xs : List V} {ys : List β} (h : TupsAll f (fresh H0 H1) xs ys) (s : Same H1 H2) : TupsAll f (more G H0 H2) xs ys := h.tups fun b ts e => by
  obtain ⟨e0, e1⟩ := fresh_inv e
  exact more_new e0 (s _ _ e1)
end
def putV (r : Put) : List V := [.int (r.1 : Int), .str r.2.1, .int (r.2.2 : Int)]
theorem putsAll_dp {K : PySem.W.Frag} {H : Hp} {xs : List V} {ys : List Put} (h : TupsAll putV H xs ys) : DpAll K H xs (ys.map putD) := by
  refine dpAll_mk (by rw [List.length_map]; exact h.1) fun i x d e1 e2 => ?_
  obtain ⟨y, e3, a, rfl, e4⟩ := h.2 i x e1
  rw [List.getElem?_map, e3] at e2
  cases e2
  exact .tup (.inl (.of e4)) (.cons (.int _) (.cons (.str _) (.cons (.int _) .nil)))
end HG

/-! songs whose handed lists may change behind: the lists are read as they stand, only what they hold is kept -/
namespace HG
open PySem PySem.Spec PyProof.Rows L2 HF
structure SIn3 (K : PySem.W.Frag) (At : Hp → Addr → Parts → Prop) (G H : Hp) (x : Addr) (v cv bv : V) (P : Parts) (S : SongD) : Prop where
  choir : At G x P
  ok : P.Ok 64
  first : TrT G v S.first
  cues : ∃ a xs, cv = .ref a ∧ (SqL K H a xs ∨ SqT K H a xs) ∧ DpAll K G xs (S.puts.map putD)
  breaths : ∃ a, bv = .ref a ∧ (SqL K H a (nVs S.stops) ∨ SqT K H a (nVs S.stops))
  sok : SOk P S
theorem SIn2.three {K : PySem.W.Frag} {At : Hp → Addr → Parts → Prop} {G H : Hp} {x : Addr} {v cv bv : V} {P : Parts} {S : SongD} (g : Same G H) (h : SIn2 K At G x v cv bv P S) : SIn3 K At G H x v cv bv P S := by
  obtain ⟨ca, cxs, rfl, hca, hcd⟩ := ltD_inv h.cues
  obtain ⟨ba, bxs, rfl, hba, hbd⟩ := ltD_inv h.breaths
  obtain rfl := dpAll_nDs hbd
  exact ⟨h.choir, h.ok, h.first, ⟨ca, cxs, rfl, sqTL_same g hca, hcd⟩, ⟨ba, rfl, sqTL_same g hba⟩, h.sok⟩
theorem SIn3.same {K : PySem.W.Frag} {At : Hp → Addr → Parts → Prop} {G H H' : Hp} {x : Addr} {v cv bv : V} {P : Parts} {S : SongD} (s : Same H H') (h : SIn3 K At G H x v cv bv P S) : SIn3 K At G H' x v cv bv P S := by
  obtain ⟨ca, cxs, rfl, hca, hcd⟩ := h.cues
  obtain ⟨ba, rfl, hba⟩ := h.breaths
  exact ⟨h.choir, h.ok, h.first, ⟨ca, cxs, rfl, sqTL_same s hca, hcd⟩, ⟨ba, rfl, sqTL_same s hba⟩, h.sok⟩
theorem SIn3.two {K : PySem.W.Frag} {At : Hp → Addr → Parts → Prop} {Cc : Addr} (CK : ChoirK Cc At) {G H : Hp} {x : Addr} {v cv bv : V} {P : Parts} {S : SongD} (g : Same G H) (h : SIn3 K At G H x v cv bv P S) : SIn2 K At H x v cv bv P S := by
  obtain ⟨ca, cxs, rfl, hca, hcd⟩ := h.cues
  obtain ⟨ba, rfl, hba⟩ := h.breaths
  have hcd' := dpAll_same g _ _ hcd
  refine ⟨CK.mono g h.choir, h.ok, h.first.same g, ?_, ?_, h.sok⟩
  · rcases hca with q | q
    · exact .inl (.lst q hcd')
    · exact .inr (.tup q hcd')
  · rcases hba with q | q
    · exact .inl (.lst q (dpAll_nats2 _))
    · exact .inr (.tup q (dpAll_nats2 _))
theorem seq_kx {K : PySem.W.Frag} {y C dy : Addr} {fs : List (Str × V)} {H H' : Hp} (hy : H y = some (.ins C dy fs)) (k : Kx y H H') {a : Addr} {xs : List V} (h : SqL K H a xs ∨ SqT K H a xs) : SqL K H' a xs ∨ SqT K H' a xs := by
  refine h.imp (fun h => ?_) (fun h => ?_)
  · rcases h with (h | ⟨q, h⟩) | h
    · exact .inl (.inl (k _ _ h fun z => by rw [z, hy] at h; cases h))
    · exact .inl (.inr ⟨q, k _ _ h fun z => by rw [z, hy] at h; cases h⟩)
    · exact .inr h
  · rcases h with (h | ⟨q, h⟩) | h
    · exact .inl (.inl (k _ _ h fun z => by rw [z, hy] at h; cases h))
    · exact .inl (.inr ⟨q, k _ _ h fun z => by rw [z, hy] at h; cases h⟩)
    · exact .inr h
def spFillS3 (K : PySem.W.Frag) (At : Hp → Addr → Parts → Prop) (C : Addr) : Sp := fun vs H Q _ => ∃ (G : Hp) (y dy x : Addr) (v cv bv : V) (P : Parts) (S : SongD) (fs0 : List (Str × V)), vs = [.ref y, .ref x, v, cv, bv] ∧ Same G H ∧ H y = some (.ins C dy fs0) ∧ (∀ m ∈ smeths, fs0.lookup m = none) ∧ fs0.length ≤ 100 ∧ H dy = some (.own y) ∧ G y = none ∧ G dy = none ∧ SIn3 K At G H x v cv bv P S ∧
  ∀ (H' : Hp) (fs : List (Str × V)) (bs : List Nat), (∀ b o, H b = some o → b ≠ y → H' b = some o) → H' y = some (.ins C dy fs) → fs.length ≤ fs0.length + 5 → (∀ m ∈ smeths, fs.lookup m = none) → Spots S bs → SoC K At C (plus y dy (more G H H') H') y P S bs → Q .non H'
def spMakeS3 (K : PySem.W.Frag) (At : Hp → Addr → Parts → Prop) (C : Addr) : Sp := fun vs H Q _ => ∃ (G : Hp) (y dy x : Addr) (v cv bv : V) (P : Parts) (S : SongD), vs = [.ref y, .ref x, v, cv, bv] ∧ Same G H ∧ H y = some (.ins C dy []) ∧ H dy = some (.own y) ∧ G y = none ∧ G dy = none ∧ SIn3 K At G H x v cv bv P S ∧ SNear S ∧
  ∀ (H' : Hp) (fs : List (Str × V)) (bs : List Nat), (∀ b o, H b = some o → b ≠ y → H' b = some o) → H' y = some (.ins C dy fs) → fs.length ≤ 5 → (∀ m ∈ smeths, fs.lookup m = none) → Spots S bs → SoC K At C (plus y dy (more G H H') H') y P S bs → Q .non H'
theorem fill3_imp (K : PySem.W.Frag) (At : Hp → Addr → Parts → Prop) (C : Addr) : ∀ vs H Q E, spFillS2 K At C vs H Q E → spFillS3 K At C vs H Q E := fun vs H Q E ⟨G, y, dy, x, v, cv, bv, P, S, fs0, e, g, h1, h2, h3, h4, h5, h6, i, k⟩ => ⟨G, y, dy, x, v, cv, bv, P, S, fs0, e, g, h1, h2, h3, h4, h5, h6, i.three g, k⟩
theorem make3_imp (K : PySem.W.Frag) (At : Hp → Addr → Parts → Prop) (C : Addr) : ∀ vs H Q E, spMakeS2 K At C vs H Q E → spMakeS3 K At C vs H Q E := fun vs H Q E ⟨G, y, dy, x, v, cv, bv, P, S, e, g, h1, h2, h3, h4, i, n, k⟩ => ⟨G, y, dy, x, v, cv, bv, P, S, e, g, h1, h2, h3, h4, i.three g, n, k⟩
end HG

/-! roads: songs with another note at one place -/
namespace HG
open PySem PySem.Spec PyProof.Rows L2 HF
/-- the note of a source -/
def srcN (P : Parts) (S : SongD) (y : Spt) : Nat := (cueAt S.puts y.1 y.2).getD (S.first.getD (P.names.idxOf y.2) 0)
/-- S', that differs from S in the note of one place alone -/
structure OthOk (P : Parts) (S : SongD) (bs : List Nat) (pl : Spt) (n : Nat) (S' : SongD) : Prop where
  name : pl.2 ∈ P.names
  note : n < P.notes
  sok : SOk P S'
  near : SNear S'
  spots : Spots S' bs
  same : ∀ b z, (cueAt S'.puts b z).isSome = (cueAt S.puts b z).isSome
  src : ∀ y : Spt, y.2 ∈ P.names → stepE P S.puts bs y = none → srcN P S' y = if y = pl then n else srcN P S y
theorem set_parts {α : Type} {l : List α} {i : Nat} {a : α} (h : i < l.length) : l.set i a = l.take i ++ a :: l.drop (i + 1) := by
  rw [List.set_eq_take_append_cons_drop, if_pos h]
theorem stOk_set {P : Parts} {st : List Nat} {i n : Nat} (h : StOk P st) (hn : n < P.notes) : StOk P (st.set i n) := by
  refine ⟨by rw [List.length_set]; exact h.1, fun d hd => ?_⟩
  rcases List.mem_or_eq_of_mem_set hd with q | q
  · exact h.2 d q
  · rw [q]; exact hn
/-- another first note, of a voice that isn't cued at beat 0 -/
theorem oth_first {P : Parts} {lim : Nat} {S : SongD} {bs : List Nat} (ok : P.Ok lim) (sok : SOk P S) (near : SNear S) (hs : Spots S bs) {i n : Nat} {z : Str} (hz : P.names[i]? = some z) (hn : n < P.notes) (hc : (0, z) ∉ S.puts.map putKey) :
    OthOk P S bs (0, z) n { S with first := S.first.set i n } := by
  have hzm : z ∈ P.names := List.mem_of_getElem? hz
  have hidx : P.names.idxOf z = i := by
    have h1 := idx_at hzm
    obtain ⟨a1, b1⟩ := List.getElem?_eq_some_iff.mp hz
    obtain ⟨a2, b2⟩ := List.getElem?_eq_some_iff.mp h1
    exact (List.getElem_inj ok.nodup (h₀ := a2) (h₁ := a1)).mp (by rw [b1, b2])
  have hi : i < S.first.length := by rw [sok.first.1, ← names_len]; exact (List.getElem?_eq_some_iff.mp hz).1
  refine ⟨hzm, hn, ⟨stOk_set sok.first hn, sok.puts, sok.near, sok.putN, sok.putL, sok.stops, sok.stopN, sok.stopL⟩, ⟨near.puts, near.stops, near.putL, near.stopL⟩, hs, fun b z => rfl, fun y hy hst => ?_⟩
  unfold srcN
  show (cueAt S.puts y.1 y.2).getD ((S.first.set i n).getD (P.names.idxOf y.2) 0) = _
  by_cases c : y = (0, z)
  · rw [if_pos c, c]
    have hcu : cueAt S.puts 0 z = none := by
      cases e : cueAt S.puts 0 z with
      | none => rfl
      | some k => exact absurd (List.mem_map.mpr ⟨_, cueAt_mem e, rfl⟩) hc
    show (cueAt S.puts 0 z).getD ((S.first.set i n).getD (P.names.idxOf z) 0) = n
    rw [hcu, hidx, List.getD_eq_getElem?_getD, List.getElem?_set_self hi]
    rfl
  · rw [if_neg c]
    cases e : cueAt S.puts y.1 y.2 with
    | some k => rfl
    | none =>
      have hb : y.1 = 0 := by
        unfold stepE at hst
        by_cases q : y.1 = 0
        · exact q
        · rw [if_neg (fun w => w.elim q (fun u => by rw [e] at u; cases u))] at hst
          cases hst
      have hne : i ≠ P.names.idxOf y.2 := fun q => c (Prod.ext hb (by
        have h1 := idx_at hy
        rw [← q, hz] at h1
        exact (Option.some.inj h1).symm))
      show (S.first.set i n).getD _ 0 = S.first.getD _ 0
      rw [List.getD_eq_getElem?_getD, List.getElem?_set_ne hne, ← List.getD_eq_getElem?_getD]
theorem set_keys {ps : List Put} {i : Nat} {r : Put} {n : Nat} (h : ps[i]? = some r) : (ps.set i (r.1, r.2.1, n)).map putKey = ps.map putKey := by
  rw [List.map_set]
  refine List.ext_getElem? fun j => ?_
  by_cases c : i = j
  · subst c
    have hi := (List.getElem?_eq_some_iff.mp h).1
    rw [List.getElem?_set_self (by rw [List.length_map]; exact hi), List.getElem?_map, h]
    rfl
  · rw [List.getElem?_set_ne c]
theorem cue_set {ps : List Put} {i : Nat} {r : Put} {n : Nat} (nd : (ps.map putKey).Nodup) (h : ps[i]? = some r) (b : Nat) (z : Str) : cueAt (ps.set i (r.1, r.2.1, n)) b z = if (b, z) = (r.1, r.2.1) then some n else cueAt ps b z := by
  have nd' : ((ps.set i (r.1, r.2.1, n)).map putKey).Nodup := by rw [set_keys h]; exact nd
  have hi := (List.getElem?_eq_some_iff.mp h).1
  by_cases c : (b, z) = (r.1, r.2.1)
  · rw [if_pos c]
    have e1 : b = r.1 := congrArg (·.1) c
    have e2 : z = r.2.1 := congrArg (·.2) c
    subst e1 e2
    exact cueAt_of nd' (List.mem_set hi _)
  · rw [if_neg c]
    cases e : cueAt ps b z with
    | some k =>
      refine cueAt_of nd' ?_
      obtain ⟨j, hj, ej⟩ := List.mem_iff_getElem.mp (cueAt_mem e)
      have hne : i ≠ j := fun q => by
        subst q
        have : r = (b, z, k) := by rw [List.getElem?_eq_getElem hj, ej] at h; exact (Option.some.inj h).symm
        exact c (by rw [this])
      refine List.mem_iff_getElem?.mpr ⟨j, ?_⟩
      rw [List.getElem?_set_ne hne, List.getElem?_eq_getElem hj, ej]
    | none =>
      cases e2 : cueAt (ps.set i (r.1, r.2.1, n)) b z with
      | none => rfl
      | some k =>
        rcases List.mem_or_eq_of_mem_set (cueAt_mem e2) with q | q
        · rw [cueAt_of nd q] at e; cases e
        · have e3 : b = r.1 := congrArg (·.1) q
          have e4 : z = r.2.1 := congrArg (·.2.1) q
          exact absurd (by rw [e3, e4]) c
/-- another note of a cue -/
theorem oth_put {P : Parts} {S : SongD} {bs : List Nat} (sok : SOk P S) (near : SNear S) (hs : Spots S bs) {i n : Nat} {r : Put} (hr : S.puts[i]? = some r) (hn : n < P.notes) : OthOk P S bs (r.1, r.2.1) n { S with puts := S.puts.set i (r.1, r.2.1, n) } := by
  have hrm : r ∈ S.puts := List.mem_of_getElem? hr
  have hm : ∀ q ∈ S.puts.set i (r.1, r.2.1, n), q ∈ S.puts ∨ q = (r.1, r.2.1, n) := fun q hq => List.mem_or_eq_of_mem_set hq
  have hmap : (S.puts.set i (r.1, r.2.1, n)).map (·.1) = S.puts.map (·.1) := by
    have := congrArg (List.map (fun x : Nat × Str => x.1)) (set_keys (n := n) hr)
    rw [List.map_map, List.map_map] at this
    exact this
  have hlen : (S.puts.set i (r.1, r.2.1, n)).length = S.puts.length := List.length_set
  refine ⟨(sok.puts r hrm).1, hn, ⟨sok.first, fun q hq => ?_, fun q hq => ?_, by rw [set_keys hr]; exact sok.putN, by rw [hlen]; exact sok.putL, sok.stops, sok.stopN, sok.stopL⟩, ⟨fun q hq => ?_, near.stops, by rw [hlen]; exact near.putL, near.stopL⟩, ⟨hs.1, fun b => ?_⟩, fun b z => ?_, fun y hy hst => ?_⟩
  · rcases hm q hq with h | h
    · exact sok.puts q h
    · rw [h]; exact ⟨(sok.puts r hrm).1, hn⟩
  · rcases hm q hq with h | h
    · exact sok.near q h
    · rw [h]; exact sok.near r hrm
  · rcases hm q hq with h | h
    · exact near.puts q h
    · rw [h]; exact near.puts r hrm
  · show b ∈ bs ↔ b = 0 ∨ b ∈ S.stops ∨ b ∈ (S.puts.set i (r.1, r.2.1, n)).map (·.1)
    rw [hmap]
    exact hs.2 b
  · show (cueAt (S.puts.set i (r.1, r.2.1, n)) b z).isSome = _
    rw [cue_set sok.putN hr]
    by_cases c : (b, z) = (r.1, r.2.1)
    · rw [if_pos c]
      have e1 : b = r.1 := congrArg (·.1) c
      have e2 : z = r.2.1 := congrArg (·.2) c
      rw [e1, e2, cueAt_of sok.putN (n := r.2.2) hrm]
      rfl
    · rw [if_neg c]
  · unfold srcN
    show (cueAt (S.puts.set i (r.1, r.2.1, n)) y.1 y.2).getD (S.first.getD (P.names.idxOf y.2) 0) = _
    rw [cue_set sok.putN hr]
    by_cases c : y = (r.1, r.2.1)
    · have c' : (y.1, y.2) = (r.1, r.2.1) := c
      rw [if_pos c, if_pos c']
      rfl
    · have c' : ¬ (y.1, y.2) = (r.1, r.2.1) := c
      rw [if_neg c, if_neg c']
/-- what is sung in the other song -/
theorem oth_note {P : Parts} {lim : Nat} {S S' : SongD} {bs : List Nat} {pl : Spt} {n : Nat} (ok : P.Ok lim) (sok : SOk P S) (hs : Spots S bs) (o : OthOk P S bs pl n S') {x : Spt} (hz : x.2 ∈ P.names) :
    ∃ m y, roadL P S.puts bs x = m ++ [y] ∧ y.2 ∈ P.names ∧ stepE P S.puts bs y = none ∧ roadL P S'.puts bs x = roadL P S.puts bs x ∧ sungN P S'.puts S'.first bs x = if y = pl then (tabL P S.puts bs x).getD n 0 else sungN P S.puts S.first bs x := by
  obtain ⟨m, y, h1, h2, h3, h4⟩ := road_note ok sok hs x.1 x (Nat.le_refl _) hz
  obtain ⟨m', y', g1, g2, g3, g4⟩ := road_note ok o.sok o.spots x.1 x (Nat.le_refl _) hz
  have er := road_congr (P := P) (bs := bs) o.same x
  have hyy : y' = y := by
    rw [er, h1] at g1
    have q := (List.append_inj' g1 rfl).2
    injection q with q _
    exact q.symm
  subst hyy
  refine ⟨m, y', h1, h3, h2, er, ?_⟩
  have e1 : sungN P S'.puts S'.first bs y' = srcN P S' y' := by
    have := sung_source ok o.sok o.spots (b := y'.1) (z := y'.2) g3 g2
    exact this
  have e2 : sungN P S.puts S.first bs y' = srcN P S y' := sung_source ok sok hs (b := y'.1) (z := y'.2) h3 h2
  rw [g4, tab_congr (P := P) (bs := bs) o.same x, e1, o.src y' h3 h2]
  by_cases c : y' = pl
  · rw [if_pos c, if_pos c]
  · rw [if_neg c, if_neg c, h4, e2]
theorem catX {K : PySem.W.Frag} {H : Hp} {a b : Addr} {xs ys : List V} {Q : VK} (h1 : H a = some (.tup xs)) (h2 : H b = some (.tup ys)) (hl : xs.length + ys.length ≤ sizeLine) (k : ∀ (q : Addr) (H' : Hp), Same H H' → H' q = some (.tup (xs ++ ys)) → Q (.ref q) H') : rCatA K (.ref a) (.ref b) H Q :=
  ⟨a, b, xs, ys, rfl, rfl, .inl (.of h1), .inl (.of h2), hl, fun e => k b H (.refl _) (by rw [e]; exact h2), fun _ e => k a H (.refl _) (by rw [e, List.append_nil]; exact h1), fun _ _ p np => k p _ (same_upd np) upd_same⟩
abbrev OthX := Spt × Nat × SongD
def OthAt (K : PySem.W.Frag) (G : Hp) (x : V) (o : OthX) : Prop := ∃ (a pl : Addr) (sd : V), x = .ref a ∧ G a = some (.tup [.ref pl, .int (o.2.1 : Int), sd]) ∧ G pl = some (.tup [.int (o.1.1 : Int), .str o.1.2]) ∧ SongAt K G sd o.2.2
theorem OthAt.same {K : PySem.W.Frag} {G G' : Hp} (s : Same G G') {x : V} {o : OthX} (h : OthAt K G x o) : OthAt K G' x o := let ⟨a, pl, sd, e, h1, h2, h3⟩ := h; ⟨a, pl, sd, e, s _ _ h1, s _ _ h2, songAt_same s h3⟩
def OthAll (K : PySem.W.Frag) (G : Hp) (xs : List V) (os : List OthX) : Prop := xs.length = os.length ∧ ∀ (i : Nat) (x : V), xs[i]? = some x → ∃ o, os[i]? = some o ∧ OthAt K G x o
theorem OthAll.same {K : PySem.W.Frag} {G G' : Hp} (s : Same G G') {xs : List V} {os : List OthX} (h : OthAll K G xs os) : OthAll K G' xs os := ⟨h.1, fun i x e => let ⟨o, a, b⟩ := h.2 i x e; ⟨o, a, b.same s⟩⟩
theorem OthAll.snoc {K : PySem.W.Frag} {G : Hp} {xs : List V} {os : List OthX} (h : OthAll K G xs os) {x : V} {o : OthX} (hx : OthAt K G x o) : OthAll K G (xs ++ [x]) (os ++ [o]) := by
  refine ⟨by rw [List.length_append, List.length_append, h.1]; rfl, fun i z e => ?_⟩
  rcases Nat.lt_trichotomy i xs.length with c | c | c
  · rw [List.getElem?_append_left c] at e
    obtain ⟨w, a, b⟩ := h.2 i z e
    exact ⟨w, by rw [List.getElem?_append_left (by rw [← h.1]; exact c)]; exact a, b⟩
  · subst c
    rw [List.getElem?_concat_length] at e
    cases e
    exact ⟨o, by rw [h.1, List.getElem?_concat_length], hx⟩
  · rw [List.getElem?_eq_none (by rw [List.length_append]; simp; omega)] at e
    cases e
def spOthers (K : PySem.W.Frag) : Sp := fun vs H Q _ => ∃ (p : Addr) (v sv : V) (P : Parts) (S : SongD) (bs : List Nat), vs = [.ref p, v, sv] ∧ Bag H p ∧ Dp K (off p H) v (partsD P) ∧ P.Ok 64 ∧ SongAt K (off p H) sv S ∧ SOk P S ∧ SNear S ∧ Spots S bs ∧
  ∀ (q : Addr) (H' : Hp) (xs : List V) (os : List OthX), Stp p H H' → off p H' q = some (.lst xs) → OthAll K (off p H') xs os → (∀ o ∈ os, OthOk P S bs o.1 o.2.1 o.2.2) → (∀ y : Spt, y.2 ∈ P.names → stepE P S.puts bs y = none → ∃ o ∈ os, o.1 = y) → os.length ≤ 200 → Q (.ref q) H'
def MadeAt (K : PySem.W.Frag) (At : Hp → Addr → Parts → Prop) (C : Addr) (P : Parts) (bs : List Nat) (G : Hp) (x : V) (o : OthX) : Prop := ∃ (a pl yy : Addr), x = .ref a ∧ G a = some (.tup [.ref pl, .int (o.2.1 : Int), .ref yy]) ∧ G pl = some (.tup [.int (o.1.1 : Int), .str o.1.2]) ∧ SoC K At C G yy P o.2.2 bs
def MadeAll (K : PySem.W.Frag) (At : Hp → Addr → Parts → Prop) (C : Addr) (P : Parts) (bs : List Nat) (G : Hp) (xs : List V) (os : List OthX) : Prop := xs.length = os.length ∧ ∀ (i : Nat) (x : V), xs[i]? = some x → ∃ o, os[i]? = some o ∧ MadeAt K At C P bs G x o
theorem MadeAll.same {K : PySem.W.Frag} {At : Hp → Addr → Parts → Prop} {Cc : Addr} (CK : ChoirK Cc At) {C : Addr} {P : Parts} {bs : List Nat} {G G' : Hp} (s : Same G G') {xs : List V} {os : List OthX} (h : MadeAll K At C P bs G xs os) : MadeAll K At C P bs G' xs os :=
  ⟨h.1, fun i x e => let ⟨o, q, a, pl, yy, e1, h1, h2, h3⟩ := h.2 i x e; ⟨o, q, a, pl, yy, e1, s _ _ h1, s _ _ h2, h3.same CK s⟩⟩
theorem MadeAll.snoc {K : PySem.W.Frag} {At : Hp → Addr → Parts → Prop} {C : Addr} {P : Parts} {bs : List Nat} {G : Hp} {xs : List V} {os : List OthX} (h : MadeAll K At C P bs G xs os) {x : V} {o : OthX} (hx : MadeAt K At C P bs G x o) : MadeAll K At C P bs G (xs ++ [x]) (os ++ [o]) := by
  refine ⟨by rw [List.length_append, List.length_append, h.1]; rfl, fun i z e => ?_⟩
  rcases Nat.lt_trichotomy i xs.length with c | c | c
  · rw [List.getElem?_append_left c] at e
    obtain ⟨w, a, b⟩ := h.2 i z e
    exact ⟨w, by rw [List.getElem?_append_left (by rw [← h.1]; exact c)]; exact a, b⟩
  · subst c
    rw [List.getElem?_concat_length] at e
    cases e
    exact ⟨o, by rw [h.1, List.getElem?_concat_length], hx⟩
  · rw [List.getElem?_eq_none (by rw [List.length_append]; simp; omega)] at e
    cases e
theorem last_ofS {H : Hp} {xs : List V} {m : List Spt} {y : Spt} (h : SptsAll H xs (m ++ [y])) : ∃ zs b, xs = zs ++ [.ref b] ∧ H b = some (.tup [.int (y.1 : Int), .str y.2]) := by
  rcases List.eq_nil_or_concat xs with e | ⟨zs, x, e⟩
  · have := h.1
    rw [e, List.length_append] at this
    simp at this
  · rw [List.concat_eq_append] at e
    have hl : zs.length = m.length := by
      have := h.1
      rw [e, List.length_append, List.length_append] at this
      exact Nat.add_right_cancel this
    obtain ⟨y', g1, b, g2, g3⟩ := h.2 zs.length x (by rw [e, List.getElem?_concat_length])
    rw [hl, List.getElem?_concat_length] at g1
    cases g1
    exact ⟨zs, b, by rw [e, g2], g3⟩
end HG

/-! roads of songs that are gone on; how long they are -/
namespace HG
open PySem PySem.Spec PyProof.Rows L2 HF
theorem part_c {n : Int} {σ : L2.St} {H : Hp} {R : Option Int → Hp → Prop} (h : R (some n) H) : tPart (tC (.int n)) σ H R := ⟨_, rfl, h⟩
theorem no_part {σ : L2.St} {H : Hp} {R : Option Int → Hp → Prop} (h : R none H) : tNoPart σ H R := h
/-- few roots, or none far -/
def RoadOk (bs : List Nat) : Prop := bs.length ≤ 26 ∨ ∀ b ∈ bs, b ≤ 60
section
variable {P : Parts} {ps : List Put} {S : SongD} {bs : List Nat} (p2 : 2 ≤ P.pace) (hs : Spots S bs)
include p2 hs
theorem road_len2 : ∀ (n : Nat) (x : Spt), x.1 ≤ n → (roadL P ps bs x).length ≤ (x.1 - lastB bs x.1).log2 + lastB bs x.1 + 3 := by
  intro n
  induction n with
  | zero =>
    intro x hx
    have e : stepE P ps bs x = none := if_pos (.inl (by omega))
    rw [road_none e]
    show 1 ≤ _
    omega
  | succ n ih =>
    intro x hx
    cases e : stepE P ps bs x with
    | none =>
      rw [road_none e]
      show 1 ≤ _
      omega
    | some y =>
      have hy := step_lt p2 hs e
      have h := ih y (by omega)
      have hz0 : y.1 = 0 → (roadL P ps bs y).length = 1 := fun q => by rw [road_none (if_pos (.inl q))]; rfl
      rw [road_some p2 hs e, List.length_cons]
      obtain ⟨h0, ey⟩ := step_some e
      have hy1 : y.1 = lastB bs x.1 + (x.1 - lastB bs x.1) / P.pace := by rw [ey]
      clear ey e
      obtain ⟨a1, a2, a3⟩ := lastB_is hs (show 0 < x.1 by omega)
      have hw : (x.1 - lastB bs x.1) / P.pace < x.1 - lastB bs x.1 := Nat.div_lt_self (by omega) (by omega)
      generalize hL : lastB bs x.1 = s at *
      generalize hd : (x.1 - s) / P.pace = d at *
      generalize (roadL P ps bs y).length = len at *
      generalize y.1 = yb at *
      subst hy1
      by_cases c : d = 0
      · subst c
        have e0 : s + 0 = s := Nat.add_zero s
        rw [e0] at h
        by_cases q : s = 0
        · subst q
          have := hz0 rfl
          omega
        · obtain ⟨b1, b2, b3⟩ := lastB_is hs (show 0 < s by omega)
          have hlog : (s - lastB bs s).log2 + lastB bs s + 1 ≤ s := by
            have hp : s - lastB bs s ≠ 0 := by omega
            have h1 := Nat.log2_self_le hp
            have h2 := Nat.lt_two_pow_self (n := (s - lastB bs s).log2)
            omega
          omega
      · have e1 : lastB bs (s + d) = s := by
          rw [lastB_same hs (b := x.1) (by omega) (by omega) (by rw [hL]; omega), hL]
        rw [e1, Nat.add_sub_cancel_left] at h
        have h2 : d.log2 < (x.1 - s).log2 := by
          have hle : d ≤ (x.1 - s) / 2 := by rw [← hd]; exact Nat.div_le_div_left p2 (by decide)
          have h3 := Nat.log2_self_le c
          have hl2 : 2 ^ (d.log2 + 1) ≤ x.1 - s := by
            rw [Nat.pow_succ]
            generalize 2 ^ d.log2 = u at *
            omega
          have := (Nat.le_log2 (by omega)).mpr hl2
          omega
        omega
end
theorem road_bound39 {P : Parts} {ps : List Put} {S : SongD} {bs : List Nat} (p2 : 2 ≤ P.pace) (hs : Spots S bs) (hl : RoadOk bs) {b : Nat} {z : Str} (hb : b < 2 ^ 140) : (roadL P ps bs (b, z)).length ≤ 3900 := by
  rcases hl with hl | hl
  · exact road_bound26 p2 hs hl hb
  · have hlen : (roadL P ps bs (b, z)).length ≤ (b - lastB bs b).log2 + lastB bs b + 3 := road_len2 (ps := ps) p2 hs b (b, z) (Nat.le_refl _)
    have hlog : (b - lastB bs b).log2 ≤ 140 := by
      by_cases q : b - lastB bs b = 0
      · rw [q]; decide
      · have := (Nat.log2_lt q).mpr (show b - lastB bs b < 2 ^ 140 by omega)
        omega
    have hla : lastB bs b ≤ 60 := by
      by_cases q : 0 < b
      · exact hl _ (lastB_is hs q).1
      · have : lastB bs b = 0 := by
          unfold lastB
          have : (bs.filter fun z => decide (z < b)) = [] := by rw [List.filter_eq_nil_iff]; intro z _; rw [decide_eq_true_iff]; omega
          rw [this]
          rfl
        omega
    omega
section
variable (K : PySem.W.Frag) (At : Hp → Addr → Parts → Prop) (C : Addr)
def spRoadL2 : Sp := fun vs H Q _ => ∃ (G : Hp) (v sv : V) (P : Parts) (S : SongD) (bs : List Nat) (b : Nat) (z : Str), vs = [v, sv, .int (b : Int), .str z] ∧ Same G H ∧ Dp K G v (partsD P) ∧ P.Ok 64 ∧ SongAt K G sv S ∧ SOk P S ∧ Spots S bs ∧ RoadOk bs ∧ z ∈ P.names ∧ b < 2 ^ 140 ∧
  ∀ (q : Addr) (H' : Hp) (xs : List V), Same H H' → H q = none → H' q = some (.lst xs) → SptsAll H' xs (roadL P S.puts bs (b, z)) → Q (.ref q) H'
/-- the program's elder_of -/
def spElderP : Sp := fun vs H Q _ => ∃ (G : Hp) (y : Addr) (P : Parts) (S : SongD) (bs : List Nat) (b : Nat) (z : Str), vs = [.ref y, .int (b : Int), .str z] ∧ Same G H ∧ SoC K At C G y P S bs ∧ P.Ok 64 ∧ SOk P S ∧ Spots S bs ∧ z ∈ P.names ∧ b < 2 ^ 140 ∧
  (∀ H', Same H H' → stepE P S.puts bs (b, z) = none → Q .non H') ∧ ∀ (w : Spt) (q : Addr) (H' : Hp), Same H H' → stepE P S.puts bs (b, z) = some w → H q = none → H' q = some (.tup [.int (w.1 : Int), .str w.2]) → Q (.ref q) H'
/-- the law's table of a road -/
def spTabLaw : Sp := fun vs H Q _ => ∃ (G : Hp) (v sv : V) (wl : Addr) (P : Parts) (S : SongD) (bs : List Nat) (b : Nat) (z : Str) (xs : List V), vs = [v, sv, .ref wl] ∧ Same G H ∧ Dp K G v (partsD P) ∧ P.Ok 64 ∧ SongAt K G sv S ∧ SOk P S ∧ Spots S bs ∧ z ∈ P.names ∧ b < 2 ^ 140 ∧ H wl = some (.lst xs) ∧ SptsAll H xs (roadL P S.puts bs (b, z)) ∧ (roadL P S.puts bs (b, z)).length ≤ 3900 ∧
  ∀ (q : Addr) (H' : Hp), Same H H' → H q = none → H' q = some (.tup (nVs (tabL P S.puts bs (b, z)))) → Q (.ref q) H'
def spRightK : Sp := fun vs H Q _ => ∃ (p y a1 : Addr) (v sv : V) (P : Parts) (S : SongD) (bs : List Nat) (x : Spt), vs = [.ref p, v, sv, .ref y, .ref a1] ∧ Bag H p ∧ Dp K (off p H) v (partsD P) ∧ P.Ok 64 ∧ SongAt K (off p H) sv S ∧ SOk P S ∧ Spots S bs ∧ RoadOk bs ∧ SoC K At C (off p H) y P S bs ∧ off p H a1 = some (.tup [.int (x.1 : Int), .str x.2]) ∧ x.2 ∈ P.names ∧ x.1 < 2 ^ 140 ∧ ∀ H', Stp p H H' → Q (.bl true) H'
/-- a song gone on by a deed, and its parts -/
def spGone : Sp := fun vs H Q _ => ∃ (p y : Addr) (v sv : V) (P : Parts) (S : SongD) (bs : List Nat), vs = [.ref p, v, sv, .ref y] ∧ Bag H p ∧ Dp K (off p H) v (partsD P) ∧ P.Ok 64 ∧ SongAt K (off p H) sv S ∧ SOk P S ∧ Spots S bs ∧ (S.puts.length + S.stops.length ≤ 10 ∨ ∀ b ∈ bs, b ≤ 60) ∧ SoC K At C (off p H) y P S bs ∧ S.puts.length ≤ 40 ∧ S.stops.length ≤ 40 ∧
  ∀ (q y' : Addr) (sv' : V) (H' : Hp) (S' : SongD) (bs' : List Nat), Stp p H H' → off p H' q = some (.tup [.ref y', sv']) → SongAt K (off p H') sv' S' → SOk P S' → Spots S' bs' → RoadOk bs' → SoC K At C (off p H') y' P S' bs' → Q (.ref q) H'
end
theorem canlay_put {r : Put} (h : PyData.strOk r.2.1 = true) : PyData.canLay0 (putD r) = true := by
  show (PyData.canLay0 (.int (r.1 : Int)) && (PyData.canLay0 (.str r.2.1) && (PyData.canLay0 (.int (r.2.2 : Int)) && true))) = true
  rw [show PyData.canLay0 (.str r.2.1) = true from h]
  rfl
theorem shaped_put {r : Put} (h : PyData.strOk r.2.1 = true) : SeqAt.shaped (putD r) = true := by
  show (PyData.canLay0 (putD r) && decide (PyData.depth (putD r) ≤ 64)) = true
  rw [canlay_put h]
  rfl
theorem shaped_puts {ps : List Put} (h : ∀ r ∈ ps, PyData.strOk r.2.1 = true) : PyData.canLay0 (.list (ps.map putD)) = true ∧ SeqAt.shaped (.list (ps.map putD)) = true := shaped_list fun d hd => by
  obtain ⟨r, hr, rfl⟩ := List.mem_map.mp hd
  exact ⟨canlay_put (h r hr), depth_put r⟩
theorem putD_eqv (r q : Put) : PyData.eqv (putD r) (putD q) = decide (r = q) := by
  unfold putD
  simp only [PyData.eqv, PyData.eqvAll, Bool.and_true]
  by_cases h1 : r.1 = q.1 <;> by_cases h2 : r.2.1 = q.2.1 <;> by_cases h3 : r.2.2 = q.2.2
  all_goals first
    | (have e : r = q := Prod.ext h1 (Prod.ext h2 h3); subst e; simp)
    | (rw [decide_eq_false (fun e => by subst e; first | exact h1 rfl | exact h2 rfl | exact h3 rfl)]; simp [h1, h2, h3]; try omega)
theorem eqv_nil {ds : List PyData} : PyData.eqv (.list ds) (.list []) = decide (ds = []) := by
  cases ds with
  | nil => rfl
  | cons d ds => rfl
theorem shaped_nats2 (ds : List Nat) : SeqAt.shaped (.list (nDs ds)) = true := (shaped_list fun d hd => by
  obtain ⟨k, _, rfl⟩ := List.mem_map.mp hd
  exact ⟨rfl, Nat.zero_le _⟩).2
theorem road_okP {S : SongD} {bs : List Nat} (h : Spots S bs) (q : S.puts.length + S.stops.length ≤ 25 ∨ ∀ b, b ∈ S.stops ∨ b ∈ S.puts.map (·.1) → b ≤ 60) : RoadOk bs := by
  rcases q with q | q
  · refine .inl ?_
    have n1 : bs.Nodup := h.1.imp fun {a b} q => Nat.ne_of_lt q
    have := len_subN (ys := 0 :: (S.stops ++ S.puts.map (·.1))) n1 fun b hb => by
      rw [List.mem_cons, List.mem_append]
      exact (h.2 b).mp hb
    rw [List.length_cons, List.length_append, List.length_map] at this
    omega
  · refine .inr fun b hb => ?_
    rcases (h.2 b).mp hb with rfl | hb
    · exact Nat.zero_le _
    · exact q b hb
theorem putK_puts (a b c x : V) : putK [((Sum.inr "first" : L2.Key), a), (.inr "puts", b), (.inr "stops", c)] (.inr "puts") x = [(.inr "first", a), (.inr "puts", x), (.inr "stops", c)] := rfl
theorem putK_stops (a b c x : V) : putK [((Sum.inr "first" : L2.Key), a), (.inr "puts", b), (.inr "stops", c)] (.inr "stops") x = [(.inr "first", a), (.inr "puts", b), (.inr "stops", x)] := rfl
theorem putK_first (a b c x : V) : putK [((Sum.inr "first" : L2.Key), a), (.inr "puts", b), (.inr "stops", c)] (.inr "first") x = [(.inr "first", x), (.inr "puts", b), (.inr "stops", c)] := rfl
theorem filter_one {ps : List Put} {r0 : Put} (nd : (ps.map putKey).Nodup) (hm : r0 ∈ ps) : (ps.filter fun r => !decide (r = r0)) = ps.filter fun r => !decide (putKey r = putKey r0) := by
  refine List.filter_congr fun r hr => ?_
  by_cases c : r = r0
  · rw [c, decide_eq_true rfl, decide_eq_true rfl]
  · rw [decide_eq_false c, decide_eq_false fun e => c ?_]
    obtain ⟨i, hi, e1⟩ := List.mem_iff_getElem.mp hr
    obtain ⟨j, hj, e2⟩ := List.mem_iff_getElem.mp hm
    have : i = j := by
      refine (List.getElem_inj nd (h₀ := by rw [List.length_map]; exact hi) (h₁ := by rw [List.length_map]; exact hj)).mp ?_
      rw [List.getElem_map, List.getElem_map, e1, e2, e]
    subst this
    rw [← e1, ← e2]
def dOfS : Option Spt → PyData
  | none => .none
  | some w => sptD w
/-- an elder, as it is told -/
def EvAt (H : Hp) (v : V) (o : Option Spt) : Prop := (o = none ∧ v = .non) ∨ ∃ w, o = some w ∧ SptAt H v w
theorem EvAt.same {H H' : Hp} (s : Same H H') {v : V} {o : Option Spt} (h : EvAt H v o) : EvAt H' v o := h.imp id fun ⟨w, e, q⟩ => ⟨w, e, q.same s⟩
theorem EvAt.dp {K : PySem.W.Frag} {H : Hp} {v : V} {o : Option Spt} (h : EvAt H v o) : Dp K H v (dOfS o) := by
  rcases h with ⟨rfl, rfl⟩ | ⟨w, rfl, q⟩
  · exact .non
  · exact q.dp
theorem SptAt.tups {H H' : Hp} (s : ∀ b ts, H b = some (.tup ts) → H' b = some (.tup ts)) {x : V} {y : Spt} (h : SptAt H x y) : SptAt H' x y := let ⟨a, e, h⟩ := h; ⟨a, e, s _ _ h⟩
theorem EvAt.tups {H H' : Hp} (s : ∀ b ts, H b = some (.tup ts) → H' b = some (.tup ts)) {v : V} {o : Option Spt} (h : EvAt H v o) : EvAt H' v o := h.imp id fun ⟨w, e, q⟩ => ⟨w, e, q.tups s⟩
def spElderE (K : PySem.W.Frag) : Sp := fun vs H Q _ => ∃ (G : Hp) (v sv : V) (P : Parts) (S : SongD) (bs : List Nat) (b : Nat) (z : Str), vs = [v, sv, .int (b : Int), .str z] ∧ Same G H ∧ Dp K G v (partsD P) ∧ P.Ok 64 ∧ SongAt K G sv S ∧ SOk P S ∧ Spots S bs ∧ z ∈ P.names ∧
  ∀ (ev : V) (H' : Hp), Same H H' → EvAt H' ev (stepE P S.puts bs (b, z)) → Q ev H'
theorem elderE_imp (K : PySem.W.Frag) : ∀ vs H Q E, spElderE K vs H Q E → spElderL K vs H Q E := fun vs H Q E ⟨G, v, sv, P, S, bs, b, z, e, g, h1, h2, h3, h4, h5, h6, k⟩ =>
  ⟨G, v, sv, P, S, bs, b, z, e, g, h1, h2, h3, h4, h5, h6, fun H' s e => k .non H' s (.inl ⟨e, rfl⟩), fun w q H' s e _ hq => k (.ref q) H' s (.inr ⟨w, e, q, rfl, hq⟩)⟩
def spElderPE (K : PySem.W.Frag) (At : Hp → Addr → Parts → Prop) (C : Addr) : Sp := fun vs H Q _ => ∃ (G : Hp) (y : Addr) (P : Parts) (S : SongD) (bs : List Nat) (b : Nat) (z : Str), vs = [.ref y, .int (b : Int), .str z] ∧ Same G H ∧ SoC K At C G y P S bs ∧ P.Ok 64 ∧ SOk P S ∧ Spots S bs ∧ z ∈ P.names ∧ b < 2 ^ 140 ∧
  ∀ (ev : V) (H' : Hp), Same H H' → EvAt H' ev (stepE P S.puts bs (b, z)) → Q ev H'
theorem elderPE_imp (K : PySem.W.Frag) (At : Hp → Addr → Parts → Prop) (C : Addr) : ∀ vs H Q E, spElderPE K At C vs H Q E → spElderP K At C vs H Q E := fun vs H Q E ⟨G, y, P, S, bs, b, z, e, g, h1, h2, h3, h4, h5, h6, k⟩ =>
  ⟨G, y, P, S, bs, b, z, e, g, h1, h2, h3, h4, h5, h6, fun H' s e => k .non H' s (.inl ⟨e, rfl⟩), fun w q H' s e _ hq => k (.ref q) H' s (.inr ⟨w, e, q, rfl, hq⟩)⟩
end HG

/-! what songs tell -/
namespace HG
open PySem PySem.Spec PyProof.Rows L2 HF
theorem rootsR_map {P : Parts} {ps : List Put} {st bs : List Nat} (h : bs.Pairwise (· < ·)) : rootsR P ps st bs = bs.map fun b => (b, sungL P ps st bs b) := by
  refine List.ext_getElem? fun i => ?_
  by_cases c : i < bs.length
  · rw [roots_get c, List.getElem?_map, List.getElem?_eq_getElem c]
    have e : (bs.filter fun x => decide (x ≤ bs[i])) = bs.take (i + 1) := by
      refine filter_take h c (Nat.le_refl _) fun q => ?_
      exact (List.pairwise_iff_getElem.mp h) i (i + 1) c q (Nat.lt_succ_self _)
    have e1 := atR_at (P := P) (ps := ps) (st := st) c
    show some _ = some (bs[i], sungL P ps st bs bs[i])
    unfold sungL
    rw [e]
    generalize atR P ps st (bs.take (i + 1)) = w at *
    rw [e1, Nat.sub_self, beh_at0]
    rw [← e1]
  · rw [List.getElem?_eq_none (by rw [roots_len]; omega), List.getElem?_eq_none (by rw [List.length_map]; omega)]
theorem sorted_uniq {as bs : List Nat} (h : as.Perm bs) (h1 : as.Pairwise (· ≤ ·)) (h2 : bs.Pairwise (· ≤ ·)) : as = bs := h.eq_of_pairwise (fun a b _ _ x y => Nat.le_antisymm x y) h1 h2
section
variable (K : PySem.W.Frag) (At : Hp → Addr → Parts → Prop) (C : Addr)
def spFirstM : Sp := fun vs H Q _ => ∃ (G : Hp) (y : Addr) (P : Parts) (S : SongD) (bs : List Nat), vs = [.ref y] ∧ Same G H ∧ SoC K At C G y P S bs ∧ ∀ v : V, TrT G v S.first → Q v H
def spBreathsM : Sp := fun vs H Q _ => ∃ (G : Hp) (y : Addr) (P : Parts) (S : SongD) (bs : List Nat), vs = [.ref y] ∧ Same G H ∧ SoC K At C G y P S bs ∧ ∀ (q : Addr) (H' : Hp) (ds : List Nat), Same H H' → H q = none → H' q = some (.lst (nVs ds)) → ds.Perm S.stops → ds.Pairwise (· ≤ ·) → Q (.ref q) H'
/-- a list handed on: as it is or turned about, as a list or a tuple -/
def spHanded : Sp := fun vs H Q _ => ∃ (p tl : Addr) (xs : List V), vs = [.ref p, .ref tl] ∧ Bag H p ∧ off p H tl = some (.lst xs) ∧ xs.length ≤ 1000 ∧
  ∀ (q : Addr) (k : Int) (H' : Hp), Stp p H H' → H q = none → BagOff H' p q → (H' q = some (.lst (stepL k xs)) ∨ H' q = some (.tup (stepL k xs))) → Q (.ref q) H'
/-- the class of songs, with cues or breaths left out, or both in the other order -/
def KSongV (P : Program) (w : World) (mg : Str → Option Value) (base : Heap) : Prop := ∃ f fd c0 b0, mg "Song" = some (.ref C) ∧ Mk K C f ∧ (∀ H, SqT K H c0 []) ∧ (∀ H, SqT K H b0 []) ∧
  (∃ g, KBn K fd ["self", "choir", "first", "cues", "breaths"] 3 ["breaths"] g (fun vs zs => vs ++ ([V.ref c0] ++ zs))) ∧ (∃ g, KBn K fd ["self", "choir", "first", "cues", "breaths"] 3 ["cues"] g (fun vs zs => vs ++ (zs ++ [V.ref b0]))) ∧
  (∃ g, KBn K fd ["self", "choir", "first", "cues", "breaths"] 3 ["breaths", "cues"] g (fun vs zs => vs ++ zs.reverse)) ∧ FnOk P w K mg base CX0 6 f fd ["self", "choir", "first", "cues", "breaths"] (spMakeS3 K At C)
def spMadeV : Sp := fun vs H Q _ => ∃ (p x : Addr) (sv : V) (P : Parts) (S : SongD), vs = [.ref p, .ref x, sv] ∧ Bag H p ∧ At (off p H) x P ∧ P.Ok 64 ∧ SongAt K (off p H) sv S ∧ SOk P S ∧ SNear S ∧
  ∀ (y : Addr) (H' : Hp) (bs : List Nat), Stp p H H' → Spots S bs → SoC K At C (off p H') y P S bs → Q (.ref y) H'
/-- first, cues, breaths, roots -/
def spToldS : Sp := fun vs H Q _ => ∃ (G : Hp) (y : Addr) (P : Parts) (S : SongD) (bs : List Nat), vs = [.ref y] ∧ Same G H ∧ SoC K At C G y P S bs ∧ Spots S bs ∧
  ∀ (q c b r : Addr) (v : V) (cs rs : List V) (ds : List Nat) (H' : Hp), Same H H' → H q = none → H c = none → H b = none → H r = none → H' q = some (.lst [v, .ref c, .ref b, .ref r]) → TrT G v S.first → H' c = some (.lst cs) → DpAll K G cs ((sortP S.puts).map putD) → H' b = some (.lst (nVs ds)) → ds.Perm S.stops → ds.Pairwise (· ≤ ·) → H' r = some (.lst rs) → RootsAll G rs (rootsR P S.puts S.first bs) → Q (.ref q) H'
def spGoesOn : Sp := fun vs H Q _ => ∃ (G : Hp) (y : Addr) (v sv : V) (P : Parts) (S : SongD) (bs : List Nat), vs = [v, sv, .ref y] ∧ Same G H ∧ Dp K G v (partsD P) ∧ P.Ok 64 ∧ SongAt K G sv S ∧ SOk P S ∧ Spots S bs ∧ S.puts.length < 40 ∧ S.stops.length < 40 ∧ SoC K At C G y P S bs ∧ ∀ H', Same H H' → Q (.bl true) H'
end
theorem stepL_perm {α : Type} (k : Int) (xs : List α) : (stepL k xs).Perm xs := by
  unfold stepL
  by_cases c : k = 1
  · rw [if_pos c]
  · rw [if_neg c]; exact List.reverse_perm xs
theorem stepL_nVs (k : Int) (ds : List Nat) : stepL k (nVs ds) = nVs (stepL k ds) := by
  unfold nVs
  rw [stepL_map]
theorem dpAll_step {K : PySem.W.Frag} {H : Hp} {k : Int} {xs : List V} {ps : List Put} (h : DpAll K H xs (ps.map putD)) : DpAll K H (stepL k xs) ((stepL k ps).map putD) := by
  rw [stepL_map]
  unfold stepL
  by_cases c : k = 1
  · rw [if_pos c, if_pos c]; exact h
  · rw [if_neg c, if_neg c]; exact dpAll_rev h
theorem sz_put {r : Put} (h1 : r.1 < 2 ^ 140) (h2 : GoodN r.2.1) (h3 : r.2.2 < 10) : Sz 1 400 (putD r) := by
  refine (sz_tup (b := 0) (n := 102) (m := 3) (fun d hd => ?_) (by show 3 ≤ 3; exact Nat.le_refl 3)).up (by omega) (by omega)
  rcases List.mem_cons.mp hd with rfl | hd
  · have := b1450
    exact (sz_big (by omega)).up (by omega) (by omega)
  rcases List.mem_cons.mp hd with rfl | hd
  · exact sz_good h2
  rcases List.mem_cons.mp hd with rfl | hd
  · exact (sz_nat (k := r.2.2) (by omega)).up (by omega) (by omega)
  · cases hd
theorem sz_natB {d : Nat} (h : d < 2 ^ 140) : Sz 0 60 (.int (d : Int)) := by
  have := b1450
  exact sz_big (by omega)
theorem f1840 : (10 : Nat) ^ 18 < 2 ^ 140 := by decide +kernel
theorem sz_putsL {P : Parts} {S : SongD} (ok : P.Ok 64) (sok : SOk P S) (near : SNear S) : ∀ d ∈ S.puts.map putD, Sz 1 400 d := fun d hd => by
  obtain ⟨r, hr, rfl⟩ := List.mem_map.mp hd
  have := f1840
  have h1 := near.puts r hr
  have h2 := sok.puts r hr
  have n5 := ok.n5
  exact sz_put (by omega) (ok.good _ h2.1) (by omega)
theorem sz_stopsL {S : SongD} (near : SNear S) : ∀ d ∈ nDs S.stops, Sz 0 60 d := fun d hd => by
  obtain ⟨k, hk, rfl⟩ := List.mem_map.mp hd
  have := f1840
  have h1 := near.stops k hk
  exact sz_natB (by omega)
/-- a handed list, as data -/
theorem hand_dp {K : PySem.W.Frag} {G H : Hp} {q : Addr} {xs : List V} {ds : List PyData} {b n m : Nat} (h : H q = some (.lst xs) ∨ H q = some (.tup xs)) (g : Same G H) (hd : DpAll K G xs ds) (hs : ∀ d ∈ ds, Sz b n d) (hl : ds.length ≤ m) : ∃ D, Dp K H (.ref q) D ∧ Sz (b + 1) (n * m + 2 * m + 3) D := by
  rcases h with h | h
  · exact ⟨.list ds, .lst (.inl (.of h)) (dpAll_same g _ _ hd), sz_list hs hl⟩
  · exact ⟨.tuple ds, .tup (.inl (.of h)) (dpAll_same g _ _ hd), sz_tup hs hl⟩
/-- the same data in every heap in which the list stands so -/
theorem hand_dp2 {K : PySem.W.Frag} {G H1 : Hp} {q : Addr} {xs : List V} {ds : List PyData} {b n m : Nat} (hd : DpAll K G xs ds) (hs : ∀ d ∈ ds, Sz b n d) (hl : ds.length ≤ m) (h : H1 q = some (.lst xs) ∨ H1 q = some (.tup xs)) : ∃ D, (∀ H : Hp, H q = H1 q → Same G H → Dp K H (.ref q) D) ∧ Sz (b + 1) (n * m + 2 * m + 3) D := by
  rcases h with h | h
  · exact ⟨.list ds, fun H e g => .lst (.inl (.of (e.trans h))) (dpAll_same g _ _ hd), sz_list hs hl⟩
  · exact ⟨.tuple ds, fun H e g => .tup (.inl (.of (e.trans h))) (dpAll_same g _ _ hd), sz_tup hs hl⟩
/-! songs gone on, and what is due of them -/
def sortN (ds : List Nat) : List Nat := ds.mergeSort (fun a b => decide (a ≤ b))
theorem sortN_perm (ds : List Nat) : (sortN ds).Perm ds := List.mergeSort_perm ..
theorem sortN_le (ds : List Nat) : (sortN ds).Pairwise (· ≤ ·) := by
  have := List.pairwise_mergeSort (le := fun a b : Nat => decide (a ≤ b)) (fun a b c h1 h2 => decide_eq_true (Nat.le_trans (of_decide_eq_true h1) (of_decide_eq_true h2))) (fun a b => by
    rw [Bool.or_eq_true, decide_eq_true_iff, decide_eq_true_iff]; exact Nat.le_total a b) ds
  exact this.imp fun h => of_decide_eq_true h
structure LDAt (K : PySem.W.Frag) (At : Hp → Addr → Parts → Prop) (C : Addr) (H : Hp) (P : Parts) (e : Addr × V × SongD) : Prop where
  song : ∃ bs, SoC K At C H e.1 P e.2.2 bs
  sok : SOk P e.2.2
  due : ∃ t a b xs, e.2.1 = .ref t ∧ H t = some (.tup [.ref a, .ref b]) ∧ H a = some (.lst xs) ∧ DpAll K H xs (e.2.2.puts.map putD) ∧ H b = some (.lst (nVs e.2.2.stops))
theorem LDAt.same {K : PySem.W.Frag} {At : Hp → Addr → Parts → Prop} {Cc : Addr} (CK : ChoirK Cc At) {C : Addr} {H H' : Hp} {P : Parts} {e : Addr × V × SongD} (s : Same H H') (h : LDAt K At C H P e) : LDAt K At C H' P e := by
  obtain ⟨⟨bs, h1⟩, h2, t, a, b, xs, e1, h3, h4, h5, h6⟩ := h
  exact ⟨⟨bs, h1.same CK s⟩, h2, t, a, b, xs, e1, s _ _ h3, s _ _ h4, dpAll_same s _ _ h5, s _ _ h6⟩
def tdD (S : SongD) : PyData := .list [.list ((sortP S.puts).map putD), .list (nDs (sortN S.stops))]
theorem off2_updM {L M : Addr} {H : Hp} {o : HO} : Same (off L (off M H)) (off L (off M (upd H M o))) := fun b x e => by
  obtain ⟨h1, h2, h3⟩ := off2_inv e
  rw [off2 h1 h2, upd_ne h2]
  exact h3
theorem more_off2 {G H H' : Hp} {L M : Addr} (g : Same G H') (gL : G L = none) (gM : G M = none) (hL : H L ≠ none) (hM : H M ≠ none) : Same (more G H H') (off L (off M H')) := fun b o e => by
  unfold more at e
  by_cases c : H b = none
  · rw [if_pos c] at e
    rw [off2 (fun u => hL (by rw [← u]; exact c)) (fun u => hM (by rw [← u]; exact c))]
    exact e
  · rw [if_neg c] at e
    rw [off2 (fun u => by rw [u, gL] at e; cases e) (fun u => by rw [u, gM] at e; cases e)]
    exact g _ _ e
theorem free_beat {bs : List Nat} {n : Nat} (h : bs.length < n) (nd : bs.Nodup) : ((List.range n).filter fun b => !decide (b ∈ bs)) ≠ [] := by
  intro e
  have h1 : ∀ b ∈ List.range n, b ∈ bs := fun b hb => by
    rw [List.filter_eq_nil_iff] at e
    have := e b hb
    by_cases c : b ∈ bs
    · exact c
    · rw [decide_eq_false c] at this
      exact absurd rfl this
  have := len_subN List.nodup_range h1
  rw [List.length_range] at this
  omega
theorem drop_last_filter {ps : List Put} {r : Put} (nd : ((ps ++ [r]).map putKey).Nodup) : ((ps ++ [r]).filter fun q => !decide (putKey q = putKey r)) = ps := by
  rw [List.filter_append, List.filter_cons_of_neg (by simp), List.filter_nil, List.append_nil, List.filter_eq_self]
  intro q hq
  rw [List.map_append, List.nodup_append] at nd
  have := nd.2.2 (putKey q) (List.mem_map.mpr ⟨q, hq, rfl⟩) (putKey r) (List.mem_singleton.mpr rfl)
  simp [this]
theorem drop_last_filterN {ds : List Nat} {d : Nat} (nd : (ds ++ [d]).Nodup) : ((ds ++ [d]).filter fun c => !decide (c = d)) = ds := by
  rw [List.filter_append, List.filter_cons_of_neg (by simp), List.filter_nil, List.append_nil, List.filter_eq_self]
  intro q hq
  rw [List.nodup_append] at nd
  have := nd.2.2 q hq d (List.mem_singleton.mpr rfl)
  simp [this]
theorem cutV_last (l : List V) : cutV l (some (-1)) none = l.drop (l.length - 1) := by
  unfold cutV
  rw [HT.sIx_none]
  have e : HT.sIx l.length 0 (some (-1)) = l.length - 1 := by
    show (if (-1 : Int) < 0 then ((-1 : Int) + (l.length : Int)).toNat else min (-1 : Int).toNat l.length) = _
    rw [if_pos (by decide)]
    omega
  rw [e, List.take_of_length_le (by rw [List.length_drop]; exact Nat.le_refl _)]
theorem depthAll_le {n : Nat} : ∀ {ds : List PyData}, (∀ d ∈ ds, d.depth ≤ n) → PyData.depthAll ds ≤ n
  | [], _ => Nat.zero_le _
  | d :: ds, h => by
    have h1 := h d List.mem_cons_self
    have h2 := depthAll_le (ds := ds) fun e he => h e (List.mem_cons_of_mem _ he)
    show max (PyData.depth d) (PyData.depthAll ds) ≤ n
    omega
theorem depth_list {n : Nat} {ds : List PyData} (h : ∀ d ∈ ds, d.depth ≤ n) : (PyData.list ds).depth ≤ n + 1 := Nat.succ_le_succ (depthAll_le h)
theorem put_depth (r : Put) : (putD r).depth ≤ 1 := by
  show max 0 (max 0 (max 0 0)) + 1 ≤ 1
  decide
theorem canlay_td {S : SongD} (h : ∀ r ∈ S.puts, PyData.strOk r.2.1 = true) : PyData.canLay0 (tdD S) = true ∧ (tdD S).depth ≤ 40 := by
  have hp := sortP_perm S.puts
  have h1 := shaped_puts (ps := sortP S.puts) fun r hr => h r (hp.mem_iff.mp hr)
  have h2 : PyData.canLay0 (.list (nDs (sortN S.stops))) = true := (shaped_list fun d hd => by
    obtain ⟨k, _, rfl⟩ := List.mem_map.mp hd
    exact ⟨rfl, Nat.zero_le _⟩).1
  refine ⟨?_, ?_⟩
  · show (PyData.canLay0 (.list ((sortP S.puts).map putD)) && (PyData.canLay0 (.list (nDs (sortN S.stops))) && true)) = true
    rw [h1.1, h2]
    rfl
  · refine Nat.le_trans (depth_list (n := 2) fun d hd => ?_) (by decide)
    rcases List.mem_cons.mp hd with rfl | hd
    · refine depth_list fun d hd => ?_
      obtain ⟨r, _, rfl⟩ := List.mem_map.mp hd
      exact put_depth r
    · rw [List.mem_singleton.mp hd]
      refine Nat.le_trans (depth_list (n := 0) fun d hd => ?_) (by decide)
      obtain ⟨k, _, rfl⟩ := List.mem_map.mp hd
      exact Nat.le_refl 0
end HG

/-! the dict of the waits; the least of sums -/
namespace HG
open PySem PySem.Spec PyProof.Rows L2
/-- the told waits as a dict -/
def wkv (P : Parts) (rt : List Nat) (l : List Nat) : List (List Key × V) := l.map fun w => (keyT (behL P rt w), .int (w : Int))
theorem wt_uniq {P : Parts} {rt l l' : List Nat} (h : WtL P rt l) (h' : WtL P rt l') : l' = l :=
  List.Perm.eq_of_pairwise (fun a b _ _ h1 h2 => absurd h1 (by omega)) h'.sort h.sort ((List.perm_ext_iff_of_nodup (h'.sort.imp fun h => by omega) (h.sort.imp fun h => by omega)).mpr fun w => by rw [h.mem, h'.mem])
theorem wkv_nodup {P : Parts} {rt l : List Nat} (h : WtL P rt l) : ((wkv P rt l).map (·.1)).Nodup := by
  unfold wkv
  rw [List.map_map]
  show List.Pairwise (· ≠ ·) _
  rw [List.pairwise_map]
  refine h.sort.imp_of_mem fun {a b} ha hb hab e => ?_
  have := lw_inj ((h.mem a).mp ha) ((h.mem b).mp hb) (keyT_inj e)
  omega
theorem mergeT_nodup : ∀ (more kvs : List (List Key × V)), ((kvs ++ more).map (·.1)).Nodup → mergeT kvs more = kvs ++ more
  | [], kvs, _ => (List.append_nil _).symm
  | p :: more, kvs, h => by
    have hn : valV kvs p.1 = none := by
      cases e : valV kvs p.1 with
      | none => rfl
      | some v =>
        have h2 : (kvs.any fun kv => decide (kv.1 = p.1)) = true := by rw [valV_any, e]; rfl
        obtain ⟨q, hq, hqe⟩ := List.any_eq_true.mp h2
        rw [List.map_append, List.map_cons, List.nodup_append] at h
        exact absurd (of_decide_eq_true hqe) (h.2.2 q.1 (List.mem_map.mpr ⟨q, hq, rfl⟩) p.1 List.mem_cons_self)
    show mergeT (putK kvs p.1 p.2) more = _
    rw [putK_new _ hn, mergeT_nodup more (kvs ++ [(p.1, p.2)]) (by simpa using h)]
    simp
theorem wkv_merge {P : Parts} {rt l : List Nat} (h : WtL P rt l) : mergeT [] (wkv P rt l) = wkv P rt l := mergeT_nodup _ [] (by rw [List.nil_append]; exact wkv_nodup h)
theorem wkv_get {P : Parts} {rt l : List Nat} (h : WtL P rt l) {w : Nat} (hw : w ∈ l) : valV (wkv P rt l) (keyT (behL P rt w)) = some (.int (w : Int)) :=
  val_nodup (wkv_nodup h) (keyT (behL P rt w), .int (w : Int)) (List.mem_map.mpr ⟨w, hw, rfl⟩)
/-- the sums that are looked at: of the root, then of each told wait -/
def sums (P : Parts) (l : List Nat) : List Nat := List.range' 1 (P.pace - 1) ++ l.flatMap fun w => (List.range P.pace).map fun r => P.pace * w + r
theorem sums_pos {P : Parts} {rt l : List Nat} (p2 : 2 ≤ P.pace) (h : WtL P rt l) {u : Nat} (hu : u ∈ sums P l) : 1 ≤ u := by
  rcases List.mem_append.mp hu with hu | hu
  · exact (List.mem_range'_1.mp hu).1
  · obtain ⟨w, hw, hu⟩ := List.mem_flatMap.mp hu
    obtain ⟨r, _, rfl⟩ := List.mem_map.mp hu
    have h1 := (lw_iff.mp ((h.mem w).mp hw)).1
    have : 1 ≤ P.pace * w := Nat.mul_pos (by omega) h1
    omega
theorem sums_lw {P : Parts} {rt l : List Nat} (p2 : 2 ≤ P.pace) (h : WtL P rt l) {w : Nat} (hw : w ∈ l) : w ∈ sums P l := by
  have hl := (h.mem w).mp hw
  have h1 := (lw_iff.mp hl).1
  by_cases c : w < P.pace
  · exact List.mem_append.mpr (.inl (List.mem_range'_1.mpr (by omega)))
  · have hq : 1 ≤ w / P.pace := (Nat.le_div_iff_mul_le (by omega)).mpr (by omega)
    have hd : lw P rt (w / P.pace) = true := lw_div p2 (Nat.mod_lt w (by omega)) hq (by rw [Nat.div_add_mod]; exact hl)
    exact List.mem_append.mpr (.inr (List.mem_flatMap.mpr ⟨w / P.pace, (h.mem _).mpr hd, List.mem_map.mpr ⟨w % P.pace, List.mem_range.mpr (Nat.mod_lt w (by omega)), Nat.div_add_mod w P.pace⟩⟩))
/-- the least of each standing, of some sums -/
structure DueT (P : Parts) (rt : List Nat) (dvs : List (List Key × V)) (us : List Nat) : Prop where
  le : ∀ u ∈ us, ∃ v : Nat, valV dvs (keyT (behL P rt u)) = some (.int (v : Int)) ∧ v ≤ u
  of : ∀ k v, valV dvs k = some v → ∃ u ∈ us, k = keyT (behL P rt u) ∧ v = .int (u : Int)
  nodup : (dvs.map (·.1)).Nodup
  len : dvs.length ≤ us.length
theorem DueT.nil {P : Parts} {rt : List Nat} : DueT P rt [] [] := ⟨fun u h => (nomatch h), fun k v h => (nomatch h), .nil, Nat.le_refl _⟩
theorem keys_put {dvs : List (List Key × V)} {k : List Key} {v : V} (h : (dvs.map (·.1)).Nodup) : ((putK dvs k v).map (·.1)).Nodup := by
  unfold putK
  split
  · rw [List.map_map]
    have : (fun kv : List Key × V => kv.1) ∘ (fun kv => if kv.1 = k then (kv.1, v) else kv) = fun kv => kv.1 := by
      funext kv
      show (if kv.1 = k then (kv.1, v) else kv).1 = kv.1
      split <;> rfl
    rw [this]
    exact h
  · rename_i c
    rw [List.map_append, List.nodup_append]
    refine ⟨h, by simp, fun a ha b hb e => c ?_⟩
    rw [List.map_cons, List.map_nil, List.mem_singleton] at hb
    subst hb
    obtain ⟨q, hq, hqe⟩ := List.mem_map.mp ha
    exact List.any_eq_true.mpr ⟨q, hq, decide_eq_true (hqe.trans e)⟩
theorem DueT.put {P : Parts} {rt : List Nat} {dvs : List (List Key × V)} {us : List Nat} {u : Nat} (h : DueT P rt dvs us) {o : V} (ho : ((valV dvs (keyT (behL P rt u))).getD (.int (u : Int))) = o) :
    ∃ m : Nat, o = .int (m : Int) ∧ DueT P rt (putK dvs (keyT (behL P rt u)) (.int ((if (m : Int) < (u : Int) then (m : Int) else (u : Int)) : Int))) (us ++ [u]) := by
  obtain ⟨m, hm, hmu⟩ : ∃ m : Nat, o = .int (m : Int) ∧ (valV dvs (keyT (behL P rt u)) = none ∧ m = u ∨ valV dvs (keyT (behL P rt u)) = some (.int (m : Int))) := by
    cases e : valV dvs (keyT (behL P rt u)) with
    | none => rw [e] at ho; exact ⟨u, ho.symm, .inl ⟨rfl, rfl⟩⟩
    | some v =>
      rw [e] at ho
      obtain ⟨u', _, _, rfl⟩ := h.of _ _ e
      exact ⟨u', ho.symm, .inr rfl⟩
  obtain ⟨z, hz, hz1, hz2⟩ : ∃ z : Nat, (if (m : Int) < (u : Int) then (m : Int) else (u : Int)) = (z : Int) ∧ z ≤ u ∧ (z ≤ m ∧ (z = u ∨ z = m)) := by
    by_cases c : m < u
    · exact ⟨m, by rw [if_pos (by omega)], by omega, by omega, .inr rfl⟩
    · exact ⟨u, by rw [if_neg (by omega)], by omega, by omega, .inl rfl⟩
  refine ⟨m, hm, ?_⟩
  rw [hz]
  refine ⟨fun x hx => ?_, fun k v e => ?_, keys_put h.nodup, Nat.le_trans (length_putK _ _ _) (by rw [List.length_append]; exact Nat.succ_le_succ h.len)⟩
  · rw [valV_put]
    by_cases c : keyT (behL P rt x) = keyT (behL P rt u)
    · rw [if_pos c]
      refine ⟨z, rfl, ?_⟩
      rcases List.mem_append.mp hx with hx | hx
      · obtain ⟨v, hv, hvx⟩ := h.le x hx
        rw [c] at hv
        rcases hmu with ⟨h1, _⟩ | h1
        · rw [h1] at hv; cases hv
        · rw [h1] at hv
          have : (m : Int) = (v : Int) := V.int.inj (Option.some.inj hv)
          omega
      · rw [List.mem_singleton.mp hx]
        exact hz1
    · rw [if_neg c]
      rcases List.mem_append.mp hx with hx | hx
      · exact h.le x hx
      · exact absurd (by rw [List.mem_singleton.mp hx]) c
  · rw [valV_put] at e
    by_cases c : k = keyT (behL P rt u)
    · rw [if_pos c] at e
      cases e
      rcases hz2.2 with q | q
      · exact ⟨u, List.mem_append.mpr (.inr (List.mem_singleton.mpr rfl)), c, by rw [q]⟩
      · rcases hmu with ⟨_, h1⟩ | h1
        · exact ⟨u, List.mem_append.mpr (.inr (List.mem_singleton.mpr rfl)), c, by rw [q, h1]⟩
        · obtain ⟨x, hx, hxk, hxv⟩ := h.of _ _ h1
          exact ⟨x, List.mem_append.mpr (.inl hx), c.trans hxk, by rw [q]; exact hxv⟩
    · rw [if_neg c] at e
      obtain ⟨x, hx, hxk, hxv⟩ := h.of _ _ e
      exact ⟨x, List.mem_append.mpr (.inl hx), hxk, hxv⟩
/-- at the end they are the told ones -/
theorem DueT.same {P : Parts} {rt l : List Nat} {dvs : List (List Key × V)} (p2 : 2 ≤ P.pace) (h : WtL P rt l) (d : DueT P rt dvs (sums P l)) :
    dvs.length = (wkv P rt l).length ∧ ∀ p ∈ dvs, valV (wkv P rt l) p.1 = some p.2 ∧ flatB p.2 = true := by
  have key : ∀ p ∈ dvs, ∃ w ∈ l, p = (keyT (behL P rt w), .int (w : Int)) := fun p hp => by
    have hv := val_nodup d.nodup p hp
    obtain ⟨u, hu, hk, hx⟩ := d.of _ _ hv
    obtain ⟨w, hwu, hl, e⟩ := lw_least P rt u (sums_pos p2 h hu)
    have hw := (h.mem w).mpr hl
    obtain ⟨v, hv2, hvw⟩ := d.le w (sums_lw p2 h hw)
    rw [e, ← hk, hv] at hv2
    have h3 : p.2 = .int (v : Int) := Option.some.inj hv2
    rw [hx] at h3
    have : (u : Int) = (v : Int) := V.int.inj h3
    have huw : u = w := by omega
    exact ⟨w, hw, by rw [← huw, ← hk, ← hx]⟩
  refine ⟨?_, fun p hp => ?_⟩
  · have e : (dvs.map (·.1)).Perm ((wkv P rt l).map (·.1)) := (List.perm_ext_iff_of_nodup d.nodup (wkv_nodup h)).mpr fun k => by
      constructor
      · intro hk
        obtain ⟨p, hp, rfl⟩ := List.mem_map.mp hk
        obtain ⟨w, hw, rfl⟩ := key p hp
        exact List.mem_map.mpr ⟨_, List.mem_map.mpr ⟨w, hw, rfl⟩, rfl⟩
      · intro hk
        obtain ⟨p, hp, rfl⟩ := List.mem_map.mp hk
        obtain ⟨w, hw, rfl⟩ := List.mem_map.mp hp
        obtain ⟨v, hv, _⟩ := d.le w (sums_lw p2 h hw)
        have h2 : (dvs.any fun kv => decide (kv.1 = keyT (behL P rt w))) = true := by rw [valV_any, hv]; rfl
        obtain ⟨q, hq, hqe⟩ := List.any_eq_true.mp h2
        exact List.mem_map.mpr ⟨q, hq, of_decide_eq_true hqe⟩
    have := e.length_eq
    rwa [List.length_map, List.length_map] at this
  · obtain ⟨w, hw, rfl⟩ := key p hp
    exact ⟨wkv_get h hw, rfl⟩
theorem sums_len (p : Nat) : ∀ l : List Nat, (l.flatMap fun w => (List.range p).map fun r => p * w + r).length = l.length * p
  | [] => by simp
  | w :: l => by rw [List.flatMap_cons, List.length_append, sums_len p l, List.length_map, List.length_range, List.length_cons, Nat.succ_mul, Nat.add_comm]
/-- a pair is put at the end of a list of rows -/
theorem RowsS.pair {Ha Hb : Hp} {P : Parts} {rt : List Nat} {D : Addr} {ts : List Addr} {us : List Nat} {u t : Addr} {z : Nat} (h : RowsS Ha Ha P rt ts us) (s : Same Ha Hb) (hD : Hb D = some (.lst (ts.map V.ref))) (hu : Hb u = some (.tup (nVs (behL P rt z)))) (nt : Hb t = none) :
    RowsS (upd (upd Hb t (.tup [.ref u, .int (z : Int)])) D (.lst (ts.map V.ref ++ [.ref t]))) (upd (upd Hb t (.tup [.ref u, .int (z : Int)])) D (.lst (ts.map V.ref ++ [.ref t]))) P rt (ts ++ [t]) (us ++ [z]) := by
  have s2 : Same Hb (upd Hb t (.tup [.ref u, .int (z : Int)])) := same_upd nt
  exact ((h.kt (KeepT.same (s.trans s2))).snoc upd_same ⟨u, rfl, s2 _ _ hu⟩).kt (KeepT.lst (.refl _) (s2 _ _ hD))
theorem RowsS.app {H : Hp} {P : Parts} {rt : List Nat} {ts ws : List Addr} {us vs : List Nat} (h : RowsS H H P rt ts us) (g : RowsS H H P rt ws vs) : RowsS H H P rt (ts ++ ws) (us ++ vs) := by
  refine ⟨by rw [List.length_append, List.length_append, h.1, g.1], fun k t e => ?_⟩
  by_cases c : k < ts.length
  · rw [List.getElem?_append_left c] at e
    obtain ⟨w, y, a, b, d⟩ := h.2 k t e
    exact ⟨w, y, by rw [List.getElem?_append_left (by rw [← h.1]; exact c)]; exact a, b, d⟩
  · rw [List.getElem?_append_right (by omega)] at e
    obtain ⟨w, y, a, b, d⟩ := g.2 _ t e
    exact ⟨w, y, by rw [List.getElem?_append_right (by rw [← h.1]; omega), ← h.1]; exact a, b, d⟩
theorem rows_paired {K : PySem.W.Frag} {H : Hp} {P : Parts} {rt : List Nat} : ∀ {ts : List Addr} {l : List Nat}, RowsS H H P rt ts l → Paired (fun p (kv : List Key × V) => ∃ b, SqT K H p [.ref b, kv.2] ∧ H b = some (.tup (kv.1.map kV))) ts (wkv P rt l)
  | [], [], _ => .nil
  | [], _ :: _, h => nomatch h.1
  | _ :: _, [], h => nomatch h.1
  | t :: ts, w :: l, h => by
    obtain ⟨w', y, e, h1, ⟨q, rfl, h2⟩⟩ := h.2 0 t rfl
    cases e
    refine .cons ⟨q, .inl (.inl h1), by rw [keyT_v]; exact h2⟩ (rows_paired (ts := ts) (l := l) ⟨Nat.succ.inj h.1, fun k t e => h.2 (k + 1) t e⟩)
end HG

/-! odd lists: what a list with one odd item in it is -/
namespace HG
open PySem PySem.Spec PyProof.Rows L2 HF
structure SzX (b n : Nat) (d : PyData) : Prop where
  show_ : d.showable = true
  deep : d.depth ≤ b
  size : d.shown.length ≤ n
theorem Sz.x {b n : Nat} {d : PyData} (s : Sz b n d) : SzX b n d := ⟨s.show_, s.deep, s.size⟩
theorem SzX.up {b n b' n' : Nat} {d : PyData} (s : SzX b n d) (h1 : b ≤ b') (h2 : n ≤ n') : SzX b' n' d := ⟨s.show_, by have := s.deep; omega, by have := s.size; omega⟩
theorem sx_all {b n : Nat} : ∀ {ds : List PyData}, (∀ d ∈ ds, SzX b n d) → PyData.showableAll ds = true ∧ PyData.depthAll ds ≤ b ∧ ((PyData.shownAll ds).map (·.length)).sum ≤ n * ds.length ∧ (PyData.shownAll ds).length = ds.length
  | [], _ => ⟨rfl, Nat.zero_le _, Nat.le_refl _, rfl⟩
  | d :: ds, h => by
    obtain ⟨i2, i3, i4, i5⟩ := sx_all (b := b) (n := n) (ds := ds) fun d' hd => h d' (List.mem_cons_of_mem _ hd)
    obtain ⟨j2, j3, j4⟩ := h d List.mem_cons_self
    refine ⟨?_, ?_, ?_, ?_⟩
    · show (PyData.showable d && PyData.showableAll ds) = true
      rw [j2, i2]; rfl
    · show max (PyData.depth d) (PyData.depthAll ds) ≤ b
      omega
    · show ((PyData.shown d :: PyData.shownAll ds).map (·.length)).sum ≤ n * (ds.length + 1)
      rw [List.map_cons, List.sum_cons, Nat.mul_succ]
      omega
    · show (PyData.shownAll ds).length + 1 = ds.length + 1
      rw [i5]
theorem sx_list {b n m : Nat} {ds : List PyData} (h : ∀ d ∈ ds, SzX b n d) (hl : ds.length ≤ m) : SzX (b + 1) (n * m + 2 * m + 3) (.list ds) := by
  obtain ⟨k2, k3, k4, k5⟩ := sx_all h
  refine ⟨k2, by show PyData.depthAll ds + 1 ≤ b + 1; omega, ?_⟩
  simp only [PyData.shown]
  have := listText_len_le (PyData.shownAll ds)
  rw [k5] at this
  have hm : n * ds.length ≤ n * m := Nat.mul_le_mul_left _ hl
  omega
theorem sx_tup {b n m : Nat} {ds : List PyData} (h : ∀ d ∈ ds, SzX b n d) (hl : ds.length ≤ m) : SzX (b + 1) (n * m + 2 * m + 3) (.tuple ds) := by
  obtain ⟨k2, k3, k4, k5⟩ := sx_all h
  refine ⟨k2, by show PyData.depthAll ds + 1 ≤ b + 1; omega, ?_⟩
  simp only [PyData.shown]
  have := tupleText_len_le (PyData.shownAll ds)
  rw [k5] at this
  have hm : n * ds.length ≤ n * m := Nat.mul_le_mul_left _ hl
  omega
theorem sx_kv {b n : Nat} : ∀ {ds : List (PyData × PyData)}, (∀ d ∈ ds, SzX b n d.1 ∧ SzX b n d.2) → PyData.showableKv ds = true ∧ PyData.depthKv ds ≤ b ∧ ((PyData.shownKv ds).map (·.length)).sum ≤ (2 * n + 2) * ds.length ∧ (PyData.shownKv ds).length = ds.length
  | [], _ => ⟨rfl, Nat.zero_le _, Nat.le_refl _, rfl⟩
  | (a, c) :: ds, h => by
    obtain ⟨i2, i3, i4, i5⟩ := sx_kv (b := b) (n := n) (ds := ds) fun d' hd => h d' (List.mem_cons_of_mem _ hd)
    obtain ⟨⟨j2, j3, j4⟩, l2, l3, l4⟩ := h (a, c) List.mem_cons_self
    have e : (PyData.shown a ++ ": " ++ PyData.shown c).length = (PyData.shown a).length + 2 + (PyData.shown c).length := by
      rw [strLen_append, strLen_append]
      rfl
    refine ⟨?_, ?_, ?_, ?_⟩
    · show (PyData.showable a && PyData.showable c && PyData.showableKv ds) = true
      rw [show PyData.showable a = true from j2, show PyData.showable c = true from l2, i2]; rfl
    · show max (max (PyData.depth a) (PyData.depth c)) (PyData.depthKv ds) ≤ b
      have : PyData.depth a ≤ b := j3
      have : PyData.depth c ≤ b := l3
      omega
    · show (((PyData.shown a ++ ": " ++ PyData.shown c) :: PyData.shownKv ds).map (·.length)).sum ≤ (2 * n + 2) * (ds.length + 1)
      rw [List.map_cons, List.sum_cons, Nat.mul_succ, e]
      have : (PyData.shown a).length ≤ n := j4
      have : (PyData.shown c).length ≤ n := l4
      omega
    · show (PyData.shownKv ds).length + 1 = ds.length + 1
      rw [i5]
theorem sx_dict {b n m : Nat} {ds : List (PyData × PyData)} (h : ∀ d ∈ ds, SzX b n d.1 ∧ SzX b n d.2) (hl : ds.length ≤ m) : SzX (b + 1) ((2 * n + 2) * m + 2 * m + 3) (.dict ds) := by
  obtain ⟨k2, k3, k4, k5⟩ := sx_kv h
  refine ⟨k2, by show PyData.depthKv ds + 1 ≤ b + 1; omega, ?_⟩
  simp only [PyData.shown]
  have := dictText_len_le (PyData.shownKv ds)
  rw [k5] at this
  have hm : (2 * n + 2) * ds.length ≤ (2 * n + 2) * m := Nat.mul_le_mul_left _ hl
  omega
def OxZ (K : PySem.W.Frag) (H : Hp) (v : V) (d : PyData) : Prop := (Dp K H v d ∧ d.canLay0 = true) ∨ Dx K H v d
theorem OxZ.same {K : PySem.W.Frag} {H H' : Hp} (s : Same H H') {v : V} {d : PyData} (h : OxZ K H v d) : OxZ K H' v d := h.imp (fun h => ⟨dp_same s _ _ h.1, h.2⟩) (Dx.same s)
def rReprZ (K : PySem.W.Frag) : List V → Hp → VK → Prop := fun xs H Q => ∃ (x : V) (d : PyData), xs = [x] ∧ OxZ K H x d ∧ SzX 40 sizeLine d ∧ Q (.str d.shown) H
theorem call_reprZ {X : Cx} {k : Nat} (hg : X.A.guards = some []) (hr : Room k X.A) : CallR X (.builtin "repr") (rReprZ X.K) := by
  intro pins s σ H xs us Q I r h
  obtain ⟨x, d, rfl, hd, ⟨hs, h40, hz⟩, q⟩ := h
  rcases hd with ⟨hd, hl⟩ | hd
  · exact call_reprG hg hr pins s σ H [x] us Q I r ⟨x, d, rfl, hd, hl, hs, h40, hz, q⟩
  obtain ⟨u, rfl, rx⟩ := vals1 r
  have un : X.A.units + 100 < cLine := by have := hr.un; omega
  obtain ⟨as, rd, hn⟩ := Dx.reads I hd rx
  have str : ∀ (y : Str) (h' : Heap) (tk tk' : Tok) (n : Nat), d.shown = y → (∀ b o, s.heap.get? b = some o → h'.get? b = some o) → EP X pins σ Q (.str y tk) { s with heap := h', toks := n } := by
    rintro _ h' tk tk' n rfl kk
    exact ⟨.str d.shown, H, I.kept kk, ⟨_, rfl⟩, q⟩
  cases rd with
  | none => exact PySem.P.repr_of_none (str _ _ _ 0 _ rfl fun _ _ z => z)
  | bool b => exact PySem.P.repr_of_bool (str _ _ _ 0 _ (by simp only [PyData.shown]) fun _ _ z => z)
  | int i t =>
    have hs2 : i.natAbs.log2 < 1920 := by simpa [PyData.showable] using hs
    exact PySem.P.repr_of_int hs2 (str _ _ _ 0 _ (by simp only [PyData.shown]) fun _ _ z => z)
  | str y t =>
    have hz2 : (reprText y).length ≤ sizeLine := by simpa only [PyData.shown] using hz
    exact PySem.P.repr_of_str (str _ _ _ 0 _ (by simp only [PyData.shown]) fun _ _ z => z) hz2
  | list h1 h2 h3 h4 => exact repr_of_reads' (.list h1 h2 h3 h4) hs (fun _ => hn) hg (by omega) (fun _ _ z => z) (fun h' u tk kk => str _ _ _ 0 _ rfl kk) hz
  | tuple h1 h2 h3 h4 => exact repr_of_reads' (.tuple h1 h2 h3 h4) hs (fun _ => hn) hg (by omega) (fun _ _ z => z) (fun h' u tk kk => str _ _ _ 0 _ rfl kk) hz
  | dict h1 h2 h3 h4 h5 => exact repr_of_reads' (.dict h1 h2 h3 h4 h5) hs (fun _ => hn) hg (by omega) (fun _ _ z => z) (fun h' u tk kk => str _ _ _ 0 _ rfl kk) hz
/-! ### things by place -/
def Al {α : Type} (R : V → α → Prop) (xs : List V) (qs : List α) : Prop := xs.length = qs.length ∧ ∀ (i : Nat) (x : V), xs[i]? = some x → ∃ q, qs[i]? = some q ∧ R x q
section
variable {α : Type} {R : V → α → Prop} {xs ys : List V} {ps qs : List α}
theorem Al.app (h : Al R xs ps) (g : Al R ys qs) : Al R (xs ++ ys) (ps ++ qs) := by
  refine ⟨by rw [List.length_append, List.length_append, h.1, g.1], fun i x e => ?_⟩
  by_cases c : i < xs.length
  · rw [List.getElem?_append_left c] at e
    rw [List.getElem?_append_left (by rw [← h.1]; exact c)]
    exact h.2 i x e
  · rw [List.getElem?_append_right (by omega)] at e
    rw [List.getElem?_append_right (by rw [← h.1]; omega), ← h.1]
    exact g.2 _ x e
theorem Al.take (h : Al R xs ps) (r : Nat) : Al R (xs.take r) (ps.take r) := by
  refine ⟨by rw [List.length_take, List.length_take, h.1], fun i x e => ?_⟩
  rw [List.getElem?_take] at e ⊢
  by_cases c : i < r
  · rw [if_pos c] at e ⊢
    exact h.2 i x e
  · rw [if_neg c] at e; cases e
theorem Al.drop (h : Al R xs ps) (r : Nat) : Al R (xs.drop r) (ps.drop r) := by
  refine ⟨by rw [List.length_drop, List.length_drop, h.1], fun i x e => ?_⟩
  rw [List.getElem?_drop] at e ⊢
  exact h.2 _ x e
theorem Al.one {x : V} {q : α} (h : R x q) : Al R [x] [q] := by
  refine ⟨rfl, fun i y e => ?_⟩
  cases i with
  | zero => cases e; exact ⟨_, rfl, h⟩
  | succ i => cases e
theorem Al.imp {S : V → α → Prop} (h : Al R xs ps) (k : ∀ x q, R x q → S x q) : Al S xs ps := ⟨h.1, fun i x e => let ⟨q, h1, h2⟩ := h.2 i x e; ⟨q, h1, k _ _ h2⟩⟩
theorem Al.erase (h : Al R xs ps) (r : Nat) : Al R (xs.eraseIdx r) (ps.eraseIdx r) := by
  rw [List.eraseIdx_eq_take_drop_succ, List.eraseIdx_eq_take_drop_succ]
  exact (h.take r).app (h.drop (r + 1))
end
/-! ### lists of items: data, or data with dicts -/
def LsP (K : PySem.W.Frag) (G : Hp) (xs : List V) (ds : List PyData) : Prop := DpAll K G xs ds ∧ ∀ d ∈ ds, Sz 2 2000 d
def LsX (K : PySem.W.Frag) (G : Hp) (xs : List V) (ds : List PyData) : Prop := DxAll K G xs ds ∧ ∀ d ∈ ds, SzX 2 2000 d
def LsO (K : PySem.W.Frag) (G : Hp) (xs : List V) : Prop := ∃ ds, LsP K G xs ds ∨ LsX K G xs ds
def LsB (K : PySem.W.Frag) (G : Hp) (xs : List V) : Prop := ∃ ds, LsP K G xs ds ∧ LsX K G xs ds
section
variable {K : PySem.W.Frag} {G H : Hp} {xs ys : List V}
theorem all_app {p : PyData → Prop} {ds es : List PyData} (h : ∀ d ∈ ds, p d) (g : ∀ d ∈ es, p d) : ∀ d ∈ ds ++ es, p d := fun d hd => (List.mem_append.mp hd).elim (h d) (g d)
theorem LsP.app {ds es : List PyData} (h : LsP K G xs ds) (g : LsP K G ys es) : LsP K G (xs ++ ys) (ds ++ es) := ⟨dpAll_app h.1 g.1, all_app h.2 g.2⟩
theorem LsX.app {ds es : List PyData} (h : LsX K G xs ds) (g : LsX K G ys es) : LsX K G (xs ++ ys) (ds ++ es) := ⟨h.1.app g.1, all_app h.2 g.2⟩
theorem LsB.o (h : LsB K G xs) : LsO K G xs := let ⟨ds, a, _⟩ := h; ⟨ds, .inl a⟩
theorem LsB.appB (h : LsB K G xs) (g : LsB K G ys) : LsB K G (xs ++ ys) := let ⟨_, a, b⟩ := h; let ⟨_, c, d⟩ := g; ⟨_, a.app c, b.app d⟩
theorem LsB.app (h : LsB K G xs) (g : LsO K G ys) : LsO K G (xs ++ ys) := by
  obtain ⟨ds, a, b⟩ := h
  obtain ⟨es, c | c⟩ := g
  · exact ⟨_, .inl (a.app c)⟩
  · exact ⟨_, .inr (b.app c)⟩
theorem LsO.app (h : LsO K G xs) (g : LsB K G ys) : LsO K G (xs ++ ys) := by
  obtain ⟨ds, a, b⟩ := g
  obtain ⟨es, c | c⟩ := h
  · exact ⟨_, .inl (c.app a)⟩
  · exact ⟨_, .inr (c.app b)⟩
theorem LsB.take (h : LsB K G xs) (n : Nat) : LsB K G (xs.take n) := let ⟨_, a, b⟩ := h; ⟨_, ⟨dpAll_take a.1, fun d hd => a.2 d (List.mem_of_mem_take hd)⟩, ⟨b.1.take n, fun d hd => b.2 d (List.mem_of_mem_take hd)⟩⟩
theorem LsB.drop (h : LsB K G xs) (n : Nat) : LsB K G (xs.drop n) := let ⟨_, a, b⟩ := h; ⟨_, ⟨dpAll_drop n a.1, fun d hd => a.2 d (List.mem_of_mem_drop hd)⟩, ⟨b.1.drop n, fun d hd => b.2 d (List.mem_of_mem_drop hd)⟩⟩
theorem LsB.same (s : Same G H) (h : LsB K G xs) : LsB K H xs := let ⟨_, a, b⟩ := h; ⟨_, ⟨dpAll_same s _ _ a.1, a.2⟩, ⟨b.1.same s, b.2⟩⟩
theorem LsO.same (s : Same G H) (h : LsO K G xs) : LsO K H xs := by
  obtain ⟨ds, a | a⟩ := h
  · exact ⟨_, .inl ⟨dpAll_same s _ _ a.1, a.2⟩⟩
  · exact ⟨_, .inr ⟨a.1.same s, a.2⟩⟩
theorem LsO.ofP {x : V} {d : PyData} (h : Dp K G x d) (s : Sz 2 2000 d) : LsO K G [x] := ⟨[d], .inl ⟨.cons h .nil, fun e he => by cases List.mem_singleton.mp he; exact s⟩⟩
theorem LsO.ofX {x : V} {d : PyData} (h : Dx K G x d) (s : SzX 2 2000 d) : LsO K G [x] := ⟨[d], .inr ⟨.cons h .nil, fun e he => by cases List.mem_singleton.mp he; exact s⟩⟩
/-- a list of them, as a whole -/
theorem LsO.lst {a : Addr} (h : LsO K G xs) (ha : G a = some (.lst xs)) (ns : a ≠ sysModules) (hl : xs.length ≤ 10) : ∃ d, OxZ K G (.ref a) d ∧ SzX 40 sizeLine d := by
  obtain ⟨ds, h | h⟩ := h
  · have e := dpAll_len h.1
    have s := sz_list (m := 10) h.2 (by omega)
    exact ⟨.list ds, .inl ⟨.lst (.inl (.of ha)) h.1, s.lay⟩, s.x.up (by decide) (by decide)⟩
  · have e := h.1.len
    have s := sx_list (m := 10) h.2 (by omega)
    exact ⟨.list ds, .inr (.lst ha ns h.1), s.up (by decide) (by decide)⟩
end
/-! ### an item of a list; a thing handed in as a chord -/
def Itm (K : PySem.W.Frag) (G : Hp) (x : V) : Prop := (∃ q, PartK K G x q) ∧ LsO K G [x]
theorem Itm.same {K : PySem.W.Frag} {G H : Hp} {x : V} (s : Same G H) (h : Itm K G x) : Itm K H x := ⟨let ⟨q, h⟩ := h.1; ⟨q, h.same s⟩, h.2.same s⟩
inductive Thg (K : PySem.W.Frag) (H0 H : Hp) (p : Addr) : V → Prop
  | oth {v : V} {d : PyData} : OthT K (off p H) "list" v → OxZ K (off p H) v d → SzX 40 sizeLine d → Thg K H0 H p v
  | lst {a : Addr} {xs : List V} {qs : List (Option (Str × V))} {d : PyData} : H a = some (.lst xs) → a ≠ p → BagOff H p a → Al (PartK K (off a (off p H))) xs qs → xs.length ≤ 10 → OxZ K (off p H) (.ref a) d → SzX 40 sizeLine d → H0 a = none → Thg K H0 H p (.ref a)
theorem Thg.same {K : PySem.W.Frag} {H0 H H' : Hp} {p : Addr} {v : V} (s : Same H H') (h : Thg K H0 H p v) : Thg K H0 H' p v := by
  cases h with
  | oth a b c => exact .oth (a.same (off_same s)) (b.same (off_same s)) c
  | lst a b c d e f g n => exact .lst (s _ _ a) b (c.same s) (d.imp fun _ _ z => z.same (off2_same s)) e (f.same (off_same s)) g n
theorem Thg.stp {K : PySem.W.Frag} {H0 H H' : Hp} {p : Addr} {v : V} (s : Stp p H H') (h : Thg K H0 H p v) : Thg K H0 H' p v := by
  cases h with
  | oth a b c => exact .oth (a.same s.off) (b.same s.off) c
  | lst a b c d e f g n => exact .lst (s.1 _ _ a b) b (s.2.2 _ c) (d.imp fun _ _ z => z.same (off_same s.off)) e (f.same s.off) g n
theorem Thg.back {K : PySem.W.Frag} {H1 H0 H : Hp} {p : Addr} {v : V} (s : Stp p H1 H0) (h : Thg K H0 H p v) : Thg K H1 H p v := by
  cases h with
  | oth a b c => exact .oth a b c
  | lst a b c d e f g n => exact .lst a b c d e f g (s.free n)
theorem off_new2 {D : Addr} {G G' : Hp} (s : Same G G') (n : G D = none) : Same G (off D G') := fun b o e => by
  rw [off_ne (fun z => by rw [z, n] at e; cases e)]
  exact s b o e
/-! ### the items of a list display, one by one -/
def ItE (Pv : Hp → V → Prop) (H0 : Hp) (te : TE) (σ : L2.St) : Prop := ∀ (H : Hp) (Q : VK), Same H0 H → (∀ (x : V) (H' : Hp), Same H H' → Pv H' x → Q x H') → te σ H Q
def ItA (Pv : Hp → V → Prop) (H0 : Hp) (t : TA) (σ : L2.St) (n : Nat) : Prop := ∀ (H : Hp) (Q : List V → Hp → Prop), Same H0 H → (∀ (xs : List V) (H' : Hp), Same H H' → xs.length = n → (∀ x ∈ xs, Pv H' x) → Q xs H') → t σ H Q
theorem ita_nil {Pv : Hp → V → Prop} {H0 : Hp} {σ : L2.St} : ItA Pv H0 tNil σ 0 := fun H Q s k => k [] H (.refl _) rfl (fun x h => by cases h)
theorem ita_cons {Pv : Hp → V → Prop} (mono : ∀ H H' x, Same H H' → Pv H x → Pv H' x) {H0 : Hp} {σ : L2.St} {te : TE} {t : TA} {n : Nat} (h : ItE Pv H0 te σ) (g : ItA Pv H0 t σ n) : ItA Pv H0 (tCons te t) σ (n + 1) := by
  intro H Q s k
  refine h H _ s fun x H1 s1 hx => ?_
  refine g H1 _ (s.trans s1) fun xs H2 s2 hl hxs => ?_
  refine k (x :: xs) H2 (s1.trans s2) (by rw [List.length_cons, hl]) fun y hy => ?_
  rcases List.mem_cons.mp hy with rfl | hy
  · exact mono _ _ _ s2 hx
  · exact hxs y hy
theorem lst_items {Pv : Hp → V → Prop} {H0 : Hp} {σ : L2.St} {t : TA} {n : Nat} {Q : VK} (h : ItA Pv H0 t σ n) (hn : n ≤ 1000) (k : ∀ (ys : List V) (H3 : Hp) (D : Addr), Same H0 H3 → H3 D = none → ys.length = n → (∀ y ∈ ys, Pv H3 y) → Q (.ref D) (upd H3 D (.lst ys))) : tLst t σ H0 Q :=
  h H0 _ (.refl _) fun ys H3 s3 hl hy => ⟨by have := sizeLine_big; omega, fun D nD => k ys H3 D s3 nD hl hy⟩
theorem ret_op {r : R2} {ta te : TE} {D : Ends} {σ : L2.St} {H : Hp} (h : ta σ H fun x H1 => te σ H1 fun y H2 => r x y H2 D.rt) : tRet (tOp r ta te) D σ H := h
theorem asg_op {r : R2} {ta te : TE} {g : TG} {D : Ends} {σ : L2.St} {H : Hp} (h : ta σ H fun x H1 => te σ H1 fun y H2 => r x y H2 fun z H3 => g z σ H3 D.nx) : tAsg (tOp r ta te) g D σ H := h
theorem asg_of {ta : TE} {g : TG} {D : Ends} {σ : L2.St} {H : Hp} (h : ta σ H fun z H3 => g z σ H3 D.nx) : tAsg ta g D σ H := h
end HG

/-! x != [] where nothing is known of the items -/
namespace HG
open PySem PySem.Spec PyProof.Rows L2 HF
def rNeL (K : PySem.W.Frag) : R2 := fun x y H Q => ∃ a b xs, x = .ref a ∧ y = .ref b ∧ SqL K H a xs ∧ SqL K H b [] ∧ Q (.bl (!xs.isEmpty)) H
theorem op_neL {X : Cx} (hu : X.A.units + 64 < cLine) : OpR X (compareOp .NotEq) (rNeL X.K) := by
  intro pins s σ H x y v u Q I rx ry h
  obtain ⟨a, b, xs, rfl, rfl, ha, hb, q⟩ := h
  cases rx
  cases ry
  cases xs with
  | nil => exact op_neD hu pins s σ H (.ref a) (.ref b) _ _ Q I rfl rfl ⟨.list [], .list [], .lst ha .nil, .lst hb .nil, rfl, rfl, q⟩
  | cons x xs =>
    obtain ⟨its, r, pl, _⟩ := I.list ha
    obtain ⟨its2, r2, pl2, _⟩ := I.list hb
    have h1 := r.length
    have h2 := r2.length
    refine SeqAt.RcNeAt.lists_lengths pl.isList pl2.isList ?_ (by omega) _ _ _ _ ⟨.bl true, H, I, rfl, q⟩
    rw [List.size_toArray, List.size_toArray, ← h1, ← h2]
    rfl
end HG

namespace P52
open PySem PySem.Spec PyProof.Rows L2 HG
def topS (i : Nat) : Stmt := PySem.Challenge.pw_halfpace_k52_whole_no_sooner.main.body.getD i (.Pass ⟨0, 0, 0, 0⟩)
abbrev P__wall : Stmt := topS 0
abbrev P_is_whole : Stmt := topS 5
abbrev P_is_below : Stmt := topS 6
abbrev P_is_name : Stmt := topS 7
abbrev P__is_small : Stmt := topS 8
abbrev P_is_pace : Stmt := topS 9
abbrev C_SongError : Stmt := topS 11
abbrev C_Wrong : Stmt := topS 12
abbrev C_Wrong_init : Stmt := inClass (topS 12) 0
abbrev C_BadVoice : Stmt := topS 13
abbrev C_BadVoice_init : Stmt := inClass (topS 13) 0
abbrev P_figures_of : Stmt := topS 15
abbrev P_reached_reach : Stmt := topS 17
abbrev C_Choir : Stmt := topS 24
abbrev C_Choir_init : Stmt := inClass (topS 24) 0
abbrev C_Choir_fill : Stmt := inClass (topS 24) 1
abbrev C_Choir_ways_of : Stmt := inClass (topS 24) 2
abbrev C_Choir_way : Stmt := inClass (topS 24) 3
abbrev C_Choir_numbered : Stmt := inClass (topS 24) 4
abbrev C_Choir_eq : Stmt := inClass (topS 24) 5
abbrev C_Choir_len : Stmt := inClass (topS 24) 6
abbrev C_Choir_pace : Stmt := inClass (topS 24) 7
abbrev C_Choir_notes : Stmt := inClass (topS 24) 8
abbrev C_Choir_names : Stmt := inClass (topS 24) 9
abbrev C_Choir_place : Stmt := inClass (topS 24) 10
abbrev C_Choir_elder : Stmt := inClass (topS 24) 11
abbrev C_Choir_table : Stmt := inClass (topS 24) 12
abbrev C_Choir_voices : Stmt := inClass (topS 24) 13
abbrev C_Choir_led : Stmt := inClass (topS 24) 14
abbrev C_Choir_behind : Stmt := inClass (topS 24) 15
abbrev C_Choir_number : Stmt := inClass (topS 24) 16
abbrev C_Choir_steps : Stmt := inClass (topS 24) 17
abbrev C_Choir_reached : Stmt := inClass (topS 24) 18
abbrev C_Choir_tree : Stmt := inClass (topS 24) 19
abbrev C_Choir_levels_of : Stmt := inClass (topS 24) 20
abbrev C_Choir_hangs : Stmt := inClass (topS 24) 21
abbrev C_Choir_only : Stmt := inClass (topS 24) 22
abbrev C_Choir_seen : Stmt := inClass (topS 24) 23
abbrev P__refuse_wrong : Stmt := topS 25
abbrev P__are_few : Stmt := topS 26
abbrev P__refuse_bad_voices : Stmt := topS 27
abbrev P__is_voice : Stmt := topS 28
abbrev P__is_table : Stmt := topS 29
abbrev P__is_tuple_of : Stmt := topS 30
abbrev P__rows : Stmt := topS 31
abbrev P_standings : Stmt := topS 32
abbrev P_is_standing : Stmt := topS 33
abbrev P_waits : Stmt := topS 35
abbrev P_are_waits : Stmt := topS 36
abbrev P__is_pair : Stmt := topS 37
abbrev sBag : Stmt := topS 39
abbrev sTake : Stmt := topS 40
abbrev sNames : Stmt := topS 41
abbrev sTable : Stmt := topS 42
abbrev sParts : Stmt := topS 43
abbrev sChoir : Stmt := topS 44
abbrev sStanding : Stmt := topS 45
abbrev sLed : Stmt := topS 46
abbrev sBehind : Stmt := topS 47
abbrev sBeat : Stmt := topS 48
abbrev sEquation : Stmt := topS 49
abbrev sLaw : Stmt := topS 50
section
variable {P : Program} {w : World} {K : PySem.W.Frag} {mg : Str → Option Value} {base : Heap}
theorem scBag : FnScope ["script", "cell"] ["script"] (defScope sBag) := ⟨rfl, rfl, rfl, by decide +kernel, rfl, by decide +kernel, by decide +kernel⟩
theorem ok_bag {f : Addr} {fd : FuncData} {k : Nat} (F : Fun K "_law_bag" "_law_bag" sBag f fd) (ma : mg "abs" = none) : FnOk P w K mg base CX0 (k + 1) f fd ["script"] (spBag K) := by
  refine F.ok scBag (fun vs H Q E h => ?_) (fun cdv A outer s H vs Q E hr h => ?_)
  · obtain ⟨a, ns, rfl, _⟩ := h
    rfl
  · obtain ⟨a, ns, rfl, hS, hl, k⟩ := h
    refine ⟨_, pss_one (ps_ret (pe_lst (pa_cons pe_int (pa_cons pe_int (pa_cons pe_int (pa_cons
      (pe_lc (own := [("cell", 1)]) (g := gName 1) (tt := tYes) rfl scBag.nd (pi_list (pe_slice sl_list (pv 0) po_none (po_some pe_int))) (blkOk_by (N := ["script", "cell"]) (sc := defScope sBag) (by decide +kernel))
        (fun _ _ _ _ _ => pg_name (i := 1) scBag.nd rfl (Or.inl rfl)) (fun _ _ _ _ _ => pts_nil)
        (fun _ _ _ _ _ => pe_callB call_abs (by rfl) ma (by decide +kernel) (pa_cons (pv 1) pa_nil))) pa_nil)))))), ?_⟩
    refine ⟨.ref a, rfl, 63, rfl, a, ns.map V.int, rfl, hS, fun c nc => ?_⟩
    have hcut : cutV (ns.map V.int) none (some 63) = ns.map V.int := by
      unfold cutV
      rw [HT.sIx_none, List.drop_zero, show HT.sIx (ns.map V.int).length (ns.map V.int).length (some 63) = min 63 (ns.map V.int).length from HT.sIx_nat _ _ 63, List.length_map]
      apply List.take_of_length_le
      rw [List.length_map]
      omega
    rw [hcut]
    have s1 : Same H (upd H c (.lst (ns.map V.int))) := same_upd nc
    refine ⟨c, rfl, ⟨_, .of upd_same⟩, fun D hD => ?_⟩
    have ncD : c ≠ D := fun e => by rw [← e, upd_same] at hD; cases hD
    refine lc_list (K := K) (a := c) (xs := ns.map V.int) (fun i H' => ∃ ms : List Int, Same H H' ∧ H' c = some (.lst (ns.map V.int)) ∧ H' D = some (.lst (ms.map V.int)) ∧ ms.length = i ∧ D ≠ c) ?_ ?_ ?_ ?_
    · refine ⟨[], ?_, ?_, upd_same, rfl, ncD.symm⟩
      · exact s1.trans (same_upd hD)
      · rw [upd_ne ncD, upd_same]
    · rintro i H' hi ⟨ms, q1, q2, q3, q4, q5⟩
      exact .of q2
    · rintro i x H' hi ⟨ms, q1, q2, q3, q4, q5⟩
      obtain ⟨z, rfl⟩ : ∃ z, x = V.int z := by
        rw [List.getElem?_map] at hi
        cases e : ns[i]? with
        | none => rw [e] at hi; cases hi
        | some z => rw [e] at hi; exact ⟨z, (Option.some.inj hi).symm⟩
      have hil : i < (ns.map V.int).length := (List.getElem?_eq_some_iff.mp hi).1
      rw [List.length_map] at hil
      have hD' : H D = none := by
        have : (upd H c (.lst (ns.map V.int))) D = H D := upd_ne ncD.symm
        rw [← this]; exact hD
      refine ⟨rfl, .int z, rfl, _, rfl, ms.map V.int, q3, ?_, ms ++ [if z < 0 then -z else z], fun b o e => ?_, ?_, ?_, ?_, q5⟩
      · rw [List.length_map]; exact small1000 (by omega)
      · rw [upd_ne (ne_of_none e hD')]
        exact q1 b o e
      · rw [upd_ne ncD]; exact q2
      · rw [upd_same, List.map_append]; rfl
      · rw [List.length_append]; simp [q4]
    · rintro H' ⟨ms, q1, q2, q3, q4, q5⟩
      refine ⟨by show 4 ≤ sizeLine; decide, fun p hp => ?_⟩
      have hpn : H p = none := q1.free hp
      have nDp : D ≠ p := ne_of_none q3 hp
      exact k p _ (q1.trans (same_upd hp)) hpn ⟨D, 0, 1234567891, 0, ms, upd_same, by rw [upd_ne nDp]; exact q3, by decide⟩
theorem scTake : FnScope ["bag", "many", "cell", "value", "first", "second"] ["bag", "many"] (defScope sTake) := ⟨rfl, rfl, rfl, by decide +kernel, rfl, by decide +kernel, by decide +kernel⟩
theorem ok_take2 {f : Addr} {fd : FuncData} {k : Nat} (F : Fun K "_law_take" "_law_take" sTake f fd) (ml : mg "len" = none) : FnOk P w K mg base CX0 (k + 1) f fd ["bag", "many"] spTake2 := by
  refine F.ok scTake (fun vs H Q E h => ?_) (fun cdv A outer s H vs Q E hr h => ?_)
  · obtain ⟨p, m, rfl, _⟩ := h
    rfl
  · obtain ⟨p, m, rfl, ⟨c, b0, b1, b2, cs, hb, hc, h2⟩, hm, hm2, k⟩ := h
    have ncp : c ≠ p := bag_ne hb hc
    refine ⟨_, Evl.pss_cut (ps_if (pt_cmpR op_eq (pe_ix ix_list (pv 0) pe_int (fun _ _ => rfl)) pe_int (nomark _))
        (pss_cons (ps_set (i := 2) scTake.nd rfl (.inl rfl) pe_int)
        (Evl.pss_cut (ps_if (pt_cmpR op_lt (pe_ix ix_list (pv 0) pe_int (fun _ _ => rfl)) (pe_callB call_len_seq (by rfl) ml PySem.boot_len (pa_cons (pe_ix ix_list (pv 0) pe_int (fun _ _ => rfl)) pa_nil)) (nomark _))
            (pss_one (ps_set (i := 2) scTake.nd rfl (.inl rfl) (pe_ix ix_list (pe_ix ix_list (pv 0) pe_int (fun _ _ => rfl)) (pe_ix ix_list (pv 0) pe_int (fun _ _ => rfl)) (fun _ _ => rfl)))) pss_nil)
        (pss_cons (ps_augS (pv 0) pe_int get_list pe_int ip_add set_list)
        (Evl.pss_cut (ps_if (pt_cmpR op_ge (pv 2) pe_int (nomark _)) (pss_one (ps_asg (pv 2) (pg_sub (pv 0) pe_int set_list))) pss_nil)
        (pss_one (ps_asg (pe_op op_mod (pe_op op_add (pe_op op_add (pe_op op_mul (pe_ix ix_list (pv 0) pe_int (fun _ _ => rfl)) pe_int) (pe_op op_mod (pv 2) pe_int)) (pe_op op_mul pe_int (pe_ix ix_list (pv 0) pe_int (fun _ _ => rfl)))) pe_int) (pg_sub (pv 0) pe_int set_list))))))) pss_nil)
      (pss_cons (ps_if (pt_cmpR op_gt (pe_ix ix_list (pv 0) pe_int (fun _ _ => rfl)) pe_int (nomark _))
        (pss_cons (ps_set (i := 3) scTake.nd rfl (.inl rfl) (pe_op op_mod (pe_ix ix_list (pv 0) pe_int (fun _ _ => rfl)) (pv 1)))
        (pss_cons (ps_asg (pe_op op_fdivW (pe_ix ix_list (pv 0) pe_int (fun _ _ => rfl)) (pv 1)) (pg_sub (pv 0) pe_int set_list))
        (pss_one (ps_ret (pv 3))))) pss_nil)
      (pss_cons (ps_set (i := 4) scTake.nd rfl (.inl rfl) (pe_op op_mod (pe_op op_mul (pe_op op_add (pe_ix ix_list (pv 0) pe_int (fun _ _ => rfl)) pe_int) pe_int) pe_int))
      (pss_cons (ps_set (i := 5) scTake.nd rfl (.inl rfl) (pe_op op_mod (pe_op op_mul (pe_op op_mod (pe_op op_mul (pv 4) (pv 4)) pe_int) pe_int) pe_int))
      (pss_cons (ps_if (pt_cmpR op_gt (pv 1) pe_int (nomark _)) (pss_one (ps_ret (pe_op op_mod (pe_op op_add (pe_op op_mul (pv 5) pe_int) (pv 4)) (pv 1)))) pss_nil)
      (pss_one (ps_ret (pe_op op_mod (pe_op op_fdiv (pv 5) pe_int) (pv 1)))))))), ?_⟩
    refine ⟨fun σ H' => ∃ (o2 : Option V) (b0 b1 b2 : Int), σ = [some (.ref p), some (.int m), o2, none, none, none] ∧ H' = upd H p (bagL b0 b1 b2 c) ∧ 0 ≤ b2, ?_, ?_⟩
    · refine ⟨_, rfl, p, _, 0, .int b0, rfl, rfl, .of hb, rfl, rfl, _, rfl, ite2 (fun _ => ?_) (fun _ => ?_)⟩
      · -- cell = 0
        refine ⟨fun σ H' => H' = H ∧ ∃ z, σ = [some (.ref p), some (.int m), some (.int z), none, none, none], ?_, ?_⟩
        · refine ⟨_, rfl, p, _, 2, .int b2, rfl, rfl, .of hb, rfl, _, rfl, p, _, 3, .ref c, rfl, rfl, .of hb, rfl, c, cs.map V.int, rfl, .inl (.of hc), _, _, rfl, rfl, _, rfl, ite2 (fun hlt => ?_) (fun _ => ?_)⟩
          · have hlt := of_decide_eq_true hlt
            have hj : b2.toNat < cs.length := by rw [List.length_map] at hlt; omega
            refine ⟨_, rfl, p, _, 3, .ref c, rfl, rfl, .of hb, rfl, _, rfl, p, _, 2, .int b2, rfl, rfl, .of hb, rfl, c, cs.map V.int, b2, .int cs[b2.toNat], rfl, rfl, .of hc, ?_, rfl, _, rfl⟩
            apply atI_int h2
            rw [List.getElem?_map, List.getElem?_eq_getElem (by simpa using hj)]
            rfl
          · exact ⟨rfl, 0, rfl⟩
        · rintro σ H1 ⟨rfl, z, rfl⟩
          refine ⟨_, rfl, p, _, 2, .int b2, rfl, rfl, .of hb, by decide, rfl, _, _, rfl, rfl, p, _, 2, 2, rfl, rfl, hb, rfl, ?_⟩
          have e1 : upd H1 p (HO.lst ([V.int b0, V.int b1, V.int b2, V.ref c].set 2 (V.int (b2 + 1)))) = upd H1 p (bagL b0 b1 (b2 + 1) c) := rfl
          refine ⟨fun σ H2 => ∃ b0, H2 = upd H1 p (bagL b0 b1 (b2 + 1) c) ∧ σ = [some (.ref p), some (.int m), some (.int z), none, none, none], ?_, ?_⟩
          · refine ⟨_, rfl, _, _, rfl, rfl, _, rfl, ite2 (fun _ => ?_) (fun _ => ?_)⟩
            · refine ⟨_, rfl, _, rfl, p, _, 0, 0, rfl, rfl, upd_same, rfl, z, ?_, rfl⟩
              rw [upd_upd]
              rfl
            · exact ⟨b0, rfl, rfl⟩
          · rintro σ _ ⟨b0', rfl, rfl⟩
            refine ⟨_, rfl, p, _, 1, .int b1, rfl, rfl, .of upd_same, rfl, _, _, rfl, rfl, .inr ⟨by decide, by decide⟩, _, rfl, _, _, rfl, rfl, (by show (0 : Int) < 2147483647; decide), _, _, rfl, rfl, _, rfl, p, _, 2, .int (b2 + 1), rfl, rfl, .of upd_same, rfl, _, _, rfl, rfl, .inl ⟨by decide, by decide⟩, _, _, rfl, rfl, _, _, rfl, rfl, (by show (0 : Int) < 2147483647; decide), _, rfl, p, _, 1, 1, rfl, rfl, upd_same, rfl, _, b0', _, b2 + 1, rfl, upd_upd, by omega⟩
      · exact ⟨none, b0, b1, b2, rfl, (upd_self hb).symm, h2⟩
    · rintro σ _ ⟨o2, d0, d1, d2, rfl, rfl, hd⟩
      have hB : ∀ x y z : Int, 0 ≤ z → Bag (upd H p (bagL x y z c)) p := fun x y z hz => ⟨c, x, y, z, cs, upd_same, by rw [upd_ne ncp]; exact hc, hz⟩
      refine ⟨_, rfl, p, _, 0, .int d0, rfl, rfl, .of upd_same, rfl, _, _, rfl, rfl, _, rfl, ite2 (fun hpos => ?_) (fun _ => ?_)⟩
      · refine ⟨_, rfl, p, _, 0, .int d0, rfl, rfl, .of upd_same, rfl, _, rfl, _, _, rfl, rfl, hm, ?_⟩
        refine ⟨_, rfl, p, _, 0, .int d0, rfl, rfl, .of upd_same, rfl, _, rfl, _, _, rfl, rfl, wide_div hm hm2 (by decide) (by decide), _, rfl, p, _, 0, 0, rfl, rfl, upd_same, rfl, _, rfl, ?_⟩
        rw [upd_upd]
        exact k _ _ (Int.emod_nonneg _ (by omega)) (Int.emod_lt_of_pos _ hm) (hB _ _ _ hd) (fun q B => B.put hb hd)
      · refine ⟨_, rfl, p, _, 1, .int d1, rfl, rfl, .of upd_same, rfl, _, _, rfl, rfl, _, _, rfl, rfl, .inr ⟨by decide, by decide⟩, _, _, rfl, rfl, (by show (0 : Int) < 1000000007; decide), ?_⟩
        have hf0 : 0 ≤ (d1 + 1) * 39373 % 1000000007 := Int.emod_nonneg _ (by decide)
        have hf1 : (d1 + 1) * 39373 % 1000000007 < 1000000007 := Int.emod_lt_of_pos _ (by decide)
        generalize (d1 + 1) * 39373 % 1000000007 = fst at *
        refine ⟨_, rfl, _, rfl, _, _, rfl, rfl, .inl ⟨by omega, by omega⟩, _, _, rfl, rfl, (by show (0 : Int) < 998244353; decide), _, _, rfl, rfl, .inr ⟨by decide, by decide⟩, _, _, rfl, rfl, (by show (0 : Int) < 998244353; decide), ?_⟩
        generalize fst * fst % 998244353 * 30011 % 998244353 = snd
        refine ⟨_, rfl, _, _, rfl, rfl, _, rfl, ite2 (fun _ => ?_) (fun _ => ?_)⟩
        · refine ⟨_, rfl, _, _, rfl, rfl, .inr ⟨by decide, by decide⟩, _, rfl, _, _, rfl, rfl, _, rfl, _, _, rfl, rfl, hm, ?_⟩
          exact k _ _ (Int.emod_nonneg _ (by omega)) (Int.emod_lt_of_pos _ hm) (hB _ _ _ hd) (fun q B => B.put hb hd)
        · refine ⟨_, rfl, _, _, rfl, rfl, ⟨by decide, by decide⟩, _, rfl, _, _, rfl, rfl, hm, ?_⟩
          exact k _ _ (Int.emod_nonneg _ (by omega)) (Int.emod_lt_of_pos _ hm) (hB _ _ _ hd) (fun q B => B.put hb hd)
theorem ok_take {f : Addr} {fd : FuncData} {k : Nat} (F : Fun K "_law_take" "_law_take" sTake f fd) (ml : mg "len" = none) : FnOk P w K mg base CX0 (k + 1) f fd ["bag", "many"] spTake := (ok_take2 F ml).imp take_imp
end
end P52

namespace P52
open PySem PySem.Spec PyProof.Rows L2 HG HF
section
variable {P : Program} {w : World} {K : PySem.W.Frag} {mg : Str → Option Value} {base : Heap}
/-! ### numbers' figures -/
theorem kcFg : FnScope ["number", "pace", "figures", "rest"] ["number", "pace"] (defScope P_figures_of) := ⟨rfl, rfl, rfl, by decide +kernel, rfl, by decide +kernel, by decide +kernel⟩
theorem ok_figs {f : Addr} {fd : FuncData} {k : Nat} (F : Fun K "figures_of" "figures_of" P_figures_of f fd) (md : mg "divmod" = none) : FnOk P w K mg base CX0 (k + 1) f fd ["number", "pace"] spFigsN := by
  refine F.ok kcFg (fun vs H Q E h => ?_) (fun cdv A outer s H vs Q E hr h => ?_)
  · obtain ⟨n, p, rfl, _⟩ := h
    rfl
  · obtain ⟨n, p, rfl, hp, hp4, hn, k⟩ := h
    refine ⟨_, (pss_cons (ps_set (i := 2) kcFg.nd rfl (.inl rfl) (pe_lst pa_nil))
      (pss_cons (ps_while PassesOwn.never (pt_cmpR op_gt (pv 0) pe_int (nomark _))
         (pss_cons (ps_asg (pe_callB call_divmodW (by rfl) md (by decide +kernel) (pa_cons (pv 0) (pa_cons (pv 1) pa_nil))) (pg_tup rfl (pgs_cons (pg_name (i := 0) kcFg.nd rfl (.inl rfl)) (pgs_cons (pg_name (i := 3) kcFg.nd rfl (.inl rfl)) pgs_nil))))
         (pss_one (ps_expr (pe_bm PySem.F.plainAttrs_list PySem.F.slot_list_append PySem.F.type_list_append mt_append (pv 2) (pa_cons (pv 3) pa_nil))))))
      (pss_one (ps_ret (pe_revL (pv 2)))))), ?_⟩
    refine ⟨Nat.zero_le _, fun fr nfr => ?_⟩
    refine while_by (fun σ H' => ∃ (m : Nat) (ds : List Nat) (o : Option V), σ = [some (.int (m : Int)), some (.int (p : Int)), some (.ref fr), o] ∧ m < 2 ^ 1000 ∧ Same H H' ∧ H' fr = some (.lst (nVs ds)) ∧ ds ++ L p m = L p n) (fun σ _ => match σ with | some (.int m) :: _ => m.toNat | _ => 0) ?_ ?_ (mo_test (mo_op mo_rI0 mo_var mo_c))
    · exact ⟨n, [], none, rfl, hn, same_upd nfr, upd_same, rfl⟩
    · rintro σ H1 ⟨m, ds, o, rfl, hm, s1, hf, e⟩
      have hpow : (2 : Nat) ^ 1000 ≤ p ^ 1000 := Nat.pow_le_pow_left hp 1000
      have hlen : (L p n).length ≤ 1000 := L_len hp 1000 n (by omega)
      refine ⟨_, rfl, _, _, rfl, rfl, _, rfl, ite2 (fun c => ?_) (fun c => ?_)⟩
      · have c : (0 : Int) < (m : Int) := of_decide_eq_true c
        have hdv : CDivP (m : Int) (p : Int) := divp_ok (by omega) (by
          have := PyProof.Rows.intBits_le (a := (m : Int)) (k := 1000) (by omega)
          omega)
        refine ⟨_, rfl, _, rfl, _, _, rfl, hdv, fun t nt => ?_⟩
        have nft : fr ≠ t := ne_of_none hf nt
        refine ⟨t, _, rfl, .of upd_same, rfl, _, _, rfl, _, _, rfl, rfl, ?_⟩
        have e2 := L_pos hp (show m ≠ 0 by omega)
        rw [e2] at e
        have hl2 : ds.length + 1 ≤ 1000 := by
          have := congrArg List.length e
          rw [List.length_append, List.length_cons] at this
          omega
        refine ⟨_, rfl, .inl ⟨rfl, _, .of (by rw [upd_ne nft]; exact hf)⟩, _, rfl, fr, _, _, rfl, rfl, by rw [upd_ne nft]; exact hf, ?_, ?_⟩
        · rw [nVs_len]
          exact small1000 (by omega)
        · refine ⟨⟨m / p, ds ++ [m % p], some (.int ((m : Int) % (p : Int))), ?_, ?_, ?_, ?_, ?_⟩, ?_⟩
          · show _ = [some (V.int ((m / p : Nat) : Int)), some (V.int (p : Int)), some (V.ref fr), some (V.int ((m : Int) % (p : Int)))]
            rw [Int.natCast_ediv] <;> rfl
          · have := Nat.div_le_self m p
            omega
          · intro b x hb
            have n1 : b ≠ fr := ne_of_none hb nfr
            rw [upd_ne n1]
            exact same_upd nt _ _ (s1 _ _ hb)
          · rw [upd_same, nVs_app]
            show some (HO.lst (_ ++ [V.int ((m : Int) % (p : Int))])) = some (HO.lst (_ ++ [V.int ((m % p : Nat) : Int)]))
            rw [Int.natCast_emod]
          · rw [List.append_assoc]
            exact e
          · show ((m : Int) / (p : Int)).toNat < (m : Int).toNat
            have := Nat.div_lt_self (show 0 < m by omega) (show 1 < p by omega)
            rw [← Int.natCast_ediv]
            omega
      · have c : ¬ (0 : Int) < (m : Int) := fun z => c (decide_eq_true z)
        obtain rfl : m = 0 := by omega
        rw [L_zero, List.append_nil] at e
        refine ⟨_, rfl, fr, _, rfl, .of hf, fun q nq => ?_⟩
        refine k q _ (s1.trans (same_upd nq)) (s1.free nq) ?_
        rw [upd_same, e]
        unfold figs nVs
        rw [List.map_reverse]
/-! ### kinds -/
theorem kcW : FnScope ["thing"] ["thing"] (defScope P_is_whole) := ⟨rfl, rfl, rfl, by decide +kernel, rfl, by decide +kernel, by decide +kernel⟩
theorem ok_whole {f : Addr} {fd : FuncData} {k : Nat} (F : Fun K "is_whole" "is_whole" P_is_whole f fd) (mI : mg "isinstance" = none) (mi : mg "int" = none) (mb : mg "bool" = none) : FnOk P w K mg base CX0 (k + 1) f fd ["thing"] (spK K wh) := by
  refine F.ok kcW (fun vs H Q E h => ?_) (fun cdv A outer s H vs Q E hr h => ?_)
  · obtain ⟨x, rfl, _⟩ := h
    rfl
  · obtain ⟨x, rfl, hx, k⟩ := h
    obtain ⟨t, ty, k1, k2, k3⟩ := known_ty hx
    refine ⟨_, (pss_one (ps_ret (pe_and (pe_callB (id := "isinstance") (r := rIsi K) call_isi (by rfl) mI (by decide +kernel) (pa_cons (pv 0) (pa_cons (pe_bltn (v := .ty "int") (by rfl) mi (by decide +kernel) rfl) pa_nil))) (pe_one (pe_not (pe_callB (id := "isinstance") (r := rIsi K) call_isi (by rfl) mI (by decide +kernel) (pa_cons (pv 0) (pa_cons (pe_bltn (v := .ty "bool") (by rfl) mb (by decide +kernel) rfl) pa_nil)))))))), ?_⟩
    refine ⟨_, rfl, _, _, _, _, _, rfl, .ty _, ty, k1, _, rfl, ?_⟩
    have k := k H (Same.refl _)
    rw [← wh_eq] at k
    cases e : xInt x with
    | false =>
      rw [e] at k
      exact iteF k
    | true =>
      rw [e] at k
      exact iteT ⟨_, rfl, _, _, _, _, _, rfl, .ty _, ty, k2, _, rfl, k⟩
theorem kcBl : FnScope ["thing", "limit"] ["thing", "limit"] (defScope P_is_below) := ⟨rfl, rfl, rfl, by decide +kernel, rfl, by decide +kernel, by decide +kernel⟩
theorem ok_below {f : Addr} {fd : FuncData} (F : Fun K "is_below" "is_below" P_is_below f fd) (dW : Df P w K mg base "is_whole" 1 ["thing"] (spK K wh)) : FnOk P w K mg base CX0 2 f fd ["thing", "limit"] (spBlw K) := by
  refine F.ok kcBl (fun vs H Q E h => ?_) (fun cdv A outer s H vs Q E hr h => ?_)
  · obtain ⟨x, n, rfl, _⟩ := h
    rfl
  · obtain ⟨x, n, rfl, hx, k⟩ := h
    refine ⟨_, (pss_one (ps_ret (pe_and (pe_cD dW hr (by rfl) (pa_cons (pv 0) pa_nil)) (pe_one (pe_chain op_le op_lt pe_int (pv 0) (pv 1)))))), ?_⟩
    refine ⟨_, rfl, x, rfl, hx, fun H1 s1 => ⟨_, rfl, ?_⟩⟩
    have k := k H1 s1
    cases x with
    | int i =>
      refine iteT ⟨_, rfl, _, _, rfl, rfl, _, rfl, ite2 (fun c => ?_) (fun c => ?_)⟩
      · have c : (0 : Int) ≤ i := of_decide_eq_true c
        refine ⟨_, rfl, _, _, rfl, rfl, ?_⟩
        have e : blw n (.int i) = decide (i < n) := by
          show (decide (0 ≤ i) && decide (i < n)) = _
          rw [decide_eq_true c]
          rfl
        rw [e] at k
        exact k
      · have c : ¬ (0 : Int) ≤ i := fun z => c (decide_eq_true z)
        have e : blw n (.int i) = false := by
          show (decide (0 ≤ i) && decide (i < n)) = _
          rw [decide_eq_false c]
          rfl
        rw [e] at k
        exact k
    | non => exact iteF k
    | bl b => exact iteF k
    | str z => exact iteF k
    | ref a => exact iteF k
    | byt b => exact iteF k
    | flt b => exact iteF k
    | ty b => exact iteF k
theorem kcSm : FnScope ["text", "sign"] ["text"] (defScope P__is_small) := ⟨rfl, rfl, rfl, by decide +kernel, rfl, by decide +kernel, by decide +kernel⟩
theorem ok_small {f : Addr} {fd : FuncData} {k : Nat} (F : Fun K "_is_small" "_is_small" P__is_small f fd) (mA : mg "all" = none) : FnOk P w K mg base CX0 (k + 1) f fd ["text"] (spS small) := by
  refine F.ok kcSm (fun vs H Q E h => ?_) (fun cdv A outer s H vs Q E hr h => ?_)
  · obtain ⟨x, rfl, _⟩ := h
    rfl
  · obtain ⟨z, rfl, hz, k⟩ := h
    refine ⟨_, (pss_one (ps_ret (pe_callB (cr_all rfl) (by rfl) mA (by decide +kernel) (pa_cons (pe_lc (own := [("sign", 1)]) (g := gName 1) (tt := tYes) rfl kcSm.nd (pi_str (pv 0)) (blkOk_by (N := ["text", "sign"]) (sc := defScope P__is_small) (by decide +kernel)) (fun _ _ _ _ _ => (pg_name (i := 1) kcSm.nd rfl (.inl rfl))) (fun _ _ _ _ _ => pts_nil) (fun _ _ _ _ _ => (pe_chain op_le_str op_le_str pe_str (pv 1) pe_str))) pa_nil)))), ?_⟩
    refine ⟨_, rfl, z, rfl, fun D hD => ?_⟩
    have hsz : z.cps.size ≤ 100 := hz
    refine lc_it walk_str (fun i H' => Same H H' ∧ H' D = some (.lst (((z.cps.toList.take i).map fsm).map V.bl))) ⟨same_upd hD, upd_same⟩ (fun _ _ _ _ => trivial) ?_ ?_
    · rintro i x H0 H1 hi ⟨s1, hd⟩ ⟨rfl, c, hc, rfl⟩
      have hc2 := at_cps hc
      have fin : ∀ b : Bool, b = fsm c → ∃ acc, H1 D = some (HO.lst acc) ∧ acc.length < sizeLine ∧ Same H (upd H1 D (.lst (acc ++ [V.bl b]))) ∧ (upd H1 D (.lst (acc ++ [V.bl b]))) D = some (.lst (((z.cps.toList.take (i + 1)).map fsm).map V.bl)) := by
        rintro _ rfl
        refine ⟨_, hd, ?_, fun b o e => ?_, ?_⟩
        · rw [List.length_map, List.length_map, List.length_take]
          exact small1000 (by omega)
        · rw [upd_ne (ne_of_none e hD)]
          exact s1 _ _ e
        · rw [upd_same, take_snoc fsm hc2, List.map_append]
          rfl
      refine ⟨rfl, _, rfl, _, _, rfl, rfl, ?_⟩
      rw [cps_a]
      show ∃ k, V.bl (!decide (([c] : List Nat) < [97])) = V.bl k ∧ _
      rw [lt_one]
      refine ⟨_, rfl, ?_⟩
      by_cases h : c < 97
      · rw [decide_eq_true h]
        refine iteF (fin false ?_)
        unfold fsm
        rw [decide_eq_false (show ¬ 97 ≤ c by omega)]
        all_goals rfl
      · rw [decide_eq_false h]
        refine iteT ⟨_, _, rfl, rfl, ?_⟩
        rw [cps_z]
        refine fin _ ?_
        show (!decide (([122] : List Nat) < [c])) = fsm c
        rw [lt_one]
        unfold fsm
        rw [decide_eq_true (show 97 ≤ c by omega)]
        by_cases h2 : c ≤ 122
        · rw [decide_eq_true h2, decide_eq_false (show ¬ 122 < c by omega)]
          rfl
        · rw [decide_eq_false h2, decide_eq_true (show 122 < c by omega)]
          rfl
    · rintro H1 ⟨s1, hd⟩
      rw [List.take_of_length_le (by rw [Array.length_toList]; exact Nat.le_refl _)] at hd
      refine ⟨D, _, rfl, .of hd, ?_⟩
      have e : (z.cps.toList.map fsm).all id = small z := by
        rw [List.all_map]
        rfl
      rw [e]
      exact k _ s1
theorem kcNm : FnScope ["thing"] ["thing"] (defScope P_is_name) := ⟨rfl, rfl, rfl, by decide +kernel, rfl, by decide +kernel, by decide +kernel⟩
theorem ok_name {f : Addr} {fd : FuncData} {tk : Tok} (F : Fun K "is_name" "is_name" P_is_name f fd) (dS : Df P w K mg base "_is_small" 1 ["text"] (spS small)) (mN : mg "LONGEST_NAME" = some (.int 8 tk))
    (mI : mg "isinstance" = none) (ms : mg "str" = none) (ml : mg "len" = none) (mA : mg "all" = none) : FnOk P w K mg base CX0 2 f fd ["thing"] (spK K nm) := by
  refine F.ok kcNm (fun vs H Q E h => ?_) (fun cdv A outer s H vs Q E hr h => ?_)
  · obtain ⟨x, rfl, _⟩ := h
    rfl
  · obtain ⟨x, rfl, hx, k⟩ := h
    obtain ⟨t, ty, k1, k2, k3⟩ := known_ty hx
    refine ⟨_, (pss_one (ps_ret (pe_and (pe_callB (id := "isinstance") (r := rIsi K) call_isi (by rfl) mI (by decide +kernel) (pa_cons (pv 0) (pa_cons (pe_bltn (v := .ty "str") (by rfl) ms (by decide +kernel) rfl) pa_nil))) (pe_and (pe_chain op_le op_le pe_int (pe_callB call_len_str (by rfl) ml PySem.boot_len (pa_cons (pv 0) pa_nil)) (pe_glob (v := .int 8) rfl mN ⟨_, rfl⟩)) (pe_one (pe_cD dS hr (by rfl) (pa_cons (pv 0) pa_nil))))))), ?_⟩
    refine ⟨_, rfl, _, _, _, _, _, rfl, .ty _, ty, k3, _, rfl, ?_⟩
    cases x with
    | str z =>
      have hz : z.length ≤ 100 := hx.1
      have hz2 : z.length ≤ sizeLine := Nat.le_of_lt (small1000 (by omega))
      refine iteT ⟨_, rfl, z, rfl, hz2, _, _, rfl, rfl, _, rfl, ite2 (fun c => ?_) (fun c => ?_)⟩
      · have c : (1 : Int) ≤ (z.length : Int) := of_decide_eq_true c
        refine ⟨_, _, rfl, rfl, _, rfl, ite2 (fun c2 => ?_) (fun c2 => ?_)⟩
        · have c2 : (z.length : Int) ≤ 8 := of_decide_eq_true c2
          refine ⟨_, rfl, z, rfl, hz, fun H1 s1 => ?_⟩
          have k := k H1 s1
          have e : nm (.str z) = small z := by
            show (decide (1 ≤ z.length) && (decide (z.length ≤ 8) && small z)) = _
            rw [decide_eq_true (show 1 ≤ z.length by omega), decide_eq_true (show z.length ≤ 8 by omega)]
            rfl
          rw [e] at k
          exact k
        · have c2 : ¬ (z.length : Int) ≤ 8 := fun y => c2 (decide_eq_true y)
          have k := k H (Same.refl _)
          have e : nm (.str z) = false := by
            show (decide (1 ≤ z.length) && (decide (z.length ≤ 8) && small z)) = _
            rw [decide_eq_false (show ¬ z.length ≤ 8 by omega)]
            simp
          rw [e] at k
          exact k
      · have c : ¬ (1 : Int) ≤ (z.length : Int) := fun y => c (decide_eq_true y)
        have k := k H (Same.refl _)
        have e : nm (.str z) = false := by
          show (decide (1 ≤ z.length) && (decide (z.length ≤ 8) && small z)) = _
          rw [decide_eq_false (show ¬ 1 ≤ z.length by omega)]
          rfl
        rw [e] at k
        exact ⟨false, rfl, iteF k⟩
    | int i => exact iteF (k H (Same.refl _))
    | non => exact iteF (k H (Same.refl _))
    | bl b => exact iteF (k H (Same.refl _))
    | ref a => exact iteF (k H (Same.refl _))
    | byt b => exact iteF (k H (Same.refl _))
    | flt b => exact iteF (k H (Same.refl _))
    | ty n => exact iteF (k H (Same.refl _))
theorem kcPc : FnScope ["thing"] ["thing"] (defScope P_is_pace) := ⟨rfl, rfl, rfl, by decide +kernel, rfl, by decide +kernel, by decide +kernel⟩
theorem ok_pace {f : Addr} {fd : FuncData} {tk tk2 : Tok} (F : Fun K "is_pace" "is_pace" P_is_pace f fd) (dW : Df P w K mg base "is_whole" 1 ["thing"] (spK K wh)) (mP : mg "LEAST_PACE" = some (.int 2 tk)) (mQ : mg "GREATEST_PACE" = some (.int 4 tk2)) : FnOk P w K mg base CX0 2 f fd ["thing"] (spK K pc) := by
  refine F.ok kcPc (fun vs H Q E h => ?_) (fun cdv A outer s H vs Q E hr h => ?_)
  · obtain ⟨x, rfl, _⟩ := h
    rfl
  · obtain ⟨x, rfl, hx, k⟩ := h
    refine ⟨_, (pss_one (ps_ret (pe_and (pe_cD dW hr (by rfl) (pa_cons (pv 0) pa_nil)) (pe_one (pe_chain op_le op_le (pe_glob (v := .int 2) rfl mP ⟨_, rfl⟩) (pv 0) (pe_glob (v := .int 4) rfl mQ ⟨_, rfl⟩)))))), ?_⟩
    refine ⟨_, rfl, x, rfl, hx, fun H1 s1 => ⟨_, rfl, ?_⟩⟩
    have k := k H1 s1
    cases x with
    | int i =>
      refine iteT ⟨_, rfl, _, _, rfl, rfl, _, rfl, ite2 (fun c => ?_) (fun c => ?_)⟩
      · have c : (2 : Int) ≤ i := of_decide_eq_true c
        refine ⟨_, _, rfl, rfl, ?_⟩
        have e : pc (.int i) = decide (i ≤ 4) := by
          show (decide (2 ≤ i) && decide (i ≤ 4)) = _
          rw [decide_eq_true c]
          rfl
        rw [e] at k
        exact k
      · have c : ¬ (2 : Int) ≤ i := fun z => c (decide_eq_true z)
        have e : pc (.int i) = false := by
          show (decide (2 ≤ i) && decide (i ≤ 4)) = _
          rw [decide_eq_false c]
          rfl
        rw [e] at k
        exact k
    | non => exact iteF k
    | bl b => exact iteF k
    | str z => exact iteF k
    | ref a => exact iteF k
    | byt b => exact iteF k
    | flt b => exact iteF k
    | ty n => exact iteF k
end
end P52

namespace P52
open PySem PySem.Spec PyProof.Rows L2 HG HF
/-! ### right voices are let by -/
def spTupOf (K : PySem.W.Frag) : Sp := fun vs H Q _ => ∃ (a : Addr) (xs : List V) (n : Nat), vs = [.ref a, .int (n : Int)] ∧ SqT K H a xs ∧ xs.length = n ∧ n ≤ 10 ∧ ∀ H', Same H H' → Q (.bl true) H'
def spTableG (K : PySem.W.Frag) : Sp := fun vs H Q _ => ∃ (v : V) (t : List Nat) (n : Nat), vs = [.int (n : Int), v] ∧ Dp K H v (tabD t) ∧ TabOk n t ∧ n ≤ 5 ∧ ∀ H', Same H H' → Q (.bl true) H'
def spVoiceG (K : PySem.W.Frag) : Sp := fun vs H Q _ => ∃ (v : V) (c : Voice) (P : Parts) (lim : Nat), vs = [.int (P.pace : Int), .int (P.notes : Int), v] ∧ Dp K H v (voiceD c) ∧ c ∈ P.voices ∧ P.Ok lim ∧ ∀ H', Same H H' → Q (.bl true) H'
def spFew : Sp := fun vs H Q _ => ∃ n m : Nat, vs = [.int (n : Int), .int (m : Int)] ∧ n ≤ 5 ∧ m ≤ 12 ∧ ∀ H', Same H H' → Q (.bl (decide (n ^ m ≤ 64))) H'
section
variable {P : Program} {w : World} {K : PySem.W.Frag} {mg : Str → Option Value} {base : Heap}
theorem kcTO : FnScope ["thing", "many"] ["thing", "many"] (defScope P__is_tuple_of) := ⟨rfl, rfl, rfl, by decide +kernel, rfl, by decide +kernel, by decide +kernel⟩
theorem ok_tupof {f : Addr} {fd : FuncData} {k : Nat} (F : Fun K "_is_tuple_of" "_is_tuple_of" P__is_tuple_of f fd) (mI : mg "isinstance" = none) (mT : mg "tuple" = none) (ml : mg "len" = none) : FnOk P w K mg base CX0 (k + 1) f fd ["thing", "many"] (spTupOf K) := by
  refine F.ok kcTO (fun vs H Q E h => ?_) (fun cdv A outer s H vs Q E hr h => ?_)
  · obtain ⟨a, xs, n, rfl, _⟩ := h
    rfl
  · obtain ⟨a, xs, n, rfl, hs, hn, hn10, k⟩ := h
    refine ⟨_, (pss_one (ps_ret (pe_and (pe_callB (id := "isinstance") (r := rIsi K) call_isi (by rfl) mI (by decide +kernel) (pa_cons (pv 0) (pa_cons (pe_bltn (v := .ty "tuple") (by rfl) mT (by decide +kernel) rfl) pa_nil))) (pe_one (pe_cmpR op_eq (pe_callB call_len_seq (by rfl) ml PySem.boot_len (pa_cons (pv 0) pa_nil)) (pv 1) (nomark _)))))), ?_⟩
    refine ⟨_, rfl, _, _, _, _, _, rfl, .ty _, ty_tup hs, kit_ty (show kitB "tuple" "tuple" = some true by decide +kernel), _, rfl, ?_⟩
    have k := k H (Same.refl _)
    have e : decide (V.int (xs.length : Int) = V.int (n : Int)) = true := decide_eq_true (by rw [hn])
    refine iteT ⟨_, rfl, a, xs, rfl, .inr hs, _, rfl, rfl, ?_⟩
    rw [e]
    exact k
theorem kcTb : FnScope ["notes", "thing", "note"] ["notes", "thing"] (defScope P__is_table) := ⟨rfl, rfl, rfl, by decide +kernel, rfl, by decide +kernel, by decide +kernel⟩
theorem ok_istable {f : Addr} {fd : FuncData} (F : Fun K "_is_table" "_is_table" P__is_table f fd) (dT : Df P w K mg base "_is_tuple_of" 1 ["thing", "many"] (spTupOf K)) (dB : Df P w K mg base "is_below" 2 ["thing", "limit"] (spBlw K)) (mA : mg "all" = none) : FnOk P w K mg base CX0 3 f fd ["notes", "thing"] (spTableG K) := by
  refine F.ok kcTb (fun vs H Q E h => ?_) (fun cdv A outer s H vs Q E hr h => ?_)
  · obtain ⟨v, t, n, rfl, _⟩ := h
    rfl
  · obtain ⟨v, t, n, rfl, hd, ht, hn, k⟩ := h
    refine ⟨_, (pss_one (ps_ret (pe_and (pe_cD dT hr (by rfl) (pa_cons (pv 1) (pa_cons (pv 0) pa_nil))) (pe_one (pe_callB (cr_all rfl) (by rfl) mA (by decide +kernel) (pa_cons (pe_lc (own := [("note", 2)]) (g := gName 2) (tt := tYes) rfl kcTb.nd (pi_tup (pv 1)) (blkOk_by (N := ["notes", "thing", "note"]) (sc := defScope P__is_table) (by decide +kernel)) (fun _ _ _ _ _ => (pg_name (i := 2) kcTb.nd rfl (.inl rfl))) (fun _ _ _ _ _ => pts_nil) (fun _ _ _ _ _ => (pe_cD (sp := spBlw K) (k := 2) (ps := ["thing", "limit"]) dB hr (by rfl) (pa_cons (pv 2) (pa_cons (pv 0) pa_nil))))) pa_nil)))))), ?_⟩
    obtain ⟨a, xs, rfl, hs, hda⟩ := dp_tup_inv hd
    have hxl := dpAll_len hda
    have htl : (nDs t).length = t.length := List.length_map ..
    refine ⟨_, rfl, _, rfl, a, xs, n, rfl, hs, by rw [hxl, htl, ht.1], by omega, fun H1 s1 => ⟨_, rfl, iteT ?_⟩⟩
    refine ⟨_, rfl, a, rfl, ⟨xs, sqT_same s1 hs⟩, fun D nD => ?_⟩
    refine lc_it (walk_tup (K := K) (a := a) (xs := xs)) (fun j H' => Same H1 H' ∧ H' D = some (.lst (((t.take j).map fun _ => true).map V.bl))) ⟨same_upd nD, upd_same⟩ (fun j H2 _ ⟨s2, _⟩ => sqT_same s2 (sqT_same s1 hs)) ?_ ?_
    · rintro j x H2 H3 hj ⟨s2, hD⟩ ⟨rfl, hx⟩
      obtain ⟨d, hd1, hd2⟩ := dpAll_get' hda hx
      have hjt : j < t.length := by omega
      have hd3 : (nDs t)[j]? = some (.int ((t[j]'hjt : Nat) : Int)) := by
        unfold nDs
        rw [List.getElem?_map, List.getElem?_eq_getElem hjt]
        rfl
      rw [hd3] at hd1
      cases hd1
      obtain rfl := dp_int_inv hd2
      have hlt : t[j]'hjt < n := ht.2 _ (List.getElem_mem _)
      refine ⟨rfl, _, rfl, _, rfl, _, n, rfl, trivial, fun H4 s4 => ⟨_, s4 _ _ hD, ?_, same_put (s2.trans s4) nD, ?_⟩⟩
      · rw [List.length_map, List.length_map, List.length_take]
        have := ht.1
        exact small1000 (by omega)
      · rw [upd_same, take_snoc (fun _ => true) (List.getElem?_eq_getElem hjt), List.map_append]
        have e : blw (n : Int) (.int ((t[j]'hjt : Nat) : Int)) = true := by
          show (decide (0 ≤ ((t[j]'hjt : Nat) : Int)) && decide (((t[j]'hjt : Nat) : Int) < (n : Int))) = true
          rw [decide_eq_true (by omega), decide_eq_true (by omega)]
          rfl
        rw [e]
        rfl
    · rintro H2 ⟨s2, hD⟩
      rw [hxl, htl, List.take_length] at hD
      refine ⟨D, _, rfl, .of hD, ?_⟩
      have e : (t.map fun _ => true).all id = true := by simp
      rw [e]
      exact k _ (s1.trans s2)
theorem kcVo : FnScope ["pace", "notes", "thing", "name", "elders", "tables", "elder", "table"] ["pace", "notes", "thing"] (defScope P__is_voice) := ⟨rfl, rfl, rfl, by decide +kernel, rfl, by decide +kernel, by decide +kernel⟩
theorem ok_isvoice {f : Addr} {fd : FuncData} (F : Fun K "_is_voice" "_is_voice" P__is_voice f fd) (dT : Df P w K mg base "_is_tuple_of" 1 ["thing", "many"] (spTupOf K)) (dN : Df P w K mg base "is_name" 2 ["thing"] (spK K nm)) (dB : Df P w K mg base "_is_table" 3 ["notes", "thing"] (spTableG K))
    (mI : mg "isinstance" = none) (mT : mg "tuple" = none) (ml : mg "len" = none) (mA : mg "all" = none) : FnOk P w K mg base CX0 4 f fd ["pace", "notes", "thing"] (spVoiceG K) := by
  refine F.ok kcVo (fun vs H Q E h => ?_) (fun cdv A outer s H vs Q E hr h => ?_)
  · obtain ⟨v, c, pa, lim, rfl, _⟩ := h
    rfl
  · obtain ⟨v, c, pa, lim, rfl, hd, hc, ok, k⟩ := h
    refine ⟨_, (pss_cons (ps_if (PW.pt (pw_or (pt_not (pt_val (pe_callB (id := "isinstance") (r := rIsi K) call_isi (by rfl) mI (by decide +kernel) (pa_cons (pv 2) (pa_cons (pe_bltn (v := .ty "tuple") (by rfl) mT (by decide +kernel) rfl) pa_nil))))) (pw_or1 (pt_cmpR op_ne (pe_callB call_len_seq (by rfl) ml PySem.boot_len (pa_cons (pv 2) pa_nil)) pe_int (nomark _)))))
         (pss_one (ps_ret pe_bl))
         pss_nil)
      (pss_cons (ps_asg (pv 2) (pg_tup rfl (pgs_cons (pg_name (i := 3) kcVo.nd rfl (.inl rfl)) (pgs_cons (pg_name (i := 4) kcVo.nd rfl (.inl rfl)) (pgs_cons (pg_name (i := 5) kcVo.nd rfl (.inl rfl)) pgs_nil)))))
      (pss_cons (ps_if (PW.pt (pw_or (pt_not (pt_val (pe_cD (sp := spK K nm) (k := 2) (ps := ["thing"]) dN hr (by rfl) (pa_cons (pv 3) pa_nil)))) (pw_or (pt_not (pt_val (pe_cD dT hr (by rfl) (pa_cons (pv 4) (pa_cons (pv 0) pa_nil))))) (pw_or1 (pt_not (pt_val (pe_cD dT hr (by rfl) (pa_cons (pv 5) (pa_cons (pv 0) pa_nil)))))))))
         (pss_one (ps_ret pe_bl))
         pss_nil)
      (pss_one (ps_ret (pe_and (pe_callB (cr_all rfl) (by rfl) mA (by decide +kernel) (pa_cons (pe_lc (own := [("elder", 6)]) (g := gName 6) (tt := tYes) rfl kcVo.nd (pi_tup (pv 4)) (blkOk_by (N := ["pace", "notes", "thing", "name", "elders", "tables", "elder", "table"]) (sc := defScope P__is_voice) (by decide +kernel)) (fun _ _ _ _ _ => (pg_name (i := 6) kcVo.nd rfl (.inl rfl))) (fun _ _ _ _ _ => pts_nil) (fun _ _ _ _ _ => (pe_cD (sp := spK K nm) (k := 2) (ps := ["thing"]) dN hr (by rfl) (pa_cons (pv 6) pa_nil)))) pa_nil)) (pe_one (pe_callB (cr_all rfl) (by rfl) mA (by decide +kernel) (pa_cons (pe_lc (own := [("table", 7)]) (g := gName 7) (tt := tYes) rfl kcVo.nd (pi_tup (pv 5)) (blkOk_by (N := ["pace", "notes", "thing", "name", "elders", "tables", "elder", "table"]) (sc := defScope P__is_voice) (by decide +kernel)) (fun _ _ _ _ _ => (pg_name (i := 7) kcVo.nd rfl (.inl rfl))) (fun _ _ _ _ _ => pts_nil) (fun _ _ _ _ _ => (pe_cD (sp := spTableG K) (k := 3) (ps := ["notes", "thing"]) dB hr (by rfl) (pa_cons (pv 1) (pa_cons (pv 7) pa_nil))))) pa_nil))))))))), ?_⟩
    obtain ⟨a, x1, x2, rfl, hs, he, ht⟩ := voice_inv hd
    obtain ⟨ea, exs, rfl, hes, hea⟩ := dp_tup_inv he
    obtain ⟨ta, txs, rfl, hts, hta⟩ := dp_tup_inv ht
    have ktt : kitB "tuple" "tuple" = some true := by decide +kernel
    have hgn : GoodN c.name := ok.good _ (List.mem_map.mpr ⟨c, hc, rfl⟩)
    refine ⟨_, rfl, _, _, _, _, _, rfl, .ty _, ty_tup hs, kit_ty ktt, _, rfl, iteF ⟨_, rfl, a, _, rfl, .inr hs, ?_⟩⟩
    refine ⟨rfl, _, rfl, iteF ⟨_, rfl, a, _, rfl, hs, rfl, _, _, rfl, _, _, rfl, _, _, rfl, rfl, ?_⟩⟩
    have hel := dpAll_len hea
    rw [List.length_map, (ok.elds c hc).1] at hel
    have htl := dpAll_len hta
    rw [List.length_map, (ok.tabs c hc).1] at htl
    have p4 := ok.p4
    have n5 := ok.n5
    refine ⟨_, rfl, .str c.name, rfl, known_name hgn, fun H1 s1 => ⟨_, rfl, ?_⟩⟩
    rw [nm_good hgn]
    refine iteF ⟨_, rfl, _, rfl, ea, exs, pa.pace, rfl, sqT_same s1 hes, hel, by omega, fun H2 s2 => ⟨_, rfl, iteF ⟨_, rfl, _, rfl, ta, txs, pa.pace, rfl, sqT_same (s1.trans s2) hts, htl, by omega, fun H3 s3 => ⟨_, rfl, iteF ?_⟩⟩⟩⟩
    have s03 := s1.trans (s2.trans s3)
    refine ⟨_, rfl, ea, rfl, ⟨exs, sqT_same s03 hes⟩, fun D nD => ?_⟩
    refine lc_true (K := K) (sqT_same s03 hes) nD (by omega) ?_ ?_
    · rintro j x H4 Kk Nx hx s4 kk
      obtain ⟨d, hd1, hd2⟩ := dpAll_get' hea hx
      obtain ⟨z, hz, rfl⟩ : ∃ z, c.elders[j]? = some z ∧ d = .str z := by
        rw [List.getElem?_map] at hd1
        cases e : c.elders[j]? with
        | none => rw [e] at hd1; cases hd1
        | some z => rw [e] at hd1; exact ⟨z, rfl, (Option.some.inj hd1).symm⟩
      obtain rfl := dp_str_inv hd2
      have hzg : GoodN z := ok.good z ((ok.elds c hc).2 z (List.mem_of_getElem? hz))
      refine ⟨rfl, _, rfl, .str z, rfl, known_name hzg, fun H5 s5 => ?_⟩
      rw [nm_good hzg]
      exact kk H5 s5
    · rintro H4 s4 hD
      refine ⟨D, _, rfl, .of hD, ?_⟩
      rw [all_rep]
      refine ⟨_, rfl, iteT ?_⟩
      have s04 := s03.trans s4
      refine ⟨_, rfl, ta, rfl, ⟨txs, sqT_same s04 hts⟩, fun D2 nD2 => ?_⟩
      refine lc_true (K := K) (sqT_same s04 hts) nD2 (by omega) ?_ ?_
      · rintro j x H5 Kk Nx hx s5 kk
        obtain ⟨d, hd1, hd2⟩ := dpAll_get' hta hx
        obtain ⟨z, hz, rfl⟩ : ∃ z, c.tables[j]? = some z ∧ d = tabD z := by
          rw [List.getElem?_map] at hd1
          cases e : c.tables[j]? with
          | none => rw [e] at hd1; cases hd1
          | some z => rw [e] at hd1; exact ⟨z, rfl, (Option.some.inj hd1).symm⟩
        exact ⟨rfl, _, rfl, _, rfl, x, z, pa.notes, rfl, dp_same (s04.trans s5) _ _ hd2, (ok.tabs c hc).2 z (List.mem_of_getElem? hz), n5, kk⟩
      · rintro H5 s5 hD2
        refine ⟨D2, _, rfl, .of hD2, ?_⟩
        rw [all_rep]
        exact k _ (s04.trans s5)
end
end P52

namespace P52
open PySem PySem.Spec PyProof.Rows L2 HG HF
section
variable {P : Program} {w : World} {K : PySem.W.Frag} {mg : Str → Option Value} {base : Heap}
theorem kcFe : FnScope ["notes", "voices", "many", "_"] ["notes", "voices"] (defScope P__are_few) := ⟨rfl, rfl, rfl, by decide +kernel, rfl, by decide +kernel, by decide +kernel⟩
theorem ok_few {f : Addr} {fd : FuncData} {k : Nat} {tk : Tok} (F : Fun K "_are_few" "_are_few" P__are_few f fd) (mr : mg "range" = none) (mM : mg "MOST_STANDINGS" = some (.int 64 tk)) : FnOk P w K mg base CX0 (k + 1) f fd ["notes", "voices"] spFew := by
  refine F.ok kcFe (fun vs H Q E h => ?_) (fun cdv A outer s H vs Q E hr h => ?_)
  · obtain ⟨n, m, rfl, _⟩ := h
    rfl
  · obtain ⟨n, m, rfl, hn, hm, k⟩ := h
    refine ⟨_, (pss_cons (ps_set (i := 2) kcFe.nd rfl (.inl rfl) pe_int)
      (pss_cons (ps_for PassesOwn.never rfl (pi_range1 rfl mr (pa_cons (pv 1) pa_nil)) (pg_name (i := 3) kcFe.nd rfl (.inl rfl))
         (pss_one (ps_set (i := 2) kcFe.nd rfl (.inl rfl) (pe_op op_mul (pv 2) (pv 0)))))
      (pss_one (ps_ret (pe_cmpR op_le (pv 2) (pe_glob (v := .int 64) rfl mM ⟨_, rfl⟩) (nomark _)))))), ?_⟩
    refine ⟨_, rfl, (m : Int), rfl, by omega, by omega, ?_⟩
    rw [Int.toNat_natCast]
    refine for_range (fun i σ H' => ∃ o, σ = [some (.int (n : Int)), some (.int (m : Int)), some (.int ((n ^ i : Nat) : Int)), o] ∧ H' = H) ⟨none, rfl, rfl⟩ ?_ ?_
    · rintro i σ _ hi ⟨o, rfl, rfl⟩
      refine ⟨_, rfl, _, rfl, _, _, rfl, rfl, .inr ⟨by omega, by omega⟩, some (.int (0 + (i : Int))), ?_, rfl⟩
      show ([_, _, some (V.int (((n ^ i : Nat) : Int) * (n : Int))), _] : L2.St) = _
      rw [← Int.natCast_mul, ← Nat.pow_succ]
    · rintro σ _ ⟨o, rfl, rfl⟩
      refine ⟨_, rfl, _, _, rfl, rfl, ?_⟩
      have k := k _ (Same.refl _)
      have e : decide (((n ^ m : Nat) : Int) ≤ 64) = decide (n ^ m ≤ 64) := by
        by_cases c : n ^ m ≤ 64
        · rw [decide_eq_true c, decide_eq_true (by omega)]
        · rw [decide_eq_false c, decide_eq_false (by omega)]
      rw [← e] at k
      exact k
theorem kcRW : FnScope ["pace", "notes", "voices"] ["pace", "notes", "voices"] (defScope P__refuse_wrong) := ⟨rfl, rfl, rfl, by decide +kernel, rfl, by decide +kernel, by decide +kernel⟩
theorem ok_rwrong {f : Addr} {fd : FuncData} {tk1 tk2 tk3 : Tok} (F : Fun K "_refuse_wrong" "_refuse_wrong" P__refuse_wrong f fd) (dP : Df P w K mg base "is_pace" 2 ["thing"] (spK K pc)) (dW : Df P w K mg base "is_whole" 1 ["thing"] (spK K wh)) (dF : Df P w K mg base "_are_few" 1 ["notes", "voices"] spFew)
    (mI : mg "isinstance" = none) (mL : mg "list" = none) (ml : mg "len" = none) (m1 : mg "FEWEST_NOTES" = some (.int 2 tk1)) (m2 : mg "MOST_NOTES" = some (.int 5 tk2)) (m3 : mg "MOST_VOICES" = some (.int 6 tk3)) : FnOk P w K mg base CX0 3 f fd ["pace", "notes", "voices"] (spGood K) := by
  refine F.ok kcRW (fun vs H Q E h => ?_) (fun cdv A outer s H vs Q E hr h => ?_)
  · obtain ⟨G, v, vs', pa, lim, rfl, _⟩ := h
    rfl
  · obtain ⟨G, v, vs', pa, lim, rfl, g, hd, hp, ok, hlim, k⟩ := h
    refine ⟨_, (pss_cons (ps_if (pt_not (pt_val (pe_cD dP hr (by rfl) (pa_cons (pv 0) pa_nil))))
         (pss_one (ps_never))
         pss_nil)
      (pss_cons (ps_if (PW.pt (pw_or (pt_not (pt_val (pe_cD dW hr (by rfl) (pa_cons (pv 1) pa_nil)))) (pw_or1 (pt_not (pt_chain op_le op_le (pe_glob (v := .int 2) rfl m1 ⟨_, rfl⟩) (pv 1) (pe_glob (v := .int 5) rfl m2 ⟨_, rfl⟩))))))
         (pss_one (ps_never))
         pss_nil)
      (pss_cons (ps_if (PW.pt (pw_or (pt_not (pt_val (pe_callB (id := "isinstance") (r := rIsi K) call_isi (by rfl) mI (by decide +kernel) (pa_cons (pv 2) (pa_cons (pe_bltn (v := .ty "list") (by rfl) mL (by decide +kernel) rfl) pa_nil))))) (pw_or1 (pt_not (pt_chain op_le op_le pe_int (pe_callB call_len_seq (by rfl) ml PySem.boot_len (pa_cons (pv 2) pa_nil)) (pe_glob (v := .int 6) rfl m3 ⟨_, rfl⟩))))))
         (pss_one (ps_never))
         pss_nil)
      (pss_one (ps_if (pt_not (pt_val (pe_cD dF hr (by rfl) (pa_cons (pv 1) (pa_cons (pe_callB call_len_seq (by rfl) ml PySem.boot_len (pa_cons (pv 2) pa_nil)) pa_nil)))))
         (pss_one (ps_never))
         pss_nil))))), ?_⟩
    obtain ⟨a, xs, rfl, hl, hda⟩ := dp_lst_inv hd
    have hxl := dpAll_len hda
    rw [List.length_map, hp.length_eq] at hxl
    have h1 := ok.p2; have h2 := ok.p4; have h3 := ok.n2; have h4 := ok.n5; have h5 := ok.v1; have h6 := ok.v6
    have ep : HG.pc (.int (pa.pace : Int)) = true := by
      show (decide (2 ≤ (pa.pace : Int)) && decide ((pa.pace : Int) ≤ 4)) = true
      rw [decide_eq_true (by omega), decide_eq_true (by omega)]; rfl
    have kll : kitB "list" "list" = some true := by decide +kernel
    refine ⟨_, rfl, .int (pa.pace : Int), rfl, trivial, fun H1 s1 => ⟨_, rfl, ?_⟩⟩
    rw [ep]
    refine iteF ⟨_, rfl, .int (pa.notes : Int), rfl, trivial, fun H2 s2 => ⟨_, rfl, iteF ?_⟩⟩
    refine ⟨_, rfl, _, _, rfl, rfl, _, rfl, iteP (decide_eq_true (by omega)) ⟨_, _, rfl, rfl, _, rfl, iteN (notT (by omega)) ?_⟩⟩
    have s12 := s1.trans s2
    refine ⟨_, rfl, _, _, _, _, _, rfl, .ty _, ty_lst (s12.seq (g.seq hl)), kit_ty kll, _, rfl, iteF ?_⟩
    refine ⟨_, rfl, a, xs, rfl, .inl (s12.seq (g.seq hl)), _, _, rfl, rfl, _, rfl, iteP (decide_eq_true (by omega)) ⟨_, _, rfl, rfl, _, rfl, iteN (notT (by omega)) ?_⟩⟩
    refine ⟨_, rfl, _, rfl, a, xs, rfl, .inl (s12.seq (g.seq hl)), pa.notes, xs.length, rfl, h4, by omega, fun H3 s3 => ⟨_, rfl, iteN (notT ?_) ?_⟩⟩
    · rw [hxl]
      have := ok.size
      omega
    · exact k _ (s12.trans s3)
theorem kcRB : FnScope ["pace", "notes", "voices", "names", "at", "voice", "elder"] ["pace", "notes", "voices"] (defScope P__refuse_bad_voices) := ⟨rfl, rfl, rfl, by decide +kernel, rfl, by decide +kernel, by decide +kernel⟩
theorem ok_rbad {f : Addr} {fd : FuncData} (F : Fun K "_refuse_bad_voices" "_refuse_bad_voices" P__refuse_bad_voices f fd) (dV : Df P w K mg base "_is_voice" 4 ["pace", "notes", "thing"] (spVoiceG K)) (mE : mg "enumerate" = none) (mA : mg "all" = none) : FnOk P w K mg base CX0 5 f fd ["pace", "notes", "voices"] (spGood K) := by
  refine F.ok kcRB (fun vs H Q E h => ?_) (fun cdv A outer s H vs Q E hr h => ?_)
  · obtain ⟨G, v, vs', pa, lim, rfl, _⟩ := h
    rfl
  · obtain ⟨G, v, vs', pa, lim, rfl, g, hd, hp, ok, hlim, k⟩ := h
    refine ⟨_, (pss_cons (ps_set (i := 3) kcRB.nd rfl (.inr rfl) pe_dnewK)
      (pss_cons (ps_for PassesOwn.never rfl (pi_enum (by rfl) mE (pa_cons (pv 2) pa_nil)) (pg_tup rfl (pgs_cons (pg_name (i := 4) kcRB.nd rfl (.inl rfl)) (pgs_cons (pg_name (i := 5) kcRB.nd rfl (.inl rfl)) pgs_nil)))
         (pss_cons (ps_if (PW.pt (pw_or (pt_not (pt_val (pe_cD dV hr (by rfl) (pa_cons (pv 0) (pa_cons (pv 1) (pa_cons (pv 5) pa_nil)))))) (pw_or1 (pt_cmp (pc_din (hu_of hr) (pe_ix (r := rIxT K) ix_tup (pv 5) pe_int (fun _ _ => rfl)) (pv 3))))))
            (pss_one (ps_never))
            pss_nil)
         (pss_one (ps_dput (hu_of hr) (pv 3) (pe_ix (r := rIxT K) ix_tup (pv 5) pe_int (fun _ _ => rfl)) pe_bl rfl))))
      (pss_one (ps_for PassesOwn.never rfl (pi_enum (by rfl) mE (pa_cons (pv 2) pa_nil)) (pg_tup rfl (pgs_cons (pg_name (i := 4) kcRB.nd rfl (.inl rfl)) (pgs_cons (pg_name (i := 5) kcRB.nd rfl (.inl rfl)) pgs_nil)))
         (pss_one (ps_if (pt_not (pt_val (pe_callB (cr_all rfl) (by rfl) mA (by decide +kernel) (pa_cons (pe_lc (own := [("elder", 6)]) (g := gName 6) (tt := tYes) rfl kcRB.nd (pi_tup (pe_ix (r := rIxT K) ix_tup (pv 5) pe_int (fun _ _ => rfl))) (blkOk_by (N := ["pace", "notes", "voices", "names", "at", "voice", "elder"]) (sc := defScope P__refuse_bad_voices) (by decide +kernel)) (fun _ _ _ _ _ => (pg_name (i := 6) kcRB.nd rfl (.inl rfl))) (fun _ _ _ _ _ => pts_nil) (fun _ _ _ _ _ => (pe_cmp (pc_din (hu_of hr) (pv 6) (pv 3))))) pa_nil))))
            (pss_one (ps_never))
            pss_nil)))))), ?_⟩
    obtain ⟨a, xs, rfl, hl, hda⟩ := dp_lst_inv hd
    have hxl := dpAll_len hda
    rw [List.length_map] at hxl
    have v6 := ok.v6
    have hnd : (vs'.map (·.name)).Nodup := (hp.map Voice.name).nodup_iff.mpr ok.nodup
    have hvl := hp.length_eq
    have item : ∀ {i : Nat} {x : V}, xs[i]? = some x → ∃ c, vs'[i]? = some c ∧ Dp K G x (voiceD c) ∧ c ∈ pa.voices := by
      intro i x hx
      obtain ⟨d, hd1, hd2⟩ := dpAll_get' hda hx
      rw [List.getElem?_map] at hd1
      cases e : vs'[i]? with
      | none => rw [e] at hd1; cases hd1
      | some c => rw [e] at hd1; cases hd1; exact ⟨c, rfl, hd2, hp.mem_iff.mp (List.mem_of_getElem? e)⟩
    refine fun nd hnd0 => ?_
    have n0 : H nd = none := hnd0
    refine ⟨_, rfl, a, xs, rfl, (same_upd n0).seq (g.seq hl), ?_⟩
    refine for_it (walk_enum (K := K) (a := a) (xs := xs)) (fun i σ H' => Same H H' ∧ H' nd = some (.dK (nk ((vs'.take i).map (·.name)))) ∧ ∃ o4 o5, σ = [some (.int (pa.pace : Int)), some (.int (pa.notes : Int)), some (.ref a), some (.ref nd), o4, o5, none]) ?_ ?_ ?_ ?_
    · exact ⟨same_upd n0, upd_same, none, none, rfl⟩
    · rintro i σ H1 hi ⟨s1, _⟩
      exact s1.seq (g.seq hl)
    · rintro i v σ H1 H2 hi ⟨s1, hnk, o4, o5, rfl⟩ ⟨T, x, y, rfl, nT, rfl, hx, hy⟩
      obtain rfl := (Option.some.inj hx).symm
      obtain ⟨c, hc, hcd, hcm⟩ := item hy
      have s2 : Same H (upd H1 T (.tup [.int (i : Nat), y])) := same_put s1 (s1.free nT)
      have gs := g.trans s2
      have hnk2 : (upd H1 T (.tup [.int (i : Nat), y])) nd = some (.dK (nk ((vs'.take i).map (·.name)))) := by
        rw [upd_ne (ne_of_none hnk nT)]
        exact hnk
      refine ⟨T, _, rfl, .of upd_same, rfl, _, _, rfl, _, _, rfl, rfl, ?_⟩
      obtain ⟨b, x1, x2, rfl, hb, _, _⟩ := voice_inv hcd
      refine ⟨_, rfl, _, rfl, _, rfl, .ref b, c, pa, lim, rfl, dp_same gs _ _ hcd, hcm, ok, fun H3 s3 => ⟨_, rfl, iteF ?_⟩⟩
      have gs3 := gs.trans s3
      have hnk3 := s3 _ _ hnk2
      have hnot := not_ahead hnd hc
      refine ⟨_, rfl, b, _, 0, _, rfl, rfl, sqT_same gs3 hb, rfl, _, rfl, nd, _, rfl, DGet.k (k := .inr c.name) hnk3, _, rfl, iteN (by rw [nk_val, if_neg hnot]; rfl) ?_⟩
      refine ⟨_, rfl, _, rfl, b, _, 0, _, rfl, rfl, sqT_same gs3 hb, rfl, nd, _, rfl, DPut.k (k := .inr c.name) hnk3 ?_, ?_⟩
      · rw [nk_len, List.length_map, List.length_take]
        exact small1000 (by omega)
      · refine ⟨fun b' o e => ?_, ?_, _, _, rfl⟩
        · rw [upd_ne (ne_of_none e n0)]
          exact (s2.trans s3) _ _ e
        · rw [upd_same, nk_put hnot, map_take1 hc]
    · rintro σ H1 ⟨s1, hnk, o4, o5, rfl⟩
      rw [hxl, List.take_length] at hnk
      refine ⟨_, rfl, a, xs, rfl, s1.seq (g.seq hl), ?_⟩
      refine for_it (walk_enum (K := K) (a := a) (xs := xs)) (fun i σ H' => Same H1 H' ∧ ∃ o4 o5, σ = [some (.int (pa.pace : Int)), some (.int (pa.notes : Int)), some (.ref a), some (.ref nd), o4, o5, none]) ?_ ?_ ?_ ?_
      · exact ⟨.refl _, o4, o5, rfl⟩
      · rintro i σ H2 hi ⟨s2, _⟩
        exact s2.seq (s1.seq (g.seq hl))
      · rintro i v σ H2 H3 hi ⟨s2, o4, o5, rfl⟩ ⟨T, x, y, rfl, nT, rfl, hx, hy⟩
        obtain ⟨c, hc, hcd, hcm⟩ := item hy
        have s3 : Same H1 (upd H2 T (.tup [x, y])) := same_put s2 (s2.free nT)
        have gs := g.trans (s1.trans s3)
        have hnk3 := s3 _ _ hnk
        refine ⟨T, _, rfl, .of upd_same, rfl, _, _, rfl, _, _, rfl, rfl, ?_⟩
        obtain ⟨b, x1, x2, rfl, hb, he, _⟩ := voice_inv hcd
        obtain ⟨ea, exs, rfl, hes, hea⟩ := dp_tup_inv he
        have hel := dpAll_len hea
        rw [List.length_map, (ok.elds c hcm).1] at hel
        have p4 := ok.p4
        refine ⟨_, rfl, b, _, 1, _, rfl, rfl, sqT_same gs hb, rfl, ea, rfl, ⟨exs, sqT_same gs hes⟩, fun D nD => ?_⟩
        refine lc_true (K := K) (sqT_same gs hes) nD (by omega) ?_ ?_
        · rintro j x4 H4 Kk Nx hx4 s4 kk
          obtain ⟨d, hd1, hd2⟩ := dpAll_get' hea hx4
          obtain ⟨z, hz, rfl⟩ : ∃ z, c.elders[j]? = some z ∧ d = .str z := by
            rw [List.getElem?_map] at hd1
            cases e : c.elders[j]? with
            | none => rw [e] at hd1; cases hd1
            | some z => rw [e] at hd1; exact ⟨z, rfl, (Option.some.inj hd1).symm⟩
          obtain rfl := dp_str_inv hd2
          have hzn : z ∈ vs'.map (·.name) := (hp.map Voice.name).mem_iff.mpr ((ok.elds c hcm).2 z (List.mem_of_getElem? hz))
          refine ⟨rfl, _, rfl, _, rfl, nd, _, rfl, DGet.k (k := .inr z) (s4 _ _ hnk3), ?_⟩
          rw [nk_val, if_pos hzn]
          exact kk H4 (.refl _)
        · rintro H4 s4 hD
          refine ⟨D, _, rfl, .of hD, ?_⟩
          rw [all_rep]
          exact ⟨_, rfl, iteN rfl ⟨s3.trans s4, _, _, rfl⟩⟩
      · rintro σ H2 ⟨s2, o4, o5, rfl⟩
        exact k _ (s1.trans s2)
end
end P52

namespace P52
open PySem PySem.Spec PyProof.Rows L2 HG HF
section
variable {P : Program} {w : World} {K : PySem.W.Frag} {mg : Str → Option Value} {base : Heap}
theorem kcRo : FnScope ["notes", "many", "rows", "_", "row", "note"] ["notes", "many"] (defScope P__rows) := ⟨rfl, rfl, rfl, by decide +kernel, rfl, by decide +kernel, by decide +kernel⟩
theorem ok_rows {f : Addr} {fd : FuncData} {k : Nat} (F : Fun K "_rows" "_rows" P__rows f fd) (mr : mg "range" = none) : FnOk P w K mg base CX0 (k + 1) f fd ["notes", "many"] spRows := by
  refine F.ok kcRo (fun vs H Q E h => ?_) (fun cdv A outer s H vs Q E hr h => ?_)
  · obtain ⟨n, m, rfl, _⟩ := h
    rfl
  · obtain ⟨n, m, rfl, hn1, hn, hm, hnm, k⟩ := h
    refine ⟨_, (pss_cons (ps_set (i := 2) kcRo.nd rfl (.inl rfl) (pe_lst (pa_cons (pe_tup pa_nil) pa_nil)))
      (pss_cons (ps_for PassesOwn.never rfl (pi_range1 rfl mr (pa_cons (pv 1) pa_nil)) (pg_name (i := 3) kcRo.nd rfl (.inl rfl))
         (pss_one (ps_setLc2 (i := 2) (own := [("row", 4), ("note", 5)]) (vs1 := [5]) (g := gName 4) (tt := tYes) (g1 := gName 5) (tt1 := tYes) rfl kcRo.nd rfl rfl (sw_true rfl rfl rfl (by decide +kernel)) (pi_list (pv 2)) (blkOk_by (N := ["notes", "many", "rows", "_", "row", "note"]) (sc := defScope P__rows) (by decide +kernel)) (by decide) (fun _ _ _ _ _ => (pg_name (i := 4) kcRo.nd rfl (.inl rfl))) (fun _ _ _ _ _ => pts_nil) (fun _ _ _ _ _ => (pi_range1 rfl mr (pa_cons (pv 0) pa_nil))) (fun _ _ _ _ _ => (pg_name (i := 5) kcRo.nd rfl (.inl rfl))) (fun _ _ _ _ _ => pts_nil) (fun _ _ _ _ _ => (pe_op (r := rCatA K) op_catA (pv 4) (pe_tup (pa_cons (pv 5) pa_nil)))))))
      (pss_one (ps_ret (pv 2))))), ?_⟩
    refine ⟨by decide, fun e0 ne0 => ⟨by show 1 ≤ sizeLine; decide, fun q0 nq0 => ?_⟩⟩
    refine ⟨_, rfl, (m : Int), rfl, by omega, by omega, ?_⟩
    rw [Int.toNat_natCast]
    have hpow : ∀ i, i ≤ m → n ^ i ≤ 64 := fun i hi => Nat.le_trans (Nat.pow_le_pow_right hn1 hi) hnm
    refine for_range (fun i σ H' => Same H H' ∧ ∃ q xs o, H q = none ∧ H' q = some (.lst xs) ∧ TrAll H' xs (rowsL n i) ∧ σ = [some (.int (n : Int)), some (.int (m : Int)), some (.ref q), o, none, none]) ?_ ?_ ?_
    · refine ⟨same_put (same_upd ne0) (same_upd ne0 |>.free nq0), q0, [.ref e0], none, (same_upd ne0).free nq0, upd_same, ⟨rfl, fun k x hx => ?_⟩, rfl⟩
      rcases k with _ | k
      · cases hx
        refine ⟨[], rfl, e0, rfl, ?_⟩
        rw [upd_ne (ne_of_none upd_same nq0), upd_same]
        rfl
      · simp at hx
    · rintro i σ H1 hi ⟨s1, q, xs, o, nq, hq, htr, rfl⟩
      have hxl : xs.length ≤ 64 := by rw [htr.1, rows_len]; exact hpow i (by omega)
      refine ⟨_, rfl, q, rfl, ⟨xs, .of hq⟩, fun D nD => ?_⟩
      refine it_walk (walk_list (K := K) (a := q) (xs := xs)) (fun j H' => Same H1 H' ∧ ∃ ys, H' D = some (.lst ys) ∧ TrAll H' ys (((rowsL n i).take j).flatMap fun row => (List.range n).map fun d => row ++ [d])) ⟨same_upd nD, [], upd_same, .nil⟩ (fun j H' _ ⟨s2, _⟩ => .of (s2 _ _ hq)) ?_ ?_
      · rintro j x H2 H3 hj ⟨s2, ys, hD, hys⟩ ⟨rfl, hx⟩
        obtain ⟨t, ht, a, rfl, ha⟩ := htr.2 j x hx
        have hj2 : j < (rowsL n i).length := (List.getElem?_eq_some_iff.mp ht).1
        refine ⟨rfl, _, rfl, (n : Int), rfl, by omega, by omega, ?_⟩
        rw [Int.toNat_natCast]
        refine it_walk (walk_range (lo := 0) (n := n)) (fun l H' => Same H1 H' ∧ ∃ ys, H' D = some (.lst ys) ∧ TrAll H' ys ((((rowsL n i).take j).flatMap fun row => (List.range n).map fun d => row ++ [d]) ++ (List.range l).map fun d => t ++ [d])) ⟨s2, ys, hD, by rw [List.range_zero, List.map_nil, List.append_nil]; exact hys⟩ (fun _ _ _ _ => trivial) ?_ ?_
        · rintro l y H4 H5 hl ⟨s4, zs, hD4, hzs⟩ ⟨rfl, rfl⟩
          have hjn : j * n ≤ 64 * 5 := Nat.mul_le_mul (by omega) hn
          have fin : ∀ (r : Addr) (H6 : Hp), Same H5 H6 → H6 r = some (.tup (nVs (t ++ [l]))) → ∃ acc, H6 D = some (.lst acc) ∧ acc.length < sizeLine ∧ Same H1 (upd H6 D (.lst (acc ++ [.ref r]))) ∧ ∃ ys, (upd H6 D (.lst (acc ++ [.ref r]))) D = some (.lst ys) ∧
              TrAll (upd H6 D (.lst (acc ++ [.ref r]))) ys ((((rowsL n i).take j).flatMap fun row => (List.range n).map fun d => row ++ [d]) ++ (List.range (l + 1)).map fun d => t ++ [d]) := by
            intro r H6 s6 hr6
            refine ⟨zs, s6 _ _ hD4, ?_, same_put (s4.trans s6) nD, _, upd_same, ?_⟩
            · rw [hzs.1, List.length_append, flat_len, List.length_take, List.length_map, List.length_range]
              refine small1000 ?_
              have : min j (rowsL n i).length * n ≤ 64 * 5 := Nat.mul_le_mul (by rw [rows_len]; have := hpow i (by omega); omega) hn
              omega
            · have e : (List.range (l + 1)).map (fun d => t ++ [d]) = (List.range l).map (fun d => t ++ [d]) ++ [t ++ [l]] := by rw [List.range_succ, List.map_append]; rfl
              rw [e, ← List.append_assoc]
              refine TrAll.snoc ⟨hzs.1, fun k x hx => ?_⟩ ⟨r, rfl, by rw [upd_ne (fun z => by rw [z, s6 _ _ hD4] at hr6; cases hr6)]; exact hr6⟩
              obtain ⟨t', h1, b, rfl, h2⟩ := hzs.2 k x hx
              exact ⟨t', h1, b, rfl, by rw [upd_ne (fun z => by rw [z, hD4] at h2; cases h2)]; exact s6 _ _ h2⟩
          refine ⟨rfl, _, rfl, _, rfl, (by show 1 ≤ sizeLine; decide), fun T nT => ?_⟩
          have ha5 : H5 a = some (.tup (nVs t)) := s4 _ _ ha
          have hT : (upd H5 T (.tup [.int (0 + (l : Int))])) T = some (.tup (nVs [l])) := by
            rw [upd_same]
            show some (HO.tup [V.int (0 + (l : Int))]) = some (HO.tup [V.int (l : Int)])
            rw [Int.zero_add]
          refine ⟨a, T, nVs t, nVs [l], rfl, rfl, .inl (.of (by rw [upd_ne (ne_of_none ha5 nT)]; exact ha5)), .inl (.of hT), ?_, fun h => ?_, (fun _ h => by cases h), fun _ _ p np => ?_⟩
          · have htl := (rows_mem.mp (List.mem_of_getElem? ht)).1
            rw [nVs_len, htl]
            exact Nat.le_of_lt (small1000 (by show i + 1 ≤ 1000; omega))
          · refine fin T _ (same_upd nT) ?_
            have : t = [] := by
              cases t with
              | nil => rfl
              | cons d r => cases h
            rw [this]
            exact hT
          · refine fin p _ (same_put (same_upd nT) ((same_upd nT).free np)) ?_
            rw [upd_same, nVs_app]
        · rintro H4 ⟨s4, zs, hD4, hzs⟩
          refine ⟨s4, zs, hD4, ?_⟩
          rw [List.take_add_one, ht]
          show TrAll H4 zs (List.flatMap _ (_ ++ [t]))
          rw [List.flatMap_append, List.flatMap_singleton]
          exact hzs
      · rintro H2 ⟨s2, ys, hD, hys⟩
        have hz : xs.length = (rowsL n i).length := htr.1
        rw [hz, List.take_length] at hys
        exact ⟨s1.trans s2, D, ys, _, s1.free nD, hD, hys, rfl⟩
    · rintro σ H1 ⟨s1, q, xs, o, nq, hq, htr, rfl⟩
      exact ⟨_, rfl, k q H1 xs s1 nq hq htr⟩
end
end P52

namespace P52
open PySem PySem.Spec PyProof.Rows L2 HG HF
section
variable {P : Program} {w : World} {K : PySem.W.Frag} {mg : Str → Option Value} {base : Heap}
theorem kcWy : FnScope ["self", "standing", "rest", "told", "_", "elders", "tables"] ["self", "standing", "rest"] (defScope C_Choir_way) := ⟨rfl, rfl, rfl, by decide +kernel, rfl, by decide +kernel, by decide +kernel⟩
theorem ok_way {f C : Addr} {fd : FuncData} {k : Nat} (F : Fun K "_way" "Choir._way" C_Choir_way f fd) (cl : Cls K C) (nV : NoAttr K C "_voices") (nP : NoAttr K C "_places") (mT : mg "tuple" = none) : FnOk P w K mg base CX0 (k + 1) f fd ["self", "standing", "rest"] (spWay K C) := by
  refine F.ok kcWy (fun vs H Q E h => ?_) (fun cdv A outer s H vs Q E hr h => ?_)
  · obtain ⟨G, x, sv, r, pa, dx, fs, st, lim, rfl, _⟩ := h
    rfl
  · obtain ⟨G, x, sv, r, pa, dx, fs, st, lim, rfl, g, hco, hst, ok, hlim, hso, hrp, k⟩ := h
    refine ⟨_, (pss_cons (ps_set (i := 3) kcWy.nd rfl (.inl rfl) (pe_lst pa_nil))
      (pss_cons (ps_for PassesOwn.never rfl (pi_list (pe_fld (pv 0) rfl)) (pg_tup rfl (pgs_cons (pg_name (i := 4) kcWy.nd rfl (.inl rfl)) (pgs_cons (pg_name (i := 5) kcWy.nd rfl (.inl rfl)) (pgs_cons (pg_name (i := 6) kcWy.nd rfl (.inl rfl)) pgs_nil))))
         (pss_one (ps_expr (pe_bm PySem.F.plainAttrs_list PySem.F.slot_list_append PySem.F.type_list_append mt_append (pv 3) (pa_cons (pe_ix (r := rIxT K) ix_tup (pe_ix (r := rIxT K) ix_tup (pv 6) (pv 2) (fun _ _ => rfl)) (pe_ix (r := rIxT K) ix_tup (pv 1) (pe_dget (hu_of hr) (pe_fld (pv 0) rfl) (pe_ix (r := rIxT K) ix_tup (pv 5) (pv 2) (fun _ _ => rfl)) (fun _ _ => rfl)) (fun _ _ => rfl)) (fun _ _ => rfl)) pa_nil)))))
      (pss_one (ps_ret (pe_tupleOf (by rfl) mT (pv 3)))))), ?_⟩
    obtain ⟨vl, xs, hfv, hvl, hda⟩ := hco.voices
    obtain ⟨pl, kvs, hfp, hpl, hpo⟩ := hco.places
    have hxl := dpAll_len hda
    rw [List.length_map] at hxl
    have v6 := ok.v6
    obtain ⟨sa, rfl, hsa⟩ := hst
    refine ⟨Nat.zero_le _, fun D nD => ?_⟩
    refine ⟨_, rfl, x, C, dx, fs, _, rfl, (same_upd nD) _ _ (g _ _ hco.ins), cl, nV, hfv, vl, rfl, ⟨xs, .of ((same_upd nD) _ _ (g _ _ hvl))⟩, ?_⟩
    refine for_it (walk_list (K := K) (a := vl) (xs := xs)) (fun j σ H' => Same H H' ∧ H' D = some (.lst (nVs ((pa.voices.take j).map (ledV pa st r)))) ∧ ∃ o4 o5 o6, σ = [some (.ref x), some (.ref sa), some (.int (r : Int)), some (.ref D), o4, o5, o6]) ?_ ?_ ?_ ?_
    · exact ⟨same_upd nD, upd_same, none, none, none, rfl⟩
    · rintro j σ H1 hj ⟨s1, _⟩
      exact .of (s1 _ _ (g _ _ hvl))
    · rintro j y σ H1 H2 hj ⟨s1, hD, o4, o5, o6, rfl⟩ ⟨rfl, hy⟩
      obtain ⟨d, hd1, hd2⟩ := dpAll_get' hda hy
      obtain ⟨c, hc, rfl⟩ : ∃ c, pa.voices[j]? = some c ∧ d = voiceD c := by
        rw [List.getElem?_map] at hd1
        cases e : pa.voices[j]? with
        | none => rw [e] at hd1; cases hd1
        | some c => rw [e] at hd1; exact ⟨c, rfl, (Option.some.inj hd1).symm⟩
      have hcm : c ∈ pa.voices := List.mem_of_getElem? hc
      have gs : Same G H2 := g.trans s1
      obtain ⟨b, x1, x2, rfl, hb, he, ht⟩ := voice_inv hd2
      have hel := (ok.elds c hcm).1
      have htl := (ok.tabs c hcm).1
      have het : (c.elders.map PyData.str)[r]? = some (.str (c.elders.getD r (Str.ofString ""))) := by
        rw [List.getElem?_map, List.getElem?_eq_getElem (by omega), List.getD_eq_getElem?_getD, List.getElem?_eq_getElem (by omega)]
        rfl
      have htt : (c.tables.map tabD)[r]? = some (tabD (c.tables.getD r [])) := by
        rw [List.getElem?_map, List.getElem?_eq_getElem (by omega), List.getD_eq_getElem?_getD, List.getElem?_eq_getElem (by omega)]
        rfl
      obtain ⟨ea, exs, ex, rfl, hes, hea, hed⟩ := tup_at he het
      obtain ⟨ta, txs, tx, rfl, hts, hta, htd⟩ := tup_at ht htt
      obtain rfl := dp_str_inv hed
      have hlt := elder_lt ok hcm hrp
      have tabok := tab_at ok hcm hrp
      have hmem := elder_mem ok hcm hrp
      have hsl : st.length = pa.voices.length := hso.1
      have hsv : (nVs st)[elderAt pa c r]? = some (.int ((st.getD (elderAt pa c r) 0 : Nat) : Int)) := by
        unfold nVs
        rw [List.getElem?_map, List.getElem?_eq_getElem (by omega), List.getD_eq_getElem?_getD, List.getElem?_eq_getElem (by omega)]
        rfl
      have hsv2 : st.getD (elderAt pa c r) 0 < pa.notes := getD_mem_lt (by omega) hso.2
      obtain ⟨ua, uxs, ux, rfl, hus, hua, hud⟩ := tup_at htd (nDs_at (i := st.getD (elderAt pa c r) 0) (by rw [tabok.1]; exact hsv2))
      obtain rfl := dp_int_inv hud
      have hplace : valV kvs (.inr (c.elders.getD r (Str.ofString ""))) = some (.int ((elderAt pa c r : Nat) : Int)) := by
        refine hpo _ _ ?_
        unfold elderAt
        rw [List.getElem?_eq_getElem (List.idxOf_lt_length_of_mem hmem), List.getElem_idxOf]
      refine ⟨b, _, rfl, sqT_same gs hb, rfl, _, _, rfl, _, _, rfl, _, _, rfl, rfl, ?_⟩
      refine ⟨_, rfl, .inl ⟨rfl, _, .of hD⟩, _, rfl, _, rfl, ta, _, (r : Int), _, rfl, rfl, sqT_same gs hts, hta, ?_⟩
      have hdg : DGet H2 pl (.str (c.elders.getD r (Str.ofString ""))) (some (.int ((elderAt pa c r : Nat) : Int))) := by
        rw [← hplace]
        exact DGet.k (k := .inr (c.elders.getD r (Str.ofString ""))) (gs _ _ hpl)
      refine ⟨_, rfl, _, rfl, x, C, dx, fs, _, rfl, gs _ _ hco.ins, cl, nP, hfp, _, rfl, _, rfl, ea, _, (r : Int), _, rfl, rfl, sqT_same gs hes, hea, pl, _, rfl, hdg, ?_⟩
      refine ⟨sa, _, _, _, rfl, rfl, .inl (.of (gs _ _ hsa)), atI_nat hsv, ua, _, _, _, rfl, rfl, sqT_same gs hus, hua, D, _, _, rfl, rfl, hD, ?_, ?_⟩
      · rw [nVs_len, List.length_map, List.length_take]
        exact small1000 (by omega)
      · refine ⟨same_put s1 nD, ?_, _, _, _, rfl⟩
        rw [upd_same, map_take1 hc, nVs_app]
        rfl
    · rintro σ H1 ⟨s1, hD, o4, o5, o6, rfl⟩
      rw [hxl, List.take_length] at hD
      refine ⟨_, rfl, .inl ⟨D, _, rfl, .of hD, fun q nq => ?_⟩⟩
      exact k q _ (s1.trans (same_upd nq)) (s1.free nq) upd_same
theorem kcWo : FnScope ["self", "standing", "rest"] ["self", "standing"] (defScope C_Choir_ways_of) := ⟨rfl, rfl, rfl, by decide +kernel, rfl, by decide +kernel, by decide +kernel⟩
theorem ok_waysof {f C : Addr} {fd : FuncData} (F : Fun K "_ways_of" "Choir._ways_of" C_Choir_ways_of f fd) (cl : Cls K C) (nPc : NoAttr K C "_pace") (dW : Mf P w K mg base C "_way" 1 ["self", "standing", "rest"] (spWay K C)) (mT : mg "tuple" = none) (mr : mg "range" = none) : FnOk P w K mg base CX0 2 f fd ["self", "standing"] (spWaysOf K C) := by
  refine F.ok kcWo (fun vs H Q E h => ?_) (fun cdv A outer s H vs Q E hr h => ?_)
  · obtain ⟨G, x, sv, pa, dx, fs, st, lim, rfl, _⟩ := h
    rfl
  · obtain ⟨G, x, sv, pa, dx, fs, st, lim, rfl, g, hco, hst, ok, hlim, hso, k⟩ := h
    refine ⟨_, (pss_one (ps_ret (pe_tupleOf (by rfl) mT (pe_lc (own := [("rest", 2)]) (g := gName 2) (tt := tYes) rfl kcWo.nd (pi_range1 rfl mr (pa_cons (pe_fld (pv 0) rfl) pa_nil)) (blkOk_by (N := ["self", "standing", "rest"]) (sc := defScope C_Choir_ways_of) (by decide +kernel)) (fun _ _ _ _ _ => (pg_name (i := 2) kcWo.nd rfl (.inl rfl))) (fun _ _ _ _ _ => pts_nil) (fun _ _ _ _ _ => (pe_mD (C := C) (m := "_way") (k := 1) (ps := ["self", "standing", "rest"]) (sp := spWay K C) (pv 0) cl dW hr (pa_cons (pv 1) (pa_cons (pv 2) pa_nil)))))))), ?_⟩
    have p4 := ok.p4
    refine ⟨_, rfl, x, C, dx, fs, _, rfl, g _ _ hco.ins, cl, nPc, hco.pace, (pa.pace : Int), rfl, by omega, by omega, fun D nD => ?_⟩
    rw [Int.toNat_natCast]
    refine lc_it (walk_range (lo := 0) (n := pa.pace)) (fun j H' => Same H H' ∧ ∃ ys, H' D = some (.lst ys) ∧ ys.length = j ∧ ∀ r, r < j → ∃ b, ys[r]? = some (.ref b) ∧ H b = none ∧ H' b = some (.tup (nVs (ledL pa st r)))) ?_ (fun _ _ _ _ => trivial) ?_ ?_
    · exact ⟨same_upd nD, [], upd_same, rfl, fun r hr => absurd hr (Nat.not_lt_zero r)⟩
    · rintro j y H1 H2 hj ⟨s1, ys, hD, hl, hys⟩ ⟨rfl, rfl⟩
      have gs := g.trans s1
      refine ⟨rfl, _, rfl, x, dx, fs, rfl, gs _ _ hco.ins, hco.meth _ (by decide +kernel), _, rfl, _, rfl, ?_⟩
      refine ⟨G, x, sv, j, pa, dx, fs, st, lim, (by show [V.ref x, sv, V.int (0 + (j : Int))] = _; rw [Int.zero_add]), gs, hco, hst, ok, hlim, hso, hj, fun q H3 s3 nq hq => ⟨ys, s3 _ _ hD, small1000 (by omega), same_put (s1.trans s3) nD, ys ++ [.ref q], upd_same, by rw [List.length_append, hl]; rfl, fun r hr2 => ?_⟩⟩
      rcases Nat.lt_succ_iff_lt_or_eq.mp hr2 with c | rfl
      · obtain ⟨b, h1, h2, h3⟩ := hys r c
        refine ⟨b, by rw [List.getElem?_append_left (by omega)]; exact h1, h2, ?_⟩
        rw [upd_ne (fun z => by rw [z, hD] at h3; cases h3)]
        exact s3 _ _ h3
      · refine ⟨q, by rw [← hl, List.getElem?_concat_length], s1.free nq, ?_⟩
        rw [upd_ne (fun z => by rw [z, s3 _ _ hD] at hq; cases hq)]
        exact hq
    · rintro H1 ⟨s1, ys, hD, hl, hys⟩
      refine .inl ⟨D, _, rfl, .of hD, fun q nq => ?_⟩
      refine k _ _ (same_put s1 (s1.free nq)) ⟨q, ys, rfl, ?_, hl, fun r hr => ?_⟩
      · rw [fresh_at (s1.free nq), upd_same]
      · obtain ⟨b, h1, h2, h3⟩ := hys r hr
        refine ⟨_, h1, b, rfl, ?_⟩
        rw [fresh_at h2, upd_ne (ne_of_none h3 nq)]
        exact h3
end
end P52

namespace P52
open PySem PySem.Spec PyProof.Rows L2 HG HF
theorem trF {H H' : Hp} {xs : List V} {ts : List (List Nat)} (h : TrAll H' xs ts) (n : NewA H xs) : TrAll (fresh H H') xs ts := ⟨h.1, fun k x e => by
  obtain ⟨t, h1, a, rfl, h2⟩ := h.2 k x e
  obtain ⟨b, eb, nb⟩ := n _ (List.mem_of_getElem? e)
  cases eb
  exact ⟨t, h1, a, rfl, by rw [fresh_at nb]; exact h2⟩⟩
section
variable {P : Program} {w : World} {K : PySem.W.Frag} {mg : Str → Option Value} {base : Heap}
theorem kcRn : FnScope ["notes", "many", "rows", "_", "row", "note"] ["notes", "many"] (defScope P__rows) := ⟨rfl, rfl, rfl, by decide +kernel, rfl, by decide +kernel, by decide +kernel⟩
theorem ok_rowsN {f : Addr} {fd : FuncData} {k : Nat} (F : Fun K "_rows" "_rows" P__rows f fd) (mr : mg "range" = none) : FnOk P w K mg base CX0 (k + 1) f fd ["notes", "many"] spRowsN := by
  refine F.ok kcRn (fun vs H Q E h => ?_) (fun cdv A outer s H vs Q E hr h => ?_)
  · obtain ⟨n, m, rfl, _⟩ := h
    rfl
  · obtain ⟨n, m, rfl, hn1, hn, hm, hnm, k⟩ := h
    refine ⟨_, (pss_cons (ps_set (i := 2) kcRn.nd rfl (.inl rfl) (pe_lst (pa_cons (pe_tup pa_nil) pa_nil)))
      (pss_cons (ps_for PassesOwn.never rfl (pi_range1 rfl mr (pa_cons (pv 1) pa_nil)) (pg_name (i := 3) kcRn.nd rfl (.inl rfl))
         (pss_one (ps_setLc2 (i := 2) (own := [("row", 4), ("note", 5)]) (vs1 := [5]) (g := gName 4) (tt := tYes) (g1 := gName 5) (tt1 := tYes) rfl kcRn.nd rfl rfl (sw_true rfl rfl rfl (by decide +kernel)) (pi_list (pv 2)) (blkOk_by (N := ["notes", "many", "rows", "_", "row", "note"]) (sc := defScope P__rows) (by decide +kernel)) (by decide) (fun _ _ _ _ _ => (pg_name (i := 4) kcRn.nd rfl (.inl rfl))) (fun _ _ _ _ _ => pts_nil) (fun _ _ _ _ _ => (pi_range1 rfl mr (pa_cons (pv 0) pa_nil))) (fun _ _ _ _ _ => (pg_name (i := 5) kcRn.nd rfl (.inl rfl))) (fun _ _ _ _ _ => pts_nil) (fun _ _ _ _ _ => (pe_op (r := rCatA K) op_catA (pv 4) (pe_tup (pa_cons (pv 5) pa_nil)))))))
      (pss_one (ps_ret (pv 2))))), ?_⟩
    refine ⟨by decide, fun e0 ne0 => ⟨by show 1 ≤ sizeLine; decide, fun q0 nq0 => ?_⟩⟩
    refine ⟨_, rfl, (m : Int), rfl, by omega, by omega, ?_⟩
    rw [Int.toNat_natCast]
    have hpow : ∀ i, i ≤ m → n ^ i ≤ 64 := fun i hi => Nat.le_trans (Nat.pow_le_pow_right hn1 hi) hnm
    refine for_range (fun i σ H' => Same H H' ∧ ∃ q xs o, H q = none ∧ H' q = some (.lst xs) ∧ TrAll H' xs (rowsL n i) ∧ NewA H xs ∧ σ = [some (.int (n : Int)), some (.int (m : Int)), some (.ref q), o, none, none]) ?_ ?_ ?_
    · refine ⟨same_put (same_upd ne0) (same_upd ne0 |>.free nq0), q0, [.ref e0], none, (same_upd ne0).free nq0, upd_same, ⟨rfl, fun k x hx => ?_⟩, (fun x hx => by rw [List.mem_singleton.mp hx]; exact ⟨e0, rfl, ne0⟩), rfl⟩
      rcases k with _ | k
      · cases hx
        refine ⟨[], rfl, e0, rfl, ?_⟩
        rw [upd_ne (ne_of_none upd_same nq0), upd_same]
        rfl
      · simp at hx
    · rintro i σ H1 hi ⟨s1, q, xs, o, nq, hq, htr, hna, rfl⟩
      have hxl : xs.length ≤ 64 := by rw [htr.1, rows_len]; exact hpow i (by omega)
      refine ⟨_, rfl, q, rfl, ⟨xs, .of hq⟩, fun D nD => ?_⟩
      refine it_walk (walk_list (K := K) (a := q) (xs := xs)) (fun j H' => Same H1 H' ∧ ∃ ys, H' D = some (.lst ys) ∧ TrAll H' ys (((rowsL n i).take j).flatMap fun row => (List.range n).map fun d => row ++ [d]) ∧ NewA H ys) ⟨same_upd nD, [], upd_same, .nil, fun x hx => by cases hx⟩ (fun j H' _ ⟨s2, _⟩ => .of (s2 _ _ hq)) ?_ ?_
      · rintro j x H2 H3 hj ⟨s2, ys, hD, hys, hya⟩ ⟨rfl, hx⟩
        obtain ⟨t, ht, a, rfl, ha⟩ := htr.2 j x hx
        have hj2 : j < (rowsL n i).length := (List.getElem?_eq_some_iff.mp ht).1
        refine ⟨rfl, _, rfl, (n : Int), rfl, by omega, by omega, ?_⟩
        rw [Int.toNat_natCast]
        refine it_walk (walk_range (lo := 0) (n := n)) (fun l H' => Same H1 H' ∧ ∃ ys, H' D = some (.lst ys) ∧ TrAll H' ys ((((rowsL n i).take j).flatMap fun row => (List.range n).map fun d => row ++ [d]) ++ (List.range l).map fun d => t ++ [d]) ∧ NewA H ys) ⟨s2, ys, hD, by rw [List.range_zero, List.map_nil, List.append_nil]; exact hys, hya⟩ (fun _ _ _ _ => trivial) ?_ ?_
        · rintro l y H4 H5 hl ⟨s4, zs, hD4, hzs, hza⟩ ⟨rfl, rfl⟩
          have hjn : j * n ≤ 64 * 5 := Nat.mul_le_mul (by omega) hn
          have fin : ∀ (r : Addr) (H6 : Hp), Same H5 H6 → H6 r = some (.tup (nVs (t ++ [l]))) → H r = none → ∃ acc, H6 D = some (.lst acc) ∧ acc.length < sizeLine ∧ Same H1 (upd H6 D (.lst (acc ++ [.ref r]))) ∧ ∃ ys, (upd H6 D (.lst (acc ++ [.ref r]))) D = some (.lst ys) ∧
              TrAll (upd H6 D (.lst (acc ++ [.ref r]))) ys ((((rowsL n i).take j).flatMap fun row => (List.range n).map fun d => row ++ [d]) ++ (List.range (l + 1)).map fun d => t ++ [d]) ∧ NewA H ys := by
            intro r H6 s6 hr6 hrn
            refine ⟨zs, s6 _ _ hD4, ?_, same_put (s4.trans s6) nD, _, upd_same, ?_, fun x hx => ?_⟩
            rotate_right
            · rcases List.mem_append.mp hx with hx | hx
              · exact hza x hx
              · rw [List.mem_singleton.mp hx]; exact ⟨r, rfl, hrn⟩
            · rw [hzs.1, List.length_append, flat_len, List.length_take, List.length_map, List.length_range]
              refine small1000 ?_
              have : min j (rowsL n i).length * n ≤ 64 * 5 := Nat.mul_le_mul (by rw [rows_len]; have := hpow i (by omega); omega) hn
              omega
            · have e : (List.range (l + 1)).map (fun d => t ++ [d]) = (List.range l).map (fun d => t ++ [d]) ++ [t ++ [l]] := by rw [List.range_succ, List.map_append]; rfl
              rw [e, ← List.append_assoc]
              refine TrAll.snoc ⟨hzs.1, fun k x hx => ?_⟩ ⟨r, rfl, by rw [upd_ne (fun z => by rw [z, s6 _ _ hD4] at hr6; cases hr6)]; exact hr6⟩
              obtain ⟨t', h1, b, rfl, h2⟩ := hzs.2 k x hx
              exact ⟨t', h1, b, rfl, by rw [upd_ne (fun z => by rw [z, hD4] at h2; cases h2)]; exact s6 _ _ h2⟩
          refine ⟨rfl, _, rfl, _, rfl, (by show 1 ≤ sizeLine; decide), fun T nT => ?_⟩
          have ha5 : H5 a = some (.tup (nVs t)) := s4 _ _ ha
          have hT : (upd H5 T (.tup [.int (0 + (l : Int))])) T = some (.tup (nVs [l])) := by
            rw [upd_same]
            show some (HO.tup [V.int (0 + (l : Int))]) = some (HO.tup [V.int (l : Int)])
            rw [Int.zero_add]
          refine ⟨a, T, nVs t, nVs [l], rfl, rfl, .inl (.of (by rw [upd_ne (ne_of_none ha5 nT)]; exact ha5)), .inl (.of hT), ?_, fun h => ?_, (fun _ h => by cases h), fun _ _ p np => ?_⟩
          · have htl := (rows_mem.mp (List.mem_of_getElem? ht)).1
            rw [nVs_len, htl]
            exact Nat.le_of_lt (small1000 (by show i + 1 ≤ 1000; omega))
          · refine fin T _ (same_upd nT) ?_ ((s1.trans s4).free nT)
            have : t = [] := by
              cases t with
              | nil => rfl
              | cons d r => cases h
            rw [this]
            exact hT
          · refine fin p _ (same_put (same_upd nT) ((same_upd nT).free np)) ?_ (((s1.trans s4).trans (same_upd nT)).free np)
            rw [upd_same, nVs_app]
        · rintro H4 ⟨s4, zs, hD4, hzs, hza⟩
          refine ⟨s4, zs, hD4, ?_, hza⟩
          rw [List.take_add_one, ht]
          show TrAll H4 zs (List.flatMap _ (_ ++ [t]))
          rw [List.flatMap_append, List.flatMap_singleton]
          exact hzs
      · rintro H2 ⟨s2, ys, hD, hys, hya⟩
        have hz : xs.length = (rowsL n i).length := htr.1
        rw [hz, List.take_length] at hys
        exact ⟨s1.trans s2, D, ys, _, s1.free nD, hD, hys, hya, rfl⟩
    · rintro σ H1 ⟨s1, q, xs, o, nq, hq, htr, hna, rfl⟩
      exact ⟨_, rfl, k q H1 xs s1 nq hq (trF htr hna)⟩
end
end P52

namespace P52
open PySem PySem.Spec PyProof.Rows L2 HG HF
def flds : List Str := ["_pace", "_notes", "_voices", "_names", "_places"]
theorem lk_flds {f : Str} {v : V} {fs : List (Str × V)} (h : f ∉ flds) : ∀ n ∈ flds, (putF f v fs).lookup n = fs.lookup n := fun n hn => lk_skip fun e => h (by rw [← e]; exact hn)
theorem fresh_none {H H' : Hp} {b : Addr} {o : HO} (e : (fresh H H') b = some o) : H b = none := by
  cases c : H b with
  | none => rfl
  | some o => unfold HG.fresh at e; rw [if_neg (by rw [c]; exact nofun)] at e; cases e
/-- the numbers of some standings -/
def spNumbered (K : PySem.W.Frag) (C : Addr) : Sp := fun vs H Q _ => ∃ (x wa dx : Addr) (fs : List (Str × V)) (ts : List V) (nl : Addr) (ns : List (List Key × V)) (is : List Nat), vs = [.ref x, .ref wa] ∧ H x = some (.ins C dx fs) ∧ fs.lookup ("_numbers" : Str) = some (.ref nl) ∧ H nl = some (.dT ns) ∧ H wa = some (.tup ts) ∧ ts.length ≤ 4 ∧ ts.length = is.length ∧
  (∀ (k : Nat) (y : V), ts[k]? = some y → ∃ (b : Addr) (st : List Nat) (i : Nat), y = .ref b ∧ H b = some (.tup (nVs st)) ∧ is[k]? = some i ∧ valV ns (keyT st) = some (.int (i : Int))) ∧ ∀ (q : Addr) (H' : Hp), Same H H' → H q = none → H' q = some (.tup (nVs is)) → Q (.ref q) H'
/-- _fill of an instance that may have fields -/
def spFill2 (K : PySem.W.Frag) (C : Addr) (At : Hp → Addr → Parts → Prop) : Sp := fun vs H Q _ => ∃ (G : Hp) (x dx : Addr) (v : V) (vs' : List Voice) (P : Parts) (lim : Nat) (fs0 : List (Str × V)), vs = [.ref x, .int (P.pace : Int), .int (P.notes : Int), v] ∧ Same G H ∧ H x = some (.ins C dx fs0) ∧ (∀ m ∈ ("_ways_of" :: "_way" :: "_fill" :: "place" :: meths : List Str), fs0.lookup m = none) ∧ fs0.length ≤ 100 ∧ H dx = some (.own x) ∧ G x = none ∧ G dx = none ∧ Dp K G v (.list (vs'.map voiceD)) ∧ vs'.Perm P.voices ∧ P.Ok lim ∧ lim ≤ 64 ∧
  ∀ (H' : Hp) (fs : List (Str × V)), (∀ b o, H b = some o → b ≠ x → H' b = some o) → H' x = some (.ins C dx fs) → fs.length ≤ fs0.length + 11 → (∀ m ∈ ("_ways_of" :: "_way" :: "_fill" :: "place" :: meths : List Str), fs.lookup m = none) → At (plus x dx (more G H H') H') x P → Q .non H'
/-- the same of a new choir -/
def spMake4 (K : PySem.W.Frag) (C : Addr) (At : Hp → Addr → Parts → Prop) : Sp := fun vs H Q _ => ∃ (G : Hp) (x dx : Addr) (v : V) (vs' : List Voice) (P : Parts) (lim : Nat), vs = [.ref x, .int (P.pace : Int), .int (P.notes : Int), v] ∧ Same G H ∧ H x = some (.ins C dx []) ∧ H dx = some (.own x) ∧ G x = none ∧ G dx = none ∧ Dp K G v (.list (vs'.map voiceD)) ∧ vs'.Perm P.voices ∧ P.Ok lim ∧ lim ≤ 64 ∧
  ∀ (H' : Hp) (fs : List (Str × V)), (∀ b o, H b = some o → b ≠ x → H' b = some o) → H' x = some (.ins C dx fs) → fs.length ≤ 11 → (∀ m ∈ ("_ways_of" :: "_way" :: "_fill" :: "place" :: meths : List Str), fs.lookup m = none) → At (plus x dx (more G H H') H') x P → Q .non H'
theorem make4_imp (K : PySem.W.Frag) (C : Addr) (At : Hp → Addr → Parts → Prop) : ∀ (vs : List V) (H : Hp) (Q : VK) (E : XK), spMakeC K C At vs H Q E → spMake4 K C At vs H Q E := fun vs H Q E ⟨G, x, dx, v, vs', P, lim, e, g, hx, hdx, gx, gdx, hd, hp, ok, hl, k⟩ =>
  ⟨G, x, dx, v, vs', P, lim, e, g, hx, hdx, gx, gdx, hd, hp, ok, hl, fun H' fs h1 _ _ _ h2 => k H' h1 h2⟩
section
variable {P : Program} {w : World} {K : PySem.W.Frag} {mg : Str → Option Value} {base : Heap}
theorem kcNu : FnScope ["self", "ways", "standing"] ["self", "ways"] (defScope C_Choir_numbered) := ⟨rfl, rfl, rfl, by decide +kernel, rfl, by decide +kernel, by decide +kernel⟩
theorem ok_numbered {f C : Addr} {fd : FuncData} {k : Nat} (F : Fun K "_numbered" "Choir._numbered" C_Choir_numbered f fd) (cl : Cls K C) (n1 : NoAttr K C "_numbers") (mT : mg "tuple" = none) : FnOk P w K mg base CX0 (k + 1) f fd ["self", "ways"] (spNumbered K C) := by
  refine F.ok kcNu (fun vs H Q E h => ?_) (fun cdv A outer s H vs Q E hr h => ?_)
  · obtain ⟨x, wa, dx, fs, ts, nl, ns, is, rfl, _⟩ := h
    rfl
  · obtain ⟨x, wa, dx, fs, ts, nl, ns, is, rfl, hx, hf, hn, hwa, htl, hil, hts, k⟩ := h
    refine ⟨_, (pss_one (ps_ret (pe_tupleOf (by rfl) mT (pe_lc (own := [("standing", 2)]) (g := gName 2) (tt := tYes) rfl kcNu.nd (pi_tup (pv 1)) (blkOk_by (N := ["self", "ways", "standing"]) (sc := defScope C_Choir_numbered) (by decide +kernel)) (fun _ _ _ _ _ => (pg_name (i := 2) kcNu.nd rfl (.inl rfl))) (fun _ _ _ _ _ => pts_nil) (fun _ _ _ _ _ => (pe_dget (hu_of hr) (pe_fldK (K := K) rfl (pv 0) rfl) (pv 2) (fun _ _ => rfl))))))), ?_⟩
    refine ⟨_, rfl, wa, rfl, ⟨ts, .inl (.inl hwa)⟩, fun D nD => ?_⟩
    refine lc_it (walk_tup (K := K) (a := wa) (xs := ts)) (fun j H' => Same H H' ∧ H' D = some (.lst (nVs (is.take j)))) ⟨same_upd nD, upd_same⟩ (fun j H' _ ⟨s, _⟩ => .inl (.inl (s _ _ hwa))) ?_ ?_
    · rintro j y H1 H2 hj ⟨s2, hD⟩ ⟨rfl, hy⟩
      obtain ⟨b, st, i, rfl, hb, his, hi⟩ := hts j y hy
      have hdg : DGet H2 nl (.ref b) (some (.int (i : Int))) := by
        rw [← hi]
        exact DGet.t (k := keyT st) (s2 _ _ hn) (by rw [keyT_v]; exact s2 _ _ hb)
      have hj2 : j < ts.length := hj
      refine ⟨rfl, _, rfl, x, C, dx, fs, _, rfl, s2 _ _ hx, cl, n1, hf, _, rfl, nl, _, rfl, hdg, ?_⟩
      refine ⟨_, hD, by rw [nVs_len, List.length_take]; exact small1000 (by omega), same_put s2 nD, ?_⟩
      rw [upd_same, List.take_add_one, his, nVs_app]
      rfl
    · rintro H1 ⟨s1, hD⟩
      rw [hil, List.take_length] at hD
      exact .inl ⟨D, _, rfl, .of hD, fun q nq => k q _ (s1.trans (same_upd nq)) (s1.free nq) upd_same⟩
theorem kcFi : FnScope ["self", "pace", "notes", "voices", "voice", "place", "name", "number", "standing"] ["self", "pace", "notes", "voices"] (defScope C_Choir_fill) := ⟨rfl, rfl, rfl, by decide +kernel, rfl, by decide +kernel, by decide +kernel⟩
theorem ok_fill {f C : Addr} {fd : FuncData} (F : Fun K "_fill" "Choir._fill" C_Choir_fill f fd) (cl : Cls K C) (n1 : NoAttr K C "_pace") (n2 : NoAttr K C "_notes") (n3 : NoAttr K C "_voices") (n4 : NoAttr K C "_names") (n5 : NoAttr K C "_places") (n6 : NoAttr K C "_ways") (n7 : NoAttr K C "_standings") (n8 : NoAttr K C "_numbers") (n9 : NoAttr K C "_steps") (n10 : NoAttr K C "_reached") (n11 : NoAttr K C "_levels")
    (dW : Mf P w K mg base C "_ways_of" 2 ["self", "standing"] (spWaysOf K C)) (dN : Mf P w K mg base C "_numbered" 1 ["self", "ways"] (spNumbered K C)) (dR : Df P w K mg base "_rows" 1 ["notes", "many"] spRowsN) (mS : mg "sorted" = none) (mE : mg "enumerate" = none) (ml : mg "len" = none) (mT : mg "tuple" = none) : FnOk P w K mg base CX0 3 f fd ["self", "pace", "notes", "voices"] (spFill2 K C (AtN K C)) := by
  refine F.ok kcFi (fun vs H Q E h => ?_) (fun cdv A outer s H vs Q E hr h => ?_)
  · obtain ⟨G, x, dx, v, vs', pa, lim, fs0, rfl, _⟩ := h
    rfl
  · obtain ⟨G, x, dx, v, vs', pa, lim, fs0, rfl, g, hx, ms, z0, hdx, gx, gdx, hd, hp, ok, hlim, k⟩ := h
    refine ⟨_, (pss_cons (ps_fld (pv 0) (pv 1) rfl)
      (pss_cons (ps_fld (pv 0) (pv 2) rfl)
      (pss_cons (ps_fld (pv 0) (pe_callB (id := "sorted") (r := rSortedDat voiceD K) (cr_sortedDat voiceD hr) (by rfl) mS (by decide +kernel) (pa_cons (pv 3) pa_nil)) rfl)
      (pss_cons (ps_fld (pv 0) (pe_lc (own := [("voice", 4)]) (g := gName 4) (tt := tYes) rfl kcFi.nd (pi_list (pe_fld (pv 0) rfl)) (blkOk_by (N := ["self", "pace", "notes", "voices", "voice", "place", "name", "number", "standing"]) (sc := defScope C_Choir_fill) (by decide +kernel)) (fun _ _ _ _ _ => (pg_name (i := 4) kcFi.nd rfl (.inl rfl))) (fun _ _ _ _ _ => pts_nil) (fun _ _ _ _ _ => (pe_ix (r := rIxT K) ix_tup (pv 4) pe_int (fun _ _ => rfl)))) rfl)
      (pss_cons (ps_fld (pv 0) (pe_dc (own := [("place", 5), ("name", 6)]) (g := gTup K 2 (gCons (gName 5) (gCons (gName 6) gNil))) (tt := tYes) rfl kcFi.nd (pi_enum (by rfl) mE (pa_cons (pe_fld (pv 0) rfl) pa_nil)) (blkOk_by (N := ["self", "pace", "notes", "voices", "voice", "place", "name", "number", "standing"]) (sc := defScope C_Choir_fill) (by decide +kernel)) (fun _ _ _ _ _ => (pg_tup rfl (pgs_cons (pg_name (i := 5) kcFi.nd rfl (.inl rfl) (.inr rfl)) (pgs_cons (pg_name (i := 6) kcFi.nd rfl (.inl rfl) (.inr rfl)) pgs_nil)))) (fun _ _ _ _ _ => pts_nil) (fun _ _ _ _ _ => (pv 6)) (fun _ _ _ _ _ => (pv 5))) rfl)
      (pss_cons (ps_fld (pv 0) (pe_cD dR hr (by rfl) (pa_cons (pv 2) (pa_cons (pe_callB call_len_seq (by rfl) ml PySem.boot_len (pa_cons (pv 3) pa_nil)) pa_nil))) rfl)
      (pss_cons (ps_fld (pv 0) (pe_dcG (own := [("number", 7), ("standing", 8)]) (g := gTup K 2 (gCons (gName 7) (gCons (gName 8) gNil))) (tt := tYes) (o0 := .dT []) (.inr rfl) (hu_of1 hr) rfl kcFi.nd (pi_enum (by rfl) mE (pa_cons (pe_fldK (K := K) rfl (pv 0) rfl) pa_nil)) (blkOk_by (N := ["self", "pace", "notes", "voices", "voice", "place", "name", "number", "standing"]) (sc := defScope C_Choir_fill) (by decide +kernel)) (fun _ _ _ _ _ => (pg_tup rfl (pgs_cons (pg_name (i := 7) kcFi.nd rfl (.inl rfl) (.inr rfl)) (pgs_cons (pg_name (i := 8) kcFi.nd rfl (.inl rfl) (.inr rfl)) pgs_nil)))) (fun _ _ _ _ _ => pts_nil) (fun _ _ _ _ _ => (pv 8)) (fun _ _ _ _ _ => (pv 7))) rfl)
      (pss_cons (ps_fld (pv 0) (pe_dcG (own := [("standing", 8)]) (g := gName 8) (tt := tYes) (o0 := .dT []) (.inr rfl) (hu_of1 hr) rfl kcFi.nd (pi_list (pe_fldK (K := K) rfl (pv 0) rfl)) (blkOk_by (N := ["self", "pace", "notes", "voices", "voice", "place", "name", "number", "standing"]) (sc := defScope C_Choir_fill) (by decide +kernel)) (fun _ _ _ _ _ => (pg_name (i := 8) kcFi.nd rfl (.inl rfl))) (fun _ _ _ _ _ => pts_nil) (fun _ _ _ _ _ => (pv 8)) (fun _ _ _ _ _ => (pe_mD (C := C) (m := "_ways_of") (k := 2) (ps := ["self", "standing"]) (sp := spWaysOf K C) (pv 0) cl dW hr (pa_cons (pv 8) pa_nil)))) rfl)
      (pss_cons (ps_fld (pv 0) (pe_tupleOf (by rfl) mT (pe_lc (own := [("standing", 8)]) (g := gName 8) (tt := tYes) rfl kcFi.nd (pi_list (pe_fldK (K := K) rfl (pv 0) rfl)) (blkOk_by (N := ["self", "pace", "notes", "voices", "voice", "place", "name", "number", "standing"]) (sc := defScope C_Choir_fill) (by decide +kernel)) (fun _ _ _ _ _ => (pg_name (i := 8) kcFi.nd rfl (.inl rfl))) (fun _ _ _ _ _ => pts_nil) (fun _ _ _ _ _ => (pe_mD (C := C) (m := "_numbered") (k := 1) (ps := ["self", "ways"]) (sp := spNumbered K C) (pv 0) cl dN hr (pa_cons (pe_dget (hu_of hr) (pe_fldK (K := K) rfl (pv 0) rfl) (pv 8) (fun _ _ => rfl)) pa_nil))))) rfl)
      (pss_cons (ps_fld (pv 0) pe_dnewK rfl)
      (pss_one (ps_fld (pv 0) pe_dnewK rfl)))))))))))), ?_⟩
    obtain ⟨a, xs, rfl, hl, hda⟩ := dp_lst_inv hd
    have hxl := dpAll_len hda
    rw [List.length_map, hp.length_eq] at hxl
    have v6 := ok.v6
    refine ⟨_, rfl, _, rfl, x, C, dx, fs0, rfl, hx, cl, n1, by omega, ?_⟩
    have e1 := lk_none (f := "_pace") (v := .int (pa.pace : Int)) ms (by decide +kernel)
    have p1 : (putF "_pace" (.int (pa.pace : Int)) fs0).lookup ("_pace" : Str) = some (.int (pa.pace : Int)) := lk_put
    have z1 := putF_len "_pace" (.int (pa.pace : Int)) fs0
    generalize putF (Str.ofString "_pace") (V.int (pa.pace : Int)) fs0 = fs1 at *
    have hx1 : (upd H x (.ins C dx fs1)) x = some (.ins C dx fs1) := upd_same
    have k1 : Kx x H (upd H x (.ins C dx fs1)) := .upd
    generalize upd H x (.ins C dx fs1) = H1 at *
    refine ⟨_, rfl, _, rfl, x, C, dx, fs1, rfl, hx1, cl, n2, (by omega), ?_⟩
    have e2 := lk_none (f := "_notes") (v := .int (pa.notes : Int)) e1 (by decide +kernel)
    have p2 : (putF "_notes" (.int (pa.notes : Int)) fs1).lookup ("_pace" : Str) = some (.int (pa.pace : Int)) := (lk_skip (by decide +kernel)).trans p1
    have q2 : (putF "_notes" (.int (pa.notes : Int)) fs1).lookup ("_notes" : Str) = some (.int (pa.notes : Int)) := lk_put
    have z2 := putF_len "_notes" (.int (pa.notes : Int)) fs1
    generalize putF (Str.ofString "_notes") (V.int (pa.notes : Int)) fs1 = fs2 at *
    have hx2 : (upd H1 x (.ins C dx fs2)) x = some (.ins C dx fs2) := upd_same
    have k2 : Kx x H (upd H1 x (.ins C dx fs2)) := k1.trans .upd
    generalize upd H1 x (.ins C dx fs2) = H2 at *
    have g2 := k2.sub g gx
    have hso := voices_sorted ok hp
    refine ⟨_, rfl, G, a, xs, vs', rfl, g2, g2.seq hl, hda, PySem.W.AllAlike.of alike_voice, .tuples (fun b => ⟨_, _, rfl⟩), fun b _ => depth_voice b, fun p ys np hys => ?_⟩
    rw [hso] at hys
    have npx : p ≠ x := fun z => by rw [z, hx2] at np; cases np
    have hnp : H p = none := k2.free (by rw [hx2]; exact nofun) np
    refine ⟨_, rfl, x, C, dx, fs2, rfl, (by rw [upd_ne (Ne.symm npx)]; exact hx2), cl, n3, (by omega), ?_⟩
    have e3 := lk_none (f := "_voices") (v := .ref p) e2 (by decide +kernel)
    have p3 : (putF "_voices" (.ref p) fs2).lookup ("_pace" : Str) = some (.int (pa.pace : Int)) := (lk_skip (by decide +kernel)).trans p2
    have q3 : (putF "_voices" (.ref p) fs2).lookup ("_notes" : Str) = some (.int (pa.notes : Int)) := (lk_skip (by decide +kernel)).trans q2
    have v3 : (putF "_voices" (.ref p) fs2).lookup ("_voices" : Str) = some (.ref p) := lk_put
    have z3 := putF_len "_voices" (.ref p) fs2
    generalize putF (Str.ofString "_voices") (V.ref p) fs2 = fs3 at *
    have hx3 : (upd (upd H2 p (.lst ys)) x (.ins C dx fs3)) x = some (.ins C dx fs3) := upd_same
    have k3 : Kx x H (upd (upd H2 p (.lst ys)) x (.ins C dx fs3)) := (k2.trans (.same (same_upd np))).trans .upd
    have hv3 : (upd (upd H2 p (.lst ys)) x (.ins C dx fs3)) p = some (.lst ys) := by rw [upd_ne npx, upd_same]
    generalize upd (upd H2 p (.lst ys)) x (.ins C dx fs3) = H3 at *
    have g3 := k3.sub g gx
    have hyl := dpAll_len hys
    rw [List.length_map] at hyl
    refine ⟨_, rfl, x, C, dx, fs3, _, rfl, hx3, cl, n3, v3, p, rfl, ⟨ys, .of hv3⟩, fun D nD => ?_⟩
    have nDx : D ≠ x := fun z => by rw [z, hx3] at nD; cases nD
    have hnD : H D = none := k3.free (by rw [hx3]; exact nofun) nD
    refine lc_it (walk_list (K := K) (a := p) (xs := ys)) (fun j H' => Same H3 H' ∧ H' D = some (.lst ((pa.names.take j).map V.str))) ⟨same_upd nD, upd_same⟩ (fun j H' _ ⟨s, _⟩ => .of (s _ _ hv3)) ?_ ?_
    · rintro j y H4 H5 hj ⟨s4, hD⟩ ⟨rfl, hy⟩
      obtain ⟨d, hd1, hd2⟩ := dpAll_get' hys hy
      obtain ⟨c, hc, rfl⟩ : ∃ c, pa.voices[j]? = some c ∧ d = voiceD c := by
        rw [List.getElem?_map] at hd1
        cases e : pa.voices[j]? with
        | none => rw [e] at hd1; cases hd1
        | some c => rw [e] at hd1; exact ⟨c, rfl, (Option.some.inj hd1).symm⟩
      obtain ⟨b, x1, x2, rfl, hb, _, _⟩ := voice_inv hd2
      refine ⟨rfl, _, rfl, b, _, 0, _, rfl, rfl, sqT_same (g3.trans s4) hb, rfl, _, hD, ?_, same_put s4 nD, ?_⟩
      · rw [List.length_map, List.length_take]
        exact small1000 (by omega)
      · rw [upd_same]
        unfold Parts.names
        rw [map_take1 (f := V.str) (c := c.name) (by rw [List.getElem?_map, hc]; rfl)]
    rintro H4 ⟨s4, hD⟩
    have hnl : pa.names.length = pa.voices.length := List.length_map ..
    rw [hyl, ← hnl, List.take_length] at hD
    have hx4 := s4 _ _ hx3
    refine ⟨_, rfl, x, C, dx, fs3, rfl, hx4, cl, n4, (by omega), ?_⟩
    have e4 := lk_none (f := "_names") (v := .ref D) e3 (by decide +kernel)
    have p4 : (putF "_names" (.ref D) fs3).lookup ("_pace" : Str) = some (.int (pa.pace : Int)) := (lk_skip (by decide +kernel)).trans p3
    have q4 : (putF "_names" (.ref D) fs3).lookup ("_notes" : Str) = some (.int (pa.notes : Int)) := (lk_skip (by decide +kernel)).trans q3
    have v4 : (putF "_names" (.ref D) fs3).lookup ("_voices" : Str) = some (.ref p) := (lk_skip (by decide +kernel)).trans v3
    have m4 : (putF "_names" (.ref D) fs3).lookup ("_names" : Str) = some (.ref D) := lk_put
    have z4 := putF_len "_names" (.ref D) fs3
    generalize putF (Str.ofString "_names") (V.ref D) fs3 = fs4 at *
    have hx5 : (upd H4 x (.ins C dx fs4)) x = some (.ins C dx fs4) := upd_same
    have k5 : Kx x H3 (upd H4 x (.ins C dx fs4)) := (Kx.same s4).trans .upd
    have hD5 : (upd H4 x (.ins C dx fs4)) D = some (.lst (pa.names.map V.str)) := by rw [upd_ne nDx]; exact hD
    have hv5 : (upd H4 x (.ins C dx fs4)) p = some (.lst ys) := by rw [upd_ne npx]; exact s4 _ _ hv3
    generalize upd H4 x (.ins C dx fs4) = H5 at *
    have k05 := k3.trans k5
    refine ⟨_, rfl, x, C, dx, fs4, _, rfl, hx5, cl, n4, m4, D, _, rfl, .of hD5, fun D2 nD2 => ?_⟩
    have nD2x : D2 ≠ x := fun z => by rw [z, hx5] at nD2; cases nD2
    have hnD2 : H D2 = none := k05.free (by rw [hx5]; exact nofun) nD2
    refine it_walk (walk_enum (K := K) (a := D) (xs := pa.names.map V.str)) (fun j H' => Same H5 H' ∧ ∃ kvs, H' D2 = some (.dK kvs) ∧ kvs.length ≤ j ∧ ∀ (i : Nat) (z : Str), i < j → pa.names[i]? = some z → valV kvs (.inr z) = some (.int (i : Int))) ?_ (fun j H' _ ⟨s, _⟩ => .of (s _ _ hD5)) ?_ ?_
    · exact ⟨same_upd nD2, [], upd_same, Nat.zero_le _, fun i z hi => absurd hi (Nat.not_lt_zero i)⟩
    · rintro j v H6 H7 hj ⟨s6, kvs, hD2, hkl, hkv⟩ ⟨T, x1, y1, rfl, nT, rfl, hx1', hy1⟩
      obtain rfl := (Option.some.inj hx1').symm
      obtain ⟨z, hz, rfl⟩ : ∃ z, pa.names[j]? = some z ∧ y1 = .str z := by
        have hy2 : (pa.names.map V.str)[j]? = some y1 := hy1
        rw [List.getElem?_map] at hy2
        cases e : pa.names[j]? with
        | none => rw [e] at hy2; cases hy2
        | some z => rw [e] at hy2; exact ⟨z, rfl, (Option.some.inj hy2).symm⟩
      have hjl : j < pa.names.length := (List.getElem?_eq_some_iff.mp hz).1
      have hD2' : (upd H6 T (.tup [.int (j : Nat), .str z])) D2 = some (.dK kvs) := by rw [upd_ne (ne_of_none hD2 nT)]; exact hD2
      refine ⟨T, _, rfl, .of upd_same, rfl, _, _, rfl, _, _, rfl, rfl, rfl, _, rfl, _, rfl, kvs, .inr z, rfl, hD2', small1000 (by omega), same_put (same_put s6 (s6.free nT)) nD2, _, upd_same, Nat.le_trans (length_putK _ _ _) (by omega), fun i z' hi hz' => ?_⟩
      rw [valV_put]
      by_cases c : (Sum.inr z' : Key) = Sum.inr z
      · rw [if_pos c]
        obtain rfl := Sum.inr.inj c
        have : i = j := by
          have hil : i < pa.names.length := (List.getElem?_eq_some_iff.mp hz').1
          exact (List.getElem?_inj hil ok.nodup).mp (hz'.trans hz.symm)
        rw [this]
      · rw [if_neg c]
        refine hkv i z' ?_ hz'
        rcases Nat.lt_succ_iff_lt_or_eq.mp hi with q | rfl
        · exact q
        · rw [hz] at hz'
          exact absurd (congrArg Sum.inr (Option.some.inj hz').symm) c
    rintro H6 ⟨s6, kvs, hD2, _, hkv⟩
    have hpo : PlacesOk kvs pa.names := fun i z hz => hkv i z (by rw [List.length_map]; exact (List.getElem?_eq_some_iff.mp hz).1) hz
    have hx6 := s6 _ _ hx5
    refine ⟨_, rfl, x, C, dx, fs4, rfl, hx6, cl, n5, (by omega), ?_⟩
    have e5 := lk_none (f := "_places") (v := .ref D2) e4 (by decide +kernel)
    have p5 : (putF "_places" (.ref D2) fs4).lookup ("_pace" : Str) = some (.int (pa.pace : Int)) := (lk_skip (by decide +kernel)).trans p4
    have q5 : (putF "_places" (.ref D2) fs4).lookup ("_notes" : Str) = some (.int (pa.notes : Int)) := (lk_skip (by decide +kernel)).trans q4
    have v5 : (putF "_places" (.ref D2) fs4).lookup ("_voices" : Str) = some (.ref p) := (lk_skip (by decide +kernel)).trans v4
    have m5 : (putF "_places" (.ref D2) fs4).lookup ("_names" : Str) = some (.ref D) := (lk_skip (by decide +kernel)).trans m4
    have r5 : (putF "_places" (.ref D2) fs4).lookup ("_places" : Str) = some (.ref D2) := lk_put
    have z5 := putF_len "_places" (.ref D2) fs4
    generalize putF (Str.ofString "_places") (V.ref D2) fs4 = fs5 at *
    have hx7 : (upd H6 x (.ins C dx fs5)) x = some (.ins C dx fs5) := upd_same
    have k7 : Kx x H5 (upd H6 x (.ins C dx fs5)) := (Kx.same s6).trans .upd
    have hP7 : (upd H6 x (.ins C dx fs5)) D2 = some (.dK kvs) := by rw [upd_ne nD2x]; exact hD2
    have hD7 : (upd H6 x (.ins C dx fs5)) D = some (.lst (pa.names.map V.str)) := by rw [upd_ne nDx]; exact s6 _ _ hD5
    have hv7 : (upd H6 x (.ins C dx fs5)) p = some (.lst ys) := by rw [upd_ne npx]; exact s6 _ _ hv5
    generalize upd H6 x (.ins C dx fs5) = H7 at *
    have k07 := k05.trans k7
    have g7 := k07.sub g gx
    have mkcore : ∀ (H' : Hp) (fs' : List (Str × V)), Kx x H7 H' → H' x = some (.ins C dx fs') → (∀ m ∈ ("_ways_of" :: "_way" :: "_fill" :: "place" :: meths : List Str), fs'.lookup m = none) → (∀ n ∈ flds, fs'.lookup n = fs5.lookup n) → Core K C H' x pa dx fs' := fun H' fs' kx hx' hm hl => by
      have gg := (k07.trans kx).sub g gx
      exact ⟨hx', hm, (hl _ (by decide +kernel)).trans p5, (hl _ (by decide +kernel)).trans q5, ⟨p, ys, (hl _ (by decide +kernel)).trans v5, kx _ _ hv7 npx, dpAll_same gg _ _ hys⟩, ⟨D, (hl _ (by decide +kernel)).trans m5, kx _ _ hD7 nDx⟩, ⟨D2, kvs, (hl _ (by decide +kernel)).trans r5, kx _ _ hP7 nD2x, hpo⟩⟩
    have n2' := ok.n2
    have n5' := ok.n5
    have hsz : pa.notes ^ pa.voices.length ≤ 64 := Nat.le_trans ok.size hlim
    refine ⟨_, rfl, _, rfl, a, xs, rfl, .inl (g7.seq hl), pa.notes, pa.voices.length, (by rw [hxl]; rfl), by omega, n5', v6, hsz, fun q H8 rs s8 nq hq htr => ?_⟩
    have hx8 := s8 _ _ hx7
    have nqx : q ≠ x := fun z => by rw [z, hx7] at nq; cases nq
    have hnq : H q = none := k07.free (by rw [hx7]; exact nofun) nq
    have hrl : rs.length = (rowsL pa.notes pa.voices.length).length := htr.1
    have hrl64 : rs.length ≤ 64 := by rw [hrl, rows_len]; exact hsz
    -- the standings
    refine ⟨_, rfl, x, C, dx, fs5, rfl, hx8, cl, n7, (by omega), ?_⟩
    have e6 := lk_none (f := "_standings") (v := .ref q) e5 (by decide +kernel)
    have z6 := putF_len "_standings" (.ref q) fs5
    have l6 := lk_flds (f := "_standings") (v := .ref q) (fs := fs5) (by decide +kernel)
    have t6 : (putF "_standings" (.ref q) fs5).lookup ("_standings" : Str) = some (.ref q) := lk_put
    generalize putF (Str.ofString "_standings") (V.ref q) fs5 = fs6 at *
    have hx9 : (upd H8 x (.ins C dx fs6)) x = some (.ins C dx fs6) := upd_same
    have k9 : Kx x H7 (upd H8 x (.ins C dx fs6)) := (Kx.same s8).trans .upd
    have k89 : Kx x H8 (upd H8 x (.ins C dx fs6)) := .upd
    generalize upd H8 x (.ins C dx fs6) = H9 at *
    have hq9 : H9 q = some (.lst rs) := k89 _ _ hq nqx
    have htr9 : ∀ (k : Nat) (y : V), rs[k]? = some y → ∃ t ta, (rowsL pa.notes pa.voices.length)[k]? = some t ∧ y = .ref ta ∧ H9 ta = some (.tup (nVs t)) ∧ H ta = none := fun k y e => by
      obtain ⟨t, ht, ta, e2, hta⟩ := htr.2 k y e
      have nb := fresh_none hta
      rw [fresh_at nb] at hta
      exact ⟨t, ta, ht, e2, k89 _ _ hta (fun z => by rw [z, hx8] at hta; cases hta), k07.free (by rw [hx7]; exact nofun) nb⟩
    clear htr
    -- the numbers
    refine ⟨_, rfl, x, C, dx, fs6, _, rfl, hx9, cl, n7, t6, q, rs, rfl, .of hq9, fun D4 nD4 => ?_⟩
    have nD4x : D4 ≠ x := fun z => by rw [z, hx9] at nD4; cases nD4
    refine it_walk (walk_enum (K := K) (a := q) (xs := rs)) (fun j H' => Same H9 H' ∧ ∃ ns, H' D4 = some (.dT ns) ∧ ns.length ≤ j ∧ ∀ (k : Nat) (st : List Nat), k < j → (rowsL pa.notes pa.voices.length)[k]? = some st → valV ns (keyT st) = some (.int (k : Int))) ?_ (fun j H' _ ⟨s, _⟩ => .of (s _ _ hq9)) ?_ ?_
    · exact ⟨same_upd nD4, [], upd_same, Nat.zero_le _, fun k st hk => absurd hk (Nat.not_lt_zero k)⟩
    · rintro j v H10 H11 hj ⟨s10, ns, hD4, hnl, hns⟩ ⟨T, x1, y1, rfl, nT, rfl, hx1', hy1⟩
      obtain rfl := (Option.some.inj hx1').symm
      obtain ⟨t, ta, ht, rfl, hta, _⟩ := htr9 j y1 hy1
      have hta10 : H10 ta = some (.tup (nVs t)) := s10 _ _ hta
      have hD4' : (upd H10 T (.tup [.int (j : Nat), .ref ta])) D4 = some (.dT ns) := by rw [upd_ne (ne_of_none hD4 nT)]; exact hD4
      have hta' : (upd H10 T (.tup [.int (j : Nat), .ref ta])) ta = some (.tup (nVs t)) := by rw [upd_ne (ne_of_none hta10 nT)]; exact hta10
      have hj2 : j < rs.length := hj
      refine ⟨T, _, rfl, .of upd_same, rfl, _, _, rfl, _, _, rfl, rfl, rfl, _, rfl, _, rfl, _, DPut.t (k := keyT t) hD4' (by rw [keyT_v]; exact hta') (small1000 (by omega)), same_put (same_put s10 (s10.free nT)) nD4, _, upd_same, Nat.le_trans (length_putK _ _ _) (by omega), fun k st hk hst => ?_⟩
      rw [valV_put]
      by_cases c : keyT st = keyT t
      · rw [if_pos c]
        obtain rfl := keyT_inj c
        have : k = j := (List.getElem?_inj (List.getElem?_eq_some_iff.mp hst).1 (rows_nodup _ _)).mp (hst.trans ht.symm)
        rw [this]
      · rw [if_neg c]
        refine hns k st ?_ hst
        rcases Nat.lt_succ_iff_lt_or_eq.mp hk with q | rfl
        · exact q
        · rw [ht] at hst
          exact absurd (congrArg keyT (Option.some.inj hst).symm) c
    rintro H10 ⟨s10, ns, hD4, _, hns⟩
    have hns : ∀ st, StOk pa st → valV ns (keyT st) = some (.int (numP pa st : Int)) := fun st hst => hns _ st (by show numP pa st < rs.length; rw [hrl]; exact numP_lt hst) (numP_at hst)
    have hnD4 : H D4 = none := (k07.trans k9).free (by rw [hx9]; exact nofun) nD4
    have hx10 := s10 _ _ hx9
    refine ⟨_, rfl, x, C, dx, fs6, rfl, hx10, cl, n8, (by omega), ?_⟩
    have e7 := lk_none (f := "_numbers") (v := .ref D4) e6 (by decide +kernel)
    have z7 := putF_len "_numbers" (.ref D4) fs6
    have l7 := fun n hn => (lk_flds (f := "_numbers") (v := .ref D4) (fs := fs6) (by decide +kernel) n hn).trans (l6 n hn)
    have t7 : (putF "_numbers" (.ref D4) fs6).lookup ("_standings" : Str) = some (.ref q) := (lk_skip (by decide +kernel)).trans t6
    have u7 : (putF "_numbers" (.ref D4) fs6).lookup ("_numbers" : Str) = some (.ref D4) := lk_put
    generalize putF (Str.ofString "_numbers") (V.ref D4) fs6 = fs7 at *
    have hx11 : (upd H10 x (.ins C dx fs7)) x = some (.ins C dx fs7) := upd_same
    have k11 : Kx x H9 (upd H10 x (.ins C dx fs7)) := (Kx.same s10).trans .upd
    have hN11 : (upd H10 x (.ins C dx fs7)) D4 = some (.dT ns) := by rw [upd_ne nD4x]; exact hD4
    generalize upd H10 x (.ins C dx fs7) = H11 at *
    have hq11 : H11 q = some (.lst rs) := k11 _ _ hq9 nqx
    have k711 := k9.trans k11
    have k011 := k07.trans k711
    have core := mkcore H11 fs7 k711 hx11 e7 l7
    have htr11 : ∀ (k : Nat) (y : V), rs[k]? = some y → ∃ t ta, (rowsL pa.notes pa.voices.length)[k]? = some t ∧ y = .ref ta ∧ H11 ta = some (.tup (nVs t)) ∧ H ta = none := fun k y e => by
      obtain ⟨t, ta, ht, e2, hta, hna⟩ := htr9 k y e
      exact ⟨t, ta, ht, e2, k11 _ _ hta (fun z => by rw [z, hx9] at hta; cases hta), hna⟩
    clear htr9
    -- the ways
    refine ⟨_, rfl, x, C, dx, fs7, _, rfl, hx11, cl, n7, t7, q, rfl, ⟨rs, .of hq11⟩, fun D3 nD3 => ?_⟩
    have nD3x : D3 ≠ x := fun z => by rw [z, hx11] at nD3; cases nD3
    have hnD3 : H D3 = none := k011.free (by rw [hx11]; exact nofun) nD3
    refine it_walk (walk_list (K := K) (a := q) (xs := rs)) (fun j H' => Same H11 H' ∧ ∃ ws, H' D3 = some (.dT ws) ∧ ws.length ≤ j ∧ ∀ st ∈ (rowsL pa.notes pa.voices.length).take j, ∃ v, valV ws (keyT st) = some v ∧ WaysAt (fresh H H') pa st v) ?_ (fun j H' _ ⟨s, _⟩ => .of (s _ _ hq11)) ?_ ?_
    · exact ⟨same_upd nD3, [], upd_same, Nat.zero_le _, fun st hst => by rw [List.take_zero] at hst; cases hst⟩
    · rintro j y H9' H10' hj ⟨s9, ws, hD3, hwl, hws⟩ ⟨rfl, hy⟩
      obtain ⟨t, ta, ht, rfl, hta, _⟩ := htr11 j y hy
      obtain ⟨htl, htn⟩ := rows_mem.mp (List.mem_of_getElem? ht)
      have hx10' := s9 _ _ hx11
      have k010 := k011.trans (.same s9)
      have hta10 := s9 _ _ hta
      have hj2 : j < rs.length := hj
      refine ⟨rfl, _, rfl, _, rfl, x, dx, fs7, rfl, hx10', e7 _ (by decide +kernel), _, rfl, ?_⟩
      refine ⟨H10', x, .ref ta, pa, dx, fs7, t, lim, rfl, .refl _, core.same s9, ⟨ta, rfl, hta10⟩, ok, hlim, ⟨htl, htn⟩, fun v H12 s12 hw => ?_⟩
      have hD12 := s12 _ _ hD3
      refine ⟨_, DPut.t (k := keyT t) hD12 (by rw [keyT_v]; exact s12 _ _ hta10) (small1000 (by omega)), same_put (s9.trans s12) nD3, _, upd_same, Nat.le_trans (length_putK _ _ _) (by omega), fun st hst => ?_⟩
      have tups : ∀ b ts, (fresh H H12) b = some (.tup ts) → (fresh H (upd H12 D3 (.dT (putK ws (keyT t) v)))) b = some (.tup ts) := fun b ts e => by
        have nb := fresh_none e
        rw [fresh_at nb] at e ⊢
        rw [upd_ne (fun z => by rw [z, hD12] at e; cases e)]
        exact e
      rw [valV_put]
      by_cases c : keyT st = keyT t
      · rw [if_pos c]
        obtain rfl := keyT_inj c
        refine ⟨v, rfl, (hw.tups fun b ts e => ?_).tups tups⟩
        have nb := fresh_none e
        rw [fresh_at nb] at e
        rw [fresh_at (k010.free (by rw [hx10']; exact nofun) nb)]
        exact e
      · rw [if_neg c]
        have hst' : st ∈ (rowsL pa.notes pa.voices.length).take j := by
          rw [List.take_add_one, ht] at hst
          rcases List.mem_append.mp hst with h | h
          · exact h
          · exact absurd (congrArg keyT (List.mem_singleton.mp h)) c
        obtain ⟨v', h1, h2⟩ := hws st hst'
        refine ⟨v', h1, (h2.tups fun b ts e => ?_).tups tups⟩
        have nb := fresh_none e
        rw [fresh_at nb] at e ⊢
        exact s12 _ _ e
    rintro H12 ⟨s12, ws, hD3, _, hws⟩
    rw [hrl, List.take_length] at hws
    have hx12 := s12 _ _ hx11
    refine ⟨_, rfl, x, C, dx, fs7, rfl, hx12, cl, n6, (by omega), ?_⟩
    have e8 := lk_none (f := "_ways") (v := .ref D3) e7 (by decide +kernel)
    have z8 := putF_len "_ways" (.ref D3) fs7
    have l8 := fun n hn => (lk_flds (f := "_ways") (v := .ref D3) (fs := fs7) (by decide +kernel) n hn).trans (l7 n hn)
    have t8 : (putF "_ways" (.ref D3) fs7).lookup ("_standings" : Str) = some (.ref q) := (lk_skip (by decide +kernel)).trans t7
    have u8 : (putF "_ways" (.ref D3) fs7).lookup ("_numbers" : Str) = some (.ref D4) := (lk_skip (by decide +kernel)).trans u7
    have w8 : (putF "_ways" (.ref D3) fs7).lookup ("_ways" : Str) = some (.ref D3) := lk_put
    generalize putF (Str.ofString "_ways") (V.ref D3) fs7 = fs8 at *
    have hx13 : (upd H12 x (.ins C dx fs8)) x = some (.ins C dx fs8) := upd_same
    have k13 : Kx x H11 (upd H12 x (.ins C dx fs8)) := (Kx.same s12).trans .upd
    have hW13 : (upd H12 x (.ins C dx fs8)) D3 = some (.dT ws) := by rw [upd_ne nD3x]; exact hD3
    have hws13 : ∀ st ∈ rowsL pa.notes pa.voices.length, ∃ v, valV ws (keyT st) = some v ∧ WaysAt (fresh H (upd H12 x (.ins C dx fs8))) pa st v := fun st hst => by
      obtain ⟨v, h1, h2⟩ := hws st hst
      refine ⟨v, h1, h2.tups fun b ts e => ?_⟩
      have nb := fresh_none e
      rw [fresh_at nb] at e ⊢
      rw [upd_ne (fun z => by rw [z, hx12] at e; cases e)]
      exact e
    clear hws
    generalize upd H12 x (.ins C dx fs8) = H13 at *
    have hq13 : H13 q = some (.lst rs) := k13 _ _ hq11 nqx
    have hN13 : H13 D4 = some (.dT ns) := k13 _ _ hN11 nD4x
    have k713 := k711.trans k13
    have k013 := k07.trans k713
    have htr13 : ∀ (k : Nat) (y : V), rs[k]? = some y → ∃ t ta, (rowsL pa.notes pa.voices.length)[k]? = some t ∧ y = .ref ta ∧ H13 ta = some (.tup (nVs t)) ∧ H ta = none := fun k y e => by
      obtain ⟨t, ta, ht, e2, hta, hna⟩ := htr11 k y e
      exact ⟨t, ta, ht, e2, k13 _ _ hta (fun z => by rw [z, hx11] at hta; cases hta), hna⟩
    clear htr11
    -- the steps
    refine ⟨_, rfl, x, C, dx, fs8, _, rfl, hx13, cl, n7, t8, q, rfl, ⟨rs, .of hq13⟩, fun D5 nD5 => ?_⟩
    refine lc_it (walk_list (K := K) (a := q) (xs := rs)) (fun j H' => Same H13 H' ∧ ∃ ss, H' D5 = some (.lst ss) ∧ ss.length = j ∧ ∀ (k : Nat) (st : List Nat), k < j → (rowsL pa.notes pa.voices.length)[k]? = some st → ∃ b, ss[k]? = some (.ref b) ∧ H b = none ∧ H' b = some (.tup (nVs (stepsP pa st)))) ⟨same_upd nD5, [], upd_same, rfl, fun k st hk => absurd hk (Nat.not_lt_zero k)⟩ (fun j H' _ ⟨s, _⟩ => .of (s _ _ hq13)) ?_ ?_
    · rintro j y H14' H14 hj ⟨s14, ss, hD5, hsl, hss⟩ ⟨rfl, hy⟩
      obtain ⟨t, ta, ht, rfl, hta, _⟩ := htr13 j y hy
      have htm : t ∈ rowsL pa.notes pa.voices.length := List.mem_of_getElem? ht
      obtain ⟨htl, htn⟩ := rows_mem.mp htm
      obtain ⟨v, h1, wa, ts, rfl, hwa, htsl, hts⟩ := hws13 t htm
      have hj2 : j < rs.length := hj
      have hwa13 : H13 wa = some (.tup ts) := by
        have nb := fresh_none hwa
        rw [fresh_at nb] at hwa
        exact hwa
      have hdg : DGet H14 D3 (.ref ta) (some (.ref wa)) := by
        rw [← h1]
        exact DGet.t (k := keyT t) (s14 _ _ hW13) (by rw [keyT_v]; exact s14 _ _ hta)
      refine ⟨rfl, _, rfl, x, dx, fs8, rfl, s14 _ _ hx13, e8 _ (by decide +kernel), _, rfl, x, C, dx, fs8, _, rfl, s14 _ _ hx13, cl, n6, w8, _, rfl, D3, _, rfl, hdg, ?_⟩
      refine ⟨x, wa, dx, fs8, ts, D4, ns, stepsP pa t, rfl, s14 _ _ hx13, u8, s14 _ _ hN13, s14 _ _ hwa13, by have := ok.p4; omega, by unfold stepsP; rw [List.length_map, List.length_range]; exact htsl, fun r y hy => ?_, fun u H15 s15 nu hu => ?_⟩
      · have hr1 : r < pa.pace := by rw [← htsl]; exact (List.getElem?_eq_some_iff.mp hy).1
        obtain ⟨y', hy', b, rfl, hb⟩ := hts r hr1
        rw [hy'] at hy
        cases hy
        have hst := led_ok (r := r) ok ⟨htl, htn⟩ hr1
        exact ⟨b, ledL pa t r, numP pa (ledL pa t r), rfl, s14 _ _ (by
          have nb := fresh_none hb
          rw [fresh_at nb] at hb
          exact hb), by unfold stepsP; rw [List.getElem?_map, List.getElem?_range hr1]; rfl, hns _ hst⟩
      · refine ⟨ss, s15 _ _ hD5, small1000 (by omega), same_put (s14.trans s15) nD5, _, upd_same, by rw [List.length_append, hsl]; rfl, fun k st hk hst => ?_⟩
        have hD15 := s15 _ _ hD5
        rcases Nat.lt_succ_iff_lt_or_eq.mp hk with c | rfl
        · obtain ⟨b, b1, b2, b3⟩ := hss k st c hst
          exact ⟨b, by rw [List.getElem?_append_left (by omega)]; exact b1, b2, by rw [upd_ne (fun z => by rw [z, hD5] at b3; cases b3)]; exact s15 _ _ b3⟩
        · rw [ht] at hst
          cases hst
          exact ⟨u, by rw [← hsl, List.getElem?_concat_length], (k013.trans (.same s14)).free (by rw [s14 _ _ hx13]; exact nofun) nu, by rw [upd_ne (fun z => by rw [z, hD15] at hu; cases hu)]; exact hu⟩
    rintro H14 ⟨s14, ss, hD5, hsl, hss⟩
    refine .inl ⟨D5, _, rfl, .of hD5, fun u nu => ?_⟩
    have hnu : H u = none := (k013.trans (.same s14)).free (by rw [s14 _ _ hx13]; exact nofun) nu
    have hu15 : (upd H14 u (.tup ss)) u = some (.tup ss) := upd_same
    have hss15 : ∀ (k : Nat) (st : List Nat), (rowsL pa.notes pa.voices.length)[k]? = some st → ∃ b, ss[k]? = some (.ref b) ∧ H b = none ∧ (upd H14 u (.tup ss)) b = some (.tup (nVs (stepsP pa st))) := fun k st hst => by
      obtain ⟨b, b1, b2, b3⟩ := hss k st (by show k < rs.length; rw [hrl]; exact (List.getElem?_eq_some_iff.mp hst).1) hst
      exact ⟨b, b1, b2, (same_upd nu) _ _ b3⟩
    clear hss
    have hx14 : (upd H14 u (.tup ss)) x = some (.ins C dx fs8) := (same_upd nu) _ _ (s14 _ _ hx13)
    have k14 : Kx x H13 (upd H14 u (.tup ss)) := .same (s14.trans (same_upd nu))
    generalize upd H14 u (.tup ss) = H15 at *
    have hx15 := hx14
    refine ⟨_, rfl, x, C, dx, fs8, rfl, hx14, cl, n9, (by omega), ?_⟩
    have e9 := lk_none (f := "_steps") (v := .ref u) e8 (by decide +kernel)
    have z9 := putF_len "_steps" (.ref u) fs8
    have l9 := fun n hn => (lk_flds (f := "_steps") (v := .ref u) (fs := fs8) (by decide +kernel) n hn).trans (l8 n hn)
    have t9 : (putF "_steps" (.ref u) fs8).lookup ("_standings" : Str) = some (.ref q) := (lk_skip (by decide +kernel)).trans t8
    have u9 : (putF "_steps" (.ref u) fs8).lookup ("_numbers" : Str) = some (.ref D4) := (lk_skip (by decide +kernel)).trans u8
    have y9 : (putF "_steps" (.ref u) fs8).lookup ("_steps" : Str) = some (.ref u) := lk_put
    have w9 : (putF "_steps" (.ref u) fs8).lookup ("_ways" : Str) = some (.ref D3) := (lk_skip (by decide +kernel)).trans w8
    generalize putF (Str.ofString "_steps") (V.ref u) fs8 = fs9 at *
    have hx16 : (upd H15 x (.ins C dx fs9)) x = some (.ins C dx fs9) := upd_same
    have k16 : Kx x H13 (upd H15 x (.ins C dx fs9)) := k14.trans .upd
    have j16 : Kx x H15 (upd H15 x (.ins C dx fs9)) := .upd
    generalize upd H15 x (.ins C dx fs9) = H16 at *
    -- what is kept of hits and waits
    refine fun d1 nd1 => ?_
    have hx17 : (upd H16 d1 (.dK [])) x = some (.ins C dx fs9) := (same_upd nd1) _ _ hx16
    have nd1x : d1 ≠ x := fun z => by rw [z, hx16] at nd1; cases nd1
    have hnd1 : H d1 = none := (k013.trans k16).free (by rw [hx16]; exact nofun) nd1
    have j17 : Kx x H15 (upd H16 d1 (.dK [])) := j16.trans (.same (same_upd nd1))
    have hd17 : (upd H16 d1 (.dK [])) d1 = some (.dK []) := upd_same
    have k17 : Kx x H13 (upd H16 d1 (.dK [])) := k16.trans (.same (same_upd nd1))
    generalize upd H16 d1 (.dK []) = H17 at *
    refine ⟨_, rfl, x, C, dx, fs9, rfl, hx17, cl, n10, (by omega), ?_⟩
    have e10 := lk_none (f := "_reached") (v := .ref d1) e9 (by decide +kernel)
    have z10 := putF_len "_reached" (.ref d1) fs9
    have l10 := fun n hn => (lk_flds (f := "_reached") (v := .ref d1) (fs := fs9) (by decide +kernel) n hn).trans (l9 n hn)
    have t10 : (putF "_reached" (.ref d1) fs9).lookup ("_standings" : Str) = some (.ref q) := (lk_skip (by decide +kernel)).trans t9
    have u10 : (putF "_reached" (.ref d1) fs9).lookup ("_numbers" : Str) = some (.ref D4) := (lk_skip (by decide +kernel)).trans u9
    have y10 : (putF "_reached" (.ref d1) fs9).lookup ("_steps" : Str) = some (.ref u) := (lk_skip (by decide +kernel)).trans y9
    have c10 : (putF "_reached" (.ref d1) fs9).lookup ("_reached" : Str) = some (.ref d1) := lk_put
    have w10 : (putF "_reached" (.ref d1) fs9).lookup ("_ways" : Str) = some (.ref D3) := (lk_skip (by decide +kernel)).trans w9
    generalize putF (Str.ofString "_reached") (V.ref d1) fs9 = fs10 at *
    have hx18 : (upd H17 x (.ins C dx fs10)) x = some (.ins C dx fs10) := upd_same
    have j18 : Kx x H15 (upd H17 x (.ins C dx fs10)) := j17.trans .upd
    have hd18 : (upd H17 x (.ins C dx fs10)) d1 = some (.dK []) := by rw [upd_ne nd1x]; exact hd17
    have k18 : Kx x H13 (upd H17 x (.ins C dx fs10)) := k17.trans .upd
    generalize upd H17 x (.ins C dx fs10) = H18 at *
    refine fun d2 nd2 => ?_
    have hx19 : (upd H18 d2 (.dK [])) x = some (.ins C dx fs10) := (same_upd nd2) _ _ hx18
    have nd2x : d2 ≠ x := fun z => by rw [z, hx18] at nd2; cases nd2
    have hnd2 : H d2 = none := (k013.trans k18).free (by rw [hx18]; exact nofun) nd2
    have nd12 : d1 ≠ d2 := fun z => by rw [z, nd2] at hd18; cases hd18
    have j19 : Kx x H15 (upd H18 d2 (.dK [])) := j18.trans (.same (same_upd nd2))
    have hd19 : (upd H18 d2 (.dK [])) d1 = some (.dK []) := (same_upd nd2) _ _ hd18
    have he19 : (upd H18 d2 (.dK [])) d2 = some (.dK []) := upd_same
    have k19 : Kx x H13 (upd H18 d2 (.dK [])) := k18.trans (.same (same_upd nd2))
    generalize upd H18 d2 (.dK []) = H19 at *
    refine ⟨_, rfl, x, C, dx, fs10, rfl, hx19, cl, n11, (by omega), ?_⟩
    have e11 := lk_none (f := "_levels") (v := .ref d2) e10 (by decide +kernel)
    have z11 := putF_len "_levels" (.ref d2) fs10
    have l11 := fun n hn => (lk_flds (f := "_levels") (v := .ref d2) (fs := fs10) (by decide +kernel) n hn).trans (l10 n hn)
    have t11 : (putF "_levels" (.ref d2) fs10).lookup ("_standings" : Str) = some (.ref q) := (lk_skip (by decide +kernel)).trans t10
    have u11 : (putF "_levels" (.ref d2) fs10).lookup ("_numbers" : Str) = some (.ref D4) := (lk_skip (by decide +kernel)).trans u10
    have y11 : (putF "_levels" (.ref d2) fs10).lookup ("_steps" : Str) = some (.ref u) := (lk_skip (by decide +kernel)).trans y10
    have c11 : (putF "_levels" (.ref d2) fs10).lookup ("_reached" : Str) = some (.ref d1) := (lk_skip (by decide +kernel)).trans c10
    have b11 : (putF "_levels" (.ref d2) fs10).lookup ("_levels" : Str) = some (.ref d2) := lk_put
    have w11 : (putF "_levels" (.ref d2) fs10).lookup ("_ways" : Str) = some (.ref D3) := (lk_skip (by decide +kernel)).trans w10
    generalize putF (Str.ofString "_levels") (V.ref d2) fs10 = fs11 at *
    have hxe : (upd H19 x (.ins C dx fs11)) x = some (.ins C dx fs11) := upd_same
    have je : Kx x H15 (upd H19 x (.ins C dx fs11)) := j19.trans .upd
    have hde : (upd H19 x (.ins C dx fs11)) d1 = some (.dK []) := by rw [upd_ne nd1x]; exact hd19
    have hee : (upd H19 x (.ins C dx fs11)) d2 = some (.dK []) := by rw [upd_ne nd2x]; exact he19
    have ke13 : Kx x H13 (upd H19 x (.ins C dx fs11)) := k19.trans .upd
    generalize upd H19 x (.ins C dx fs11) = He at *
    have k7e := k713.trans ke13
    have gp : Same G (plus x dx (more G H He) He) := plus_old g gx gdx
    have hC : AtC K C (plus x dx (more G H He) He) x pa := by
      refine ⟨dx, fs11, D3, ws, ⟨by rw [plus_x]; exact hxe, e11, (l11 _ (by decide +kernel)).trans p5, (l11 _ (by decide +kernel)).trans q5, ⟨p, ys, (l11 _ (by decide +kernel)).trans v5, ?_, dpAll_same gp _ _ hys⟩, ⟨D, (l11 _ (by decide +kernel)).trans m5, ?_⟩, ⟨D2, kvs, (l11 _ (by decide +kernel)).trans r5, ?_, hpo⟩⟩, w11, ?_, fun st hst => ?_⟩
      · rw [plus_new hnp]
        exact k7e _ _ hv7 npx
      · rw [plus_new hnD]
        exact k7e _ _ hD7 nDx
      · rw [plus_new hnD2]
        exact k7e _ _ hP7 nD2x
      · rw [plus_new hnD3]
        exact ke13 _ _ hW13 nD3x
      · obtain ⟨v, h1, h2⟩ := hws13 st (rows_mem.mpr hst)
        refine ⟨v, h1, h2.tups fun b ts e => ?_⟩
        have nb := fresh_none e
        rw [fresh_at nb] at e
        rw [plus_new nb]
        exact ke13 _ _ e fun z => by rw [z, hx13] at e; cases e
    refine k He fs11 (k013.trans ke13) hxe (by omega) e11 ⟨d1, d2, ⟨hC, dx, fs11, by rw [plus_x]; exact hxe, ⟨q, rs, t11, ?_, ?_⟩, ⟨D4, ns, u11, ?_, hns⟩, ⟨u, ss, y11, ?_, ?_, ?_⟩, c11, b11⟩, ?_, ?_, nd12⟩
    · rw [plus_new hnq]
      exact ke13 _ _ hq13 nqx
    · refine ⟨hrl, fun k y e => ?_⟩
      obtain ⟨t, ta, ht, rfl, hta, hna⟩ := htr13 k y e
      exact ⟨t, ht, ta, rfl, by rw [plus_new hna]; exact ke13 _ _ hta fun z => by rw [z, hx13] at hta; cases hta⟩
    · rw [plus_new hnD4]
      exact ke13 _ _ hN13 nD4x
    · rw [plus_new hnu]
      exact je _ _ hu15 fun z => by rw [z, hx15] at hu15; cases hu15
    · exact hsl.trans hrl
    · intro k st hst
      obtain ⟨b, b1, b2, b3⟩ := hss15 k st hst
      exact ⟨b, b1, by rw [plus_new b2]; exact je _ _ b3 fun z => by rw [z, hx15] at b3; cases b3⟩
    · rw [plus_new hnd1]
      exact hde
    · rw [plus_new hnd2]
      exact hee
end
end P52

namespace P52
open PySem PySem.Spec PyProof.Rows L2 HG HF
theorem pi_enumTk {X : Cx} {K : PySem.W.Frag} {e : Expr} {ta : TA} {p pos tpos : Pos} {elts : List Expr} {kk : Nat} (hK : X.K = K) (hg : Gl X "enumerate") (hm : X.mg "enumerate" = none) (ha : PA X [e] ta) (h1 : starEach [e] X.env = [(false, eval e X.env)] := by rfl) : PI X (.Tuple elts kk tpos) (.Call (.Name "enumerate" p) [e] [] pos) (iEnumT K ta) := by
  subst hK
  exact pi_enumT hg hm ha h1
section
variable {P : Program} {w : World} {K : PySem.W.Frag} {mg : Str → Option Value} {base : Heap}
theorem kcRr : FnScope ["ways", "root", "pace", "found", "coming", "new", "place", "wait", "rest", "led"] ["ways", "root"] (defScope P_reached_reach) := ⟨rfl, rfl, rfl, by decide +kernel, rfl, by decide +kernel, by decide +kernel⟩
theorem ok_bfs {f : Addr} {fd : FuncData} {k : Nat} (F : Fun K "reached" "reached" P_reached_reach f fd) (ml : mg "len" = none) (mr : mg "range" = none) (mE : mg "enumerate" = none) (mLi : mg "list" = none) : FnOk P w K mg base CX0 (k + 1) f fd ["ways", "root"] spBfs := by
  refine F.ok kcRr (fun vs H Q E h => ?_) (fun cdv A outer s H vs Q E hr h => ?_)
  · obtain ⟨tl, pa, lim, rt, rfl, _⟩ := h
    rfl
  · obtain ⟨tl, pa, lim, rt, rfl, hst, ok, hlim, hrt, k⟩ := h
    refine ⟨_, (pss_cons (ps_set (i := 2) kcRr.nd rfl (.inr rfl) (pe_callB call_len_seq (by rfl) ml PySem.boot_len (pa_cons (pe_ix (r := rIxT K) ix_tup (pv 0) (pv 1) (fun _ _ => rfl)) pa_nil)))
      (pss_cons (ps_set (i := 3) kcRr.nd rfl (.inl rfl) pe_dnewK)
      (Evl.pss_cut (ps_setLc (i := 4) (own := [("rest", 8)]) (g := gName 8) (tt := tYes) rfl kcRr.nd rfl rfl (sw_true rfl rfl rfl (by decide +kernel)) (pi_range2 rfl mr (pa_cons pe_int (pa_cons (pv 2) pa_nil))) (blkOk_by (N := ["ways", "root", "pace", "found", "coming", "new", "place", "wait", "rest", "led"]) (sc := defScope P_reached_reach) (by decide +kernel)) (fun _ _ _ _ _ => (pg_name (i := 8) kcRr.nd rfl (.inl rfl))) (fun _ _ _ _ _ => pts_nil) (fun _ _ _ _ _ => (pe_tup (pa_cons (pe_ix (r := rIxT K) ix_tup (pe_ix (r := rIxT K) ix_tup (pv 0) (pv 1) (fun _ _ => rfl)) (pv 8) (fun _ _ => rfl)) (pa_cons (pv 8) pa_nil)))))
      (pss_cons (ps_while PassesOwn.never (pt_truth (pv 4) (fun _ => rfl))
         (pss_cons (ps_set (i := 5) kcRr.nd rfl (.inl rfl) (pe_lst pa_nil))
         (pss_cons (ps_for PassesOwn.never rfl (pi_list (pv 4)) (pg_tup rfl (pgs_cons (pg_name (i := 6) kcRr.nd rfl (.inl rfl)) (pgs_cons (pg_name (i := 7) kcRr.nd rfl (.inl rfl)) pgs_nil)))
            (pss_one (ps_if (pt_cmp (pc_dnotin (hu_of hr) (pv 6) (pv 3)))
               (pss_cons (ps_dput (hu_of hr) (pv 3) (pv 6) (pv 7) rfl)
               (pss_one (ps_expr (pe_bm PySem.F.plainAttrs_list PySem.F.slot_list_append PySem.F.type_list_append mt_append (pv 5) (pa_cons (pe_tup (pa_cons (pv 6) (pa_cons (pv 7) pa_nil))) pa_nil)))))
               pss_nil)))
         (pss_one (ps_setLc2 (i := 4) (own := [("place", 6), ("wait", 7), ("rest", 8), ("led", 9)]) (vs1 := [8, 9]) (g := gTup K 2 (gCons (gName 6) (gCons (gName 7) gNil))) (tt := tYes) (g1 := gTup K 2 (gCons (gName 8) (gCons (gName 9) gNil))) (tt1 := tYes) rfl kcRr.nd rfl rfl (sw_true rfl rfl rfl (by decide +kernel)) (pi_list (pv 5)) (blkOk_by (N := ["ways", "root", "pace", "found", "coming", "new", "place", "wait", "rest", "led"]) (sc := defScope P_reached_reach) (by decide +kernel)) (by decide) (fun _ _ _ _ _ => (pg_tup rfl (pgs_cons (pg_name (i := 6) kcRr.nd rfl (.inl rfl) (.inr rfl)) (pgs_cons (pg_name (i := 7) kcRr.nd rfl (.inl rfl) (.inr rfl)) pgs_nil)))) (fun _ _ _ _ _ => pts_nil) (fun _ _ _ _ _ => (pi_enumTk (K := K) rfl (by rfl) mE (pa_cons (pe_ix (r := rIxT K) ix_tup (pv 0) (pv 6) (fun _ _ => rfl)) pa_nil))) (fun _ _ _ _ _ => (pg_tup rfl (pgs_cons (pg_name (i := 8) kcRr.nd rfl (.inl rfl) (.inr rfl)) (pgs_cons (pg_name (i := 9) kcRr.nd rfl (.inl rfl) (.inr rfl)) pgs_nil)))) (fun _ _ _ _ _ => pts_nil) (fun _ _ _ _ _ => (pe_tup (pa_cons (pv 9) (pa_cons (pe_op op_add (pe_op op_mul (pv 2) (pv 7)) (pv 8)) pa_nil)))))))))
      (pss_one (ps_ret (LiI.pe_listItems rfl (pv 3) (by rfl) mLi boot_list))))))), ?_⟩
    have p2 := ok.p2
    have p4 := ok.p4
    obtain ⟨ss, htl, hsl, hss⟩ := hst
    obtain ⟨br, hbr, hrb⟩ := hss _ _ (numP_at hrt)
    have hll : ∀ st, (stepsP pa st).length = pa.pace := fun st => by unfold stepsP; rw [List.length_map, List.length_range]
    have hrl : (nVs (stepsP pa rt)).length = pa.pace := by rw [nVs_len, hll]
    have hat : ∀ st r, r < pa.pace → (nVs (stepsP pa st))[r]? = some (.int (numP pa (ledL pa st r) : Int)) := fun st r h => by
      unfold nVs stepsP
      rw [List.getElem?_map, List.getElem?_map, List.getElem?_range h]
      rfl
    refine ⟨_, rfl, _, rfl, tl, ss, _, _, rfl, rfl, .inl (.of htl), atI_nat hbr, br, _, rfl, .inr (.inl (.of hrb)), ?_⟩
    rw [hrl]
    refine fun fd nfd => ?_
    have s0 : Same H (upd H fd (.dK [])) := same_upd nfd
    have hfd : (upd H fd (.dK [])) fd = some (.dK []) := upd_same
    generalize upd H fd (.dK []) = H1 at *
    have s0l := s0 _ _ htl
    have hstep : ∀ {H' : Hp}, Same H H' → ∀ st, StOk pa st → ∃ b, SqT K H' tl ss ∧ atI ss (numP pa st : Int) = some (.ref b) ∧ SqT K H' b (nVs (stepsP pa st)) := fun s st hs => by
      obtain ⟨b, h1, h2⟩ := hss _ _ (numP_at hs)
      exact ⟨b, .inl (.of (s _ _ htl)), atI_nat h1, .inl (.of (s _ _ h2))⟩
    refine ⟨fun σ H' => ∃ (cm : Addr) (cs : List Addr), Same H H' ∧ H' fd = some (.dK []) ∧ H' cm = some (.lst (cs.map V.ref)) ∧ RowsW H' pa rt cs (cand pa rt 0) ∧ σ = [some (.ref tl), some (.int (numP pa rt : Int)), some (.int (pa.pace : Int)), some (.ref fd), some (.ref cm), none, none, none, none, none], ?_, ?_⟩
    · refine ⟨_, rfl, 1, (pa.pace : Int), rfl, ⟨by omega, by omega, by omega, by omega⟩, fun D nD => ?_⟩
      have ep : ((pa.pace : Int) - 1).toNat = pa.pace - 1 := by omega
      rw [ep]
      refine lc_it (walk_range (lo := 1) (n := pa.pace - 1)) (fun j H' => Same H1 H' ∧ ∃ ts : List Addr, H' D = some (.lst (ts.map V.ref)) ∧ RowsW H' pa rt ts ((cand pa rt 0).take j)) ⟨same_upd nD, [], upd_same, .nil⟩ (fun _ _ _ _ => trivial) ?_ ?_
      · rintro j y H3 H4 hj ⟨s4, ts, hD, hts⟩ ⟨rfl, rfl⟩
        have hj1 : 1 + j < pa.pace := by have : j < pa.pace - 1 := hj; omega
        have s04 := s0.trans s4
        obtain ⟨b, q1, q2, q3⟩ := hstep s04 rt hrt
        have ec : (1 : Int) + (j : Int) = ((1 + j : Nat) : Int) := by omega
        refine ⟨rfl, _, rfl, _, rfl, tl, ss, _, _, rfl, rfl, q1, q2, _, rfl, b, _, (1 : Int) + (j : Int), _, rfl, rfl, q3, by rw [ec]; exact atI_nat (hat rt (1 + j) hj1), _, rfl, (by show 2 ≤ sizeLine; decide), fun T nT => ?_⟩
        have sT : Same H4 (upd H4 T (.tup [.int (numP pa (ledL pa rt (1 + j)) : Int), .int ((1 : Int) + (j : Int))])) := same_upd nT
        have hT : (upd H4 T (.tup [.int (numP pa (ledL pa rt (1 + j)) : Int), .int ((1 : Int) + (j : Int))])) T = some (.tup [.int (numP pa (behL pa rt (1 + j)) : Int), .int ((1 + j : Nat) : Int)]) := by rw [upd_same, beh_one p2 hj1 (by omega), ec]
        have hD5 := sT _ _ hD
        have hts5 := hts.keep fun b xs e => sT _ _ e
        generalize upd H4 T (.tup [.int (numP pa (ledL pa rt (1 + j)) : Int), .int ((1 : Int) + (j : Int))]) = H5 at *
        have hjl : j < pa.pace - 1 := hj
        have hcd : (cand pa rt 0)[j]? = some (1 + j) := by
          show (List.range' 1 (pa.pace - 1))[j]? = _
          rw [List.getElem?_range' hjl, Nat.one_mul]
        refine ⟨_, hD5, ?_, same_put (s4.trans sT) nD, ts ++ [T], by rw [upd_same, List.map_append]; rfl, ?_⟩
        · rw [List.length_map, hts.1, List.length_take]
          exact small1000 (by omega)
        · rw [List.take_add_one, hcd]
          exact RowsW.keep (keepL (.refl _) hD5) (hts5.snoc hT)
      · rintro H3 ⟨s3, ts, hD, hts⟩
        have hcl : (cand pa rt 0).length = pa.pace - 1 := by
          show (List.range' 1 (pa.pace - 1)).length = _
          rw [List.length_range']
        rw [← hcl, List.take_length] at hts
        exact ⟨D, ts, s0.trans s3, s3 _ _ hfd, hD, hts, rfl⟩
    rintro σ H2 ⟨cm, cs, s2, hfd2, hcm, hcs, rfl⟩
    refine ⟨fun m σ H' => ∃ (kk : Nat) (cm : Addr) (cs : List Addr) (o5 o6 o7 : Option V), m = 2 * (64 - (fnd pa rt kk).length) + (if cand pa rt kk = [] then 0 else 1) ∧ Same H H' ∧ H' fd = some (.dK (fkv pa rt (fnd pa rt kk))) ∧ H' cm = some (.lst (cs.map V.ref)) ∧ RowsW H' pa rt cs (cand pa rt kk) ∧ σ = [some (.ref tl), some (.int (numP pa rt : Int)), some (.int (pa.pace : Int)), some (.ref fd), some (.ref cm), o5, o6, o7, none, none], ⟨_, 0, cm, cs, none, none, none, rfl, s2, hfd2, hcm, hcs, rfl⟩, ?_⟩
    clear hfd hfd2 hcm hcs s2
    clear H2 cm cs
    rintro m σ H2 ⟨kk, cm, cs, o5, o6, o7, rfl, s2, hfd, hcm, hcs, rfl⟩
    refine ⟨_, rfl, _, .inl ⟨cs.map V.ref, .inl (.of hcm), rfl⟩, ?_⟩
    cases hce : (cs.map V.ref).isEmpty with
    | true =>
      have hc0 : cand pa rt kk = [] := by
        have : cs = [] := by cases cs with
          | nil => rfl
          | cons _ _ => cases hce
        have h1 := hcs.1
        rw [this] at h1
        exact List.length_eq_zero_iff.mp h1.symm
      have hw := fnd_done p2 hc0
      refine iteF ?_
      refine ⟨_, rfl, fd, _, rfl, hfd, fun H' q ts keep nq nts pts hq hpair => ?_⟩
      refine k q ts _ H' (s2.trans keep) (s2.free nq) hq hw ⟨?_, fun i t e => ?_⟩
      · rw [hpair.length]
        unfold fkv
        rw [List.length_map]
      · obtain ⟨y, h1, h2⟩ := LiI.paired_get hpair e
        unfold fkv at h1
        rw [List.getElem?_map] at h1
        cases hl : (fnd pa rt kk)[i]? with
        | none => rw [hl] at h1; cases h1
        | some w =>
          rw [hl] at h1
          cases h1
          exact ⟨w, rfl, h2⟩
    | false =>
      have hc0 : cand pa rt kk ≠ [] := fun e => by
        have h1 := hcs.1
        rw [e] at h1
        have := List.length_eq_zero_iff.mp h1
        rw [this] at hce
        cases hce
      refine iteT ?_
      have hfl := beh_len ok hlim hrt (fnd_sort (rt := rt) p2 kk) fun w h => ((fnd_mem p2).mp h).1
      have hfl2 := beh_len ok hlim hrt (fnd_sort (rt := rt) p2 (kk + 1)) fun w h => ((fnd_mem p2).mp h).1
      have efn : fnd pa rt (kk + 1) = fnd pa rt kk ++ (cand pa rt kk).filter (lw pa rt) := rfl
      refine ⟨fun σ H' => ∃ (cm : Addr) (cs : List Addr) (o5 o6 o7 : Option V), Same H H' ∧ H' fd = some (.dK (fkv pa rt (fnd pa rt (kk + 1)))) ∧ H' cm = some (.lst (cs.map V.ref)) ∧ RowsW H' pa rt cs (cand pa rt (kk + 1)) ∧ σ = [some (.ref tl), some (.int (numP pa rt : Int)), some (.int (pa.pace : Int)), some (.ref fd), some (.ref cm), o5, o6, o7, none, none], ?_, ?_⟩
      · rintro σ H3 ⟨cm', cs', o5, o6, o7, h1, h2, h3, h4, e⟩
        refine ⟨_, ?_, kk + 1, cm', cs', o5, o6, o7, rfl, h1, h2, h3, h4, e⟩
        rw [if_neg hc0]
        by_cases hf : (cand pa rt kk).filter (lw pa rt) = []
        · have : cand pa rt (kk + 1) = [] := by
            show ((cand pa rt kk).filter (lw pa rt)).flatMap _ = []
            rw [hf]
            rfl
          rw [if_pos this, efn, hf, List.append_nil]
          omega
        · have h5 : 0 < ((cand pa rt kk).filter (lw pa rt)).length := List.length_pos_iff.mpr hf
          have h6 : (fnd pa rt (kk + 1)).length = (fnd pa rt kk).length + ((cand pa rt kk).filter (lw pa rt)).length := by rw [efn, List.length_append]
          have h7 : (if cand pa rt (kk + 1) = [] then 0 else 1) ≤ 1 := by split <;> omega
          omega
      · refine ⟨Nat.zero_le _, fun nw nnw => ?_⟩
        have s3 : Same H2 (upd H2 nw (.lst [])) := same_upd nnw
        have hnw : (upd H2 nw (.lst [])) nw = some (.lst []) := upd_same
        have hnc : nw ≠ cm := fun z => by rw [z, hcm] at nnw; cases nnw
        have hfd3 := s3 _ _ hfd
        have hcm3 := s3 _ _ hcm
        have hcs3 := hcs.keep fun b xs e => s3 _ _ e
        have s03 := s2.trans s3
        have hnn : H nw = none := s2.free nnw
        generalize upd H2 nw (.lst []) = H3 at *
        refine ⟨_, rfl, cm, rfl, ⟨_, .inl (.of hcm3)⟩, ?_⟩
        refine for_it (walk_list (K := K) (a := cm) (xs := cs.map V.ref)) (fun j σ H' => Same H H' ∧ H' cm = some (.lst (cs.map V.ref)) ∧ RowsW H' pa rt cs (cand pa rt kk) ∧ H' fd = some (.dK (fkv pa rt (fnd pa rt kk ++ ((cand pa rt kk).take j).filter (lw pa rt)))) ∧ (∃ ns : List Addr, H' nw = some (.lst (ns.map V.ref)) ∧ RowsW H' pa rt ns (((cand pa rt kk).take j).filter (lw pa rt))) ∧ ∃ o6 o7, σ = [some (.ref tl), some (.int (numP pa rt : Int)), some (.int (pa.pace : Int)), some (.ref fd), some (.ref cm), some (.ref nw), o6, o7, none, none]) ⟨s03, hcm3, hcs3, by rw [List.take_zero, List.filter_nil, List.append_nil]; exact hfd3, ⟨[], hnw, .nil⟩, _, _, rfl⟩ (fun j σ H' _ ⟨_, h, _⟩ => .inl (.of h)) ?_ ?_
        · rintro j y σ H4 H5 hj ⟨s4, hcm4, hcs4, hfd4, ⟨ns, hns, hnr⟩, o6, o7, rfl⟩ ⟨rfl, hy⟩
          rw [List.getElem?_map] at hy
          obtain ⟨tj, htj, rfl⟩ : ∃ tj, cs[j]? = some tj ∧ y = V.ref tj := by
            cases e : cs[j]? with
            | none => rw [e] at hy; cases hy
            | some tj => rw [e] at hy; exact ⟨tj, rfl, (Option.some.inj hy).symm⟩
          obtain ⟨c, hc, htc⟩ := hcs4.2 j tj htj
          refine ⟨tj, _, rfl, .inl (.of htc), rfl, _, _, rfl, _, _, rfl, rfl, ?_⟩
          have hcn := cand_new p2 hc
          have hval := fkv_val ok hrt (c := c) (fnd pa rt kk ++ ((cand pa rt kk).take j).filter (lw pa rt))
          have htk : (cand pa rt kk).take (j + 1) = (cand pa rt kk).take j ++ [c] := by rw [List.take_add_one, hc]; rfl
          refine ⟨_, rfl, _, rfl, fd, _, rfl, DGet.k (k := .inl (numP pa (behL pa rt c) : Int)) hfd4, _, rfl, ?_⟩
          cases hl : lw pa rt c with
          | false =>
            rw [hval.mpr (hcn.mpr hl)]
            refine iteF ⟨s4, hcm4, hcs4, ?_, ⟨ns, hns, ?_⟩, _, _, rfl⟩
            · rw [htk, List.filter_append, List.filter_cons, hl, if_neg (by nofun), List.filter_nil, List.append_nil]; exact hfd4
            · rw [htk, List.filter_append, List.filter_cons, hl, if_neg (by nofun), List.filter_nil, List.append_nil]; exact hnr
          | true =>
            have hno : (valV (fkv pa rt (fnd pa rt kk ++ ((cand pa rt kk).take j).filter (lw pa rt))) (.inl (numP pa (behL pa rt c) : Int))).isSome = false := by
              rw [Bool.eq_false_iff]
              intro z
              rw [hcn.mp (hval.mp z)] at hl
              cases hl
            rw [hno]
            refine iteT ?_
            have hno2 : valV (fkv pa rt (fnd pa rt kk ++ ((cand pa rt kk).take j).filter (lw pa rt))) (.inl (numP pa (behL pa rt c) : Int)) = none := by
              cases e : valV (fkv pa rt (fnd pa rt kk ++ ((cand pa rt kk).take j).filter (lw pa rt))) (.inl (numP pa (behL pa rt c) : Int)) with
              | none => rfl
              | some v => rw [e] at hno; cases hno
            have hsub : (((cand pa rt kk).take j).filter (lw pa rt)).length ≤ ((cand pa rt kk).filter (lw pa rt)).length := ((List.take_sublist j _).filter _).length_le
            have hsz : (fkv pa rt (fnd pa rt kk ++ ((cand pa rt kk).take j).filter (lw pa rt))).length ≤ 64 := by
              unfold fkv
              rw [List.length_map, List.length_append]
              rw [efn, List.length_append] at hfl2
              omega
            refine ⟨_, rfl, _, rfl, _, rfl, fd, _, rfl, DPut.k (k := .inl (numP pa (behL pa rt c) : Int)) hfd4 (small1000 (by omega)), ?_⟩
            rw [putK_new _ hno2]
            have s5 := same_put (o := .dK (fkv pa rt (fnd pa rt kk ++ ((cand pa rt kk).take j).filter (lw pa rt)) ++ [(.inl (numP pa (behL pa rt c) : Int), .int (c : Int))])) s4 nfd
            have ef : fkv pa rt (fnd pa rt kk ++ ((cand pa rt kk).take j).filter (lw pa rt)) ++ [(.inl (numP pa (behL pa rt c) : Int), .int (c : Int))] = fkv pa rt (fnd pa rt kk ++ ((cand pa rt kk).take (j + 1)).filter (lw pa rt)) := by
              rw [htk, List.filter_append, List.filter_cons, hl, if_pos rfl, List.filter_nil]
              unfold fkv
              rw [← List.append_assoc, List.map_append (l₂ := [c])]
              rfl
            rw [ef] at s5 ⊢
            have ek : ∀ b xs, H5 b = some (.tup xs) → (upd H5 fd (.dK (fkv pa rt (fnd pa rt kk ++ ((cand pa rt kk).take (j + 1)).filter (lw pa rt))))) b = some (.tup xs) := fun b xs e => by
              rw [upd_ne fun z => by rw [z, hfd4] at e; cases e]
              exact e
            have hfd5 : (upd H5 fd (.dK (fkv pa rt (fnd pa rt kk ++ ((cand pa rt kk).take (j + 1)).filter (lw pa rt))))) fd = some (.dK (fkv pa rt (fnd pa rt kk ++ ((cand pa rt kk).take (j + 1)).filter (lw pa rt)))) := upd_same
            have hcm5 : (upd H5 fd (.dK (fkv pa rt (fnd pa rt kk ++ ((cand pa rt kk).take (j + 1)).filter (lw pa rt))))) cm = some (.lst (cs.map V.ref)) := by
              rw [upd_ne fun z => by rw [z, hfd4] at hcm4; cases hcm4]
              exact hcm4
            have hns5 : (upd H5 fd (.dK (fkv pa rt (fnd pa rt kk ++ ((cand pa rt kk).take (j + 1)).filter (lw pa rt))))) nw = some (.lst (ns.map V.ref)) := by
              rw [upd_ne fun z => by rw [z, hfd4] at hns; cases hns]
              exact hns
            have hcs5 := hcs4.keep ek
            have hnr5 := hnr.keep ek
            generalize upd H5 fd (.dK (fkv pa rt (fnd pa rt kk ++ ((cand pa rt kk).take (j + 1)).filter (lw pa rt)))) = H6 at *
            refine ⟨_, rfl, .inl ⟨rfl, _, .of hns5⟩, _, rfl, _, rfl, (by show 2 ≤ sizeLine; decide), fun T nT => ?_⟩
            have sT : Same H6 (upd H6 T (.tup [.int (numP pa (behL pa rt c) : Int), .int (c : Int)])) := same_upd nT
            have hT : (upd H6 T (.tup [.int (numP pa (behL pa rt c) : Int), .int (c : Int)])) T = some (.tup [.int (numP pa (behL pa rt c) : Int), .int (c : Int)]) := upd_same
            generalize upd H6 T (.tup [.int (numP pa (behL pa rt c) : Int), .int (c : Int)]) = H7 at *
            have hns7 := sT _ _ hns5
            refine ⟨nw, _, _, rfl, rfl, hns7, ?_, ?_⟩
            · rw [List.length_map, hnr5.1]
              rw [efn, List.length_append] at hfl2
              exact small1000 (by omega)
            · refine ⟨same_put (s5.trans sT) hnn, ?_, (hcs5.keep fun b xs e => sT _ _ e).keep (keepL (.refl _) hns7), ?_, ⟨ns ++ [T], ?_, ?_⟩, _, _, rfl⟩
              · rw [upd_ne hnc.symm]; exact sT _ _ hcm5
              · rw [upd_ne fun z => by rw [z, hns5] at hfd5; cases hfd5]; exact sT _ _ hfd5
              · rw [upd_same, List.map_append]; rfl
              · rw [htk, List.filter_append, List.filter_cons, hl, if_pos rfl, List.filter_nil]
                exact RowsW.keep (keepL (.refl _) hns7) ((hnr5.keep fun b xs e => sT _ _ e).snoc hT)
        · rintro σ H4 ⟨s4, hcm4, hcs4, hfd4, ⟨ns, hns, hnr⟩, o6, o7, rfl⟩
          rw [List.length_map, hcs4.1, List.take_length] at hfd4 hnr
          rw [← efn] at hfd4
          have hnl : ((cand pa rt kk).filter (lw pa rt)).length ≤ 64 := by
            rw [efn, List.length_append] at hfl2
            omega
          refine ⟨_, rfl, nw, rfl, ⟨_, .inl (.of hns)⟩, fun D nD => ?_⟩
          refine it_walk (walk_list (K := K) (a := nw) (xs := ns.map V.ref)) (fun j H' => Same H4 H' ∧ ∃ ys : List Addr, H' D = some (.lst (ys.map V.ref)) ∧ RowsW H' pa rt ys ((((cand pa rt kk).filter (lw pa rt)).take j).flatMap fun w => (List.range pa.pace).map fun r => pa.pace * w + r)) ⟨same_upd nD, [], upd_same, .nil⟩ (fun j H' _ ⟨s, _⟩ => .inl (.of (s _ _ hns))) ?_ ?_
          · rintro j y H5 H6 hj ⟨s5, ys, hD, hys⟩ ⟨rfl, hy⟩
            rw [List.getElem?_map] at hy
            obtain ⟨tj, htj, rfl⟩ : ∃ tj, ns[j]? = some tj ∧ y = V.ref tj := by
              cases e : ns[j]? with
              | none => rw [e] at hy; cases hy
              | some tj => rw [e] at hy; exact ⟨tj, rfl, (Option.some.inj hy).symm⟩
            obtain ⟨c, hc, htc⟩ := hnr.2 j tj htj
            have hcj := (List.getElem?_eq_some_iff.mp hc).1
            have hcl := (List.mem_filter.mp (List.mem_of_getElem? hc)).2
            have hc1 := (lw_iff.mp hcl).1
            have htc6 := s5 _ _ htc
            have s06 := s4.trans s5
            obtain ⟨b, q1, q2, q3⟩ := hstep s4 (behL pa rt c) (beh_ok ok hrt c)
            refine ⟨tj, _, rfl, .inl (.of htc6), rfl, _, _, rfl, _, _, rfl, rfl, rfl, ?_⟩
            refine ⟨_, rfl, _, rfl, tl, ss, _, _, rfl, rfl, sqT_same s5 q1, q2, b, _, rfl, sqT_same s5 q3, ?_⟩
            have hlen : (nVs (stepsP pa (behL pa rt c))).length = pa.pace := by rw [nVs_len, hll]
            have htk : ((cand pa rt kk).filter (lw pa rt)).take (j + 1) = ((cand pa rt kk).filter (lw pa rt)).take j ++ [c] := by rw [List.take_add_one, hc]; rfl
            have hfm : ((((cand pa rt kk).filter (lw pa rt)).take j).flatMap fun w => (List.range pa.pace).map fun r => pa.pace * w + r).length ≤ 64 * 4 := by
              have h1 : ∀ l : List Nat, (l.flatMap fun w => (List.range pa.pace).map fun r => pa.pace * w + r).length = l.length * pa.pace := fun l => by
                induction l with
                | nil => simp
                | cons a l ih => rw [List.flatMap_cons, List.length_append, ih, List.length_map, List.length_range, List.length_cons, Nat.succ_mul, Nat.add_comm]
              rw [h1]
              exact Nat.mul_le_mul (Nat.le_trans (List.take_sublist j _).length_le hnl) p4
            refine it_walk (walk_enumT (K := K) (a := b) (ys := nVs (stepsP pa (behL pa rt c)))) (fun i H' => Same H4 H' ∧ ∃ ys : List Addr, H' D = some (.lst (ys.map V.ref)) ∧ RowsW H' pa rt ys (((((cand pa rt kk).filter (lw pa rt)).take j).flatMap fun w => (List.range pa.pace).map fun r => pa.pace * w + r) ++ (List.range i).map fun r => pa.pace * c + r)) ⟨s5, ys, hD, by rw [List.range_zero, List.map_nil, List.append_nil]; exact hys⟩ (fun i H' _ ⟨s, _⟩ => sqT_same s q3) ?_ ?_
            · rintro i v H7 H8 hi ⟨s7, ys7, hD7, hys7⟩ ⟨T, x1, y1, rfl, nT, rfl, hx1', hy1⟩
              obtain rfl := (Option.some.inj hx1').symm
              have hi2 : i < pa.pace := by rw [← hlen]; exact hi
              obtain rfl : y1 = .int (numP pa (ledL pa (behL pa rt c) i) : Int) := by
                have h : (nVs (stepsP pa (behL pa rt c)))[i]? = some y1 := hy1
                rw [hat _ _ hi2] at h
                exact (Option.some.inj h).symm
              have sT : Same H7 (upd H7 T (.tup [.int (i : Nat), .int (numP pa (ledL pa (behL pa rt c) i) : Int)])) := same_upd nT
              have hT : (upd H7 T (.tup [.int (i : Nat), .int (numP pa (ledL pa (behL pa rt c) i) : Int)])) T = some (.tup [.int (i : Nat), .int (numP pa (ledL pa (behL pa rt c) i) : Int)]) := upd_same
              have nTD : T ≠ D := fun z => by rw [z, hD7] at nT; cases nT
              have hD8 := sT _ _ hD7
              have hys8 := hys7.keep fun b xs e => sT _ _ e
              generalize upd H7 T (.tup [.int (i : Nat), .int (numP pa (ledL pa (behL pa rt c) i) : Int)]) = H9 at *
              refine ⟨T, _, rfl, .inl (.of hT), rfl, _, _, rfl, _, _, rfl, rfl, rfl, _, rfl, _, rfl, _, rfl, _, _, rfl, rfl, .inl ⟨by omega, by omega⟩, _, rfl, _, _, rfl, rfl, (by show 2 ≤ sizeLine; decide), fun U nU => ?_⟩
              have eb : numP pa (ledL pa (behL pa rt c) i) = numP pa (behL pa rt (pa.pace * c + i)) := by
                rw [beh_mul p2 hi2 (by have := Nat.mul_pos (show 0 < pa.pace by omega) hc1; omega)]
              have sU : Same H9 (upd H9 U (.tup [.int (numP pa (ledL pa (behL pa rt c) i) : Int), .int ((pa.pace : Int) * (c : Int) + (i : Int))])) := same_upd nU
              have hU : (upd H9 U (.tup [.int (numP pa (ledL pa (behL pa rt c) i) : Int), .int ((pa.pace : Int) * (c : Int) + (i : Int))])) U = some (.tup [.int (numP pa (behL pa rt (pa.pace * c + i)) : Int), .int ((pa.pace * c + i : Nat) : Int)]) := by rw [upd_same, eb]; rfl
              have hD9 := sU _ _ hD8
              have hys9 := hys8.keep fun b xs e => sU _ _ e
              show ∃ acc, (upd H9 U (.tup [.int (numP pa (ledL pa (behL pa rt c) i) : Int), .int ((pa.pace : Int) * (c : Int) + (i : Int))])) D = some (.lst acc) ∧ acc.length < sizeLine ∧ Same H4 (upd (upd H9 U (.tup [.int (numP pa (ledL pa (behL pa rt c) i) : Int), .int ((pa.pace : Int) * (c : Int) + (i : Int))])) D (.lst (acc ++ [.ref U]))) ∧ ∃ ys : List Addr, (upd (upd H9 U (.tup [.int (numP pa (ledL pa (behL pa rt c) i) : Int), .int ((pa.pace : Int) * (c : Int) + (i : Int))])) D (.lst (acc ++ [.ref U]))) D = some (.lst (ys.map V.ref)) ∧ RowsW (upd (upd H9 U (.tup [.int (numP pa (ledL pa (behL pa rt c) i) : Int), .int ((pa.pace : Int) * (c : Int) + (i : Int))])) D (.lst (acc ++ [.ref U]))) pa rt ys (((((cand pa rt kk).filter (lw pa rt)).take j).flatMap fun w => (List.range pa.pace).map fun r => pa.pace * w + r) ++ (List.range (i + 1)).map fun r => pa.pace * c + r)
              generalize upd H9 U (.tup [.int (numP pa (ledL pa (behL pa rt c) i) : Int), .int ((pa.pace : Int) * (c : Int) + (i : Int))]) = H10 at *
              refine ⟨_, hD9, ?_, same_put (s7.trans (sT.trans sU)) nD, ys7 ++ [U], by rw [upd_same, List.map_append]; rfl, ?_⟩
              · rw [List.length_map, hys7.1, List.length_append, List.length_map, List.length_range]
                exact small1000 (by omega)
              · rw [List.range_succ, List.map_append, ← List.append_assoc]
                exact RowsW.keep (keepL (.refl _) hD9) (hys9.snoc hU)
            · rintro H7 ⟨s7, ys7, hD7, hys7⟩
              rw [hlen] at hys7
              refine ⟨s7, ys7, hD7, ?_⟩
              rw [htk, List.flatMap_append, List.flatMap_singleton]
              exact hys7
          · rintro H5 ⟨s5, ys, hD, hys⟩
            rw [List.length_map, hnr.1, List.take_length] at hys
            exact ⟨D, ys, _, _, _, s4.trans s5, s5 _ _ hfd4, hD, hys, rfl⟩
end
end P52

namespace P52
open PySem PySem.Spec PyProof.Rows L2 HG HF
section
variable {P : Program} {w : World} {K : PySem.W.Frag} {mg : Str → Option Value} {base : Heap}
theorem kcNr : FnScope ["self", "standing"] ["self", "standing"] (defScope C_Choir_number) := ⟨rfl, rfl, rfl, by decide +kernel, rfl, by decide +kernel, by decide +kernel⟩
theorem ok_numM {f C : Addr} {fd : FuncData} {k : Nat} (F : Fun K "number" "Choir.number" C_Choir_number f fd) (cl : Cls K C) (n1 : NoAttr K C "_numbers") : FnOk P w K mg base CX0 (k + 1) f fd ["self", "standing"] (spNumM K C) := by
  refine F.ok kcNr (fun vs H Q E h => ?_) (fun cdv A outer s H vs Q E hr h => ?_)
  · obtain ⟨G, x, sv, pa, rl, ll, st, rfl, _⟩ := h
    rfl
  · obtain ⟨G, x, sv, pa, rl, ll, st, rfl, g, ⟨_, dx, fs, hx, hR⟩, ⟨sa, rfl, hsa⟩, hst, k⟩ := h
    refine ⟨_, (pss_one (ps_ret (pe_dget (hu_of hr) (pe_fld (pv 0) rfl) (pv 1) (fun _ _ => rfl)))), ?_⟩
    obtain ⟨nl, ns, a1, a2, a3⟩ := hR.nums
    have hdg : DGet H nl (.ref sa) (some (.int (numP pa st : Int))) := by
      rw [← a3 st hst]
      exact DGet.t (k := keyT st) (g _ _ a2) (by rw [keyT_v]; exact g _ _ hsa)
    exact ⟨_, rfl, x, C, dx, fs, _, rfl, g _ _ hx, cl, n1, a1, _, rfl, nl, _, rfl, hdg, k⟩
theorem kcRc : FnScope ["self", "number"] ["self", "number"] (defScope C_Choir_reached) := ⟨rfl, rfl, rfl, by decide +kernel, rfl, by decide +kernel, by decide +kernel⟩
theorem ok_reachM {f C : Addr} {fd : FuncData} (F : Fun K "reached" "Choir.reached" C_Choir_reached f fd) (cl : Cls K C) (n1 : NoAttr K C "_reached") (n2 : NoAttr K C "_steps") (dB : Df P w K mg base "reached_reach" 1 ["ways", "root"] spBfs) (mT : mg "tuple" = none) : FnOk P w K mg base CX0 2 f fd ["self", "number"] (spReach K C) := by
  refine F.ok kcRc (fun vs H Q E h => ?_) (fun cdv A outer s H vs Q E hr h => ?_)
  · obtain ⟨G, x, pa, lim, rl, ll, rt, m, rfl, _⟩ := h
    rfl
  · obtain ⟨G, x, pa, lim, rl, ll, rt, m, rfl, g, grl, ⟨_, dx, fs, hx, hR⟩, ok, hlim, hrt, hrc, hm, k⟩ := h
    refine ⟨_, (Evl.pss_cut (ps_if (pt_cmp (pc_dnotin (hu_of hr) (pv 1) (pe_fld (pv 0) rfl)))
         (pss_one (ps_dput (hu_of hr) (pe_fld (pv 0) rfl) (pv 1) (pe_callTy call_tuple_of (by rfl) mT (by decide +kernel) (pa_cons (pe_cD dB hr (by rfl) (pa_cons (pe_fld (pv 0) rfl) (pa_cons (pv 1) pa_nil))) pa_nil)) rfl))
         pss_nil)
      (pss_one (ps_ret (pe_dget (hu_of hr) (pe_fld (pv 0) rfl) (pv 1) (fun _ _ => rfl))))), ?_⟩
    obtain ⟨tl, ss, c1, c2, c3, c4⟩ := hR.steps
    have hfr := hR.rch
    have rlx : rl ≠ x := fun z => by rw [z, hx] at grl; cases grl
    obtain ⟨kvs, hrl, hkl, hkv⟩ := hrc
    have hfull : ∀ {H' : Hp}, (∀ b xs, H b = some (.tup xs) → H' b = some (.tup xs)) → ∀ (n : Nat) (v : V), valV kvs (.inl (n : Int)) = some v → ∃ (rt : List Nat) (tu : Addr) (ts : List Addr) (l : List Nat), StOk pa rt ∧ n = numP pa rt ∧ v = .ref tu ∧ H' tu = some (.tup (ts.map V.ref)) ∧ WtL pa rt l ∧ RowsW H' pa rt ts l := fun s n v e => by
      obtain ⟨rt, tu, ts, l, q1, q2, q3, q4, q5, q6⟩ := hkv n v e
      exact ⟨rt, tu, ts, l, q1, q2, q3, s _ _ q4, q5, q6.keep s⟩
    refine ⟨fun σ H' => Kx rl H H' ∧ RchOk H' rl pa (m + 1) ∧ (∃ (kvs : List (Key × V)) (tu : Addr) (ts : List Addr) (l : List Nat), H' rl = some (.dK kvs) ∧ valV kvs (.inl (numP pa rt : Int)) = some (.ref tu) ∧ H' tu = some (.tup (ts.map V.ref)) ∧ WtL pa rt l ∧ RowsW H' pa rt ts l) ∧ σ = [some (.ref x), some (.int (numP pa rt : Int))], ?_, ?_⟩
    · refine ⟨_, rfl, _, rfl, x, C, dx, fs, _, rfl, g _ _ hx, cl, n1, hfr, rl, _, rfl, DGet.k (k := .inl (numP pa rt : Int)) hrl, _, rfl, ?_⟩
      cases hv : valV kvs (.inl (numP pa rt : Int)) with
      | some v =>
        refine iteF ?_
        obtain ⟨rt', tu, ts, l, q1, q2, rfl, q4, q5, q6⟩ := hkv _ _ hv
        obtain rfl := numP_inj hrt q1 q2
        exact ⟨.rfl', ⟨kvs, hrl, by omega, hkv⟩, ⟨kvs, tu, ts, l, hrl, hv, q4, q5, q6⟩, rfl⟩
      | none =>
        refine iteT ?_
        refine ⟨_, rfl, x, C, dx, fs, _, rfl, g _ _ hx, cl, n2, c1, _, rfl, tl, pa, lim, rt, rfl, ⟨ss, g _ _ c2, c3, fun i st e => let ⟨b, b1, b2⟩ := c4 i st e; ⟨b, b1, g _ _ b2⟩⟩, ok, hlim, hrt, fun p ts l H1 s1 np hp hw hrow => ?_⟩
        refine ⟨p, _, rfl, .inl ⟨.inl (.of hp), fun u nu => ?_⟩⟩
        have s2 : Same H1 (upd H1 u (.tup (ts.map V.ref))) := same_upd nu
        have hu : (upd H1 u (.tup (ts.map V.ref))) u = some (.tup (ts.map V.ref)) := upd_same
        have hrow2 := hrow.keep fun b xs e => s2 _ _ e
        generalize upd H1 u (.tup (ts.map V.ref)) = H2 at *
        have s12 := s1.trans s2
        have hrl2 := s12 _ _ hrl
        refine ⟨_, rfl, x, C, dx, fs, _, rfl, s12 _ _ (g _ _ hx), cl, n1, hfr, _, rfl, rl, _, rfl, DPut.k (k := .inl (numP pa rt : Int)) hrl2 (small1000 (by omega)), ?_⟩
        rw [putK_new _ hv]
        have ek : ∀ b xs, H2 b = some (.tup xs) → (upd H2 rl (.dK (kvs ++ [(.inl (numP pa rt : Int), .ref u)]))) b = some (.tup xs) := fun b xs e => by
          rw [upd_ne fun z => by rw [z, hrl2] at e; cases e]
          exact e
        have eu := ek _ _ hu
        have er := hrow2.keep ek
        have hv2 : valV (kvs ++ [(.inl (numP pa rt : Int), .ref u)]) (.inl (numP pa rt : Int)) = some (.ref u) := by rw [valV_snoc _ _ _ _ hv, if_pos rfl]
        refine ⟨fun b o e n => by rw [upd_ne n]; exact s12 _ _ e, ⟨_, upd_same, by rw [List.length_append]; show _ + 1 ≤ _; omega, fun n v e => ?_⟩, ⟨_, u, ts, l, upd_same, hv2, eu, hw, er⟩, rfl⟩
        rw [valV_snoc _ _ _ _ hv] at e
        by_cases c : (Sum.inl (n : Int) : Key) = .inl (numP pa rt : Int)
        · rw [if_pos c] at e
          cases e
          exact ⟨rt, u, ts, l, hrt, by have := Sum.inl.inj c; omega, rfl, eu, hw, er⟩
        · rw [if_neg c] at e
          exact hfull (fun b xs e => ek _ _ (s12 _ _ e)) n v e
    rintro σ H1 ⟨kx, hrc, ⟨kvs', tu, ts, l, h1, h2, h3, h4, h5⟩, rfl⟩
    have hx1 : H1 x = some (.ins C dx fs) := kx _ _ (g _ _ hx) rlx.symm
    refine ⟨_, rfl, x, C, dx, fs, _, rfl, hx1, cl, n1, hfr, _, rfl, rl, _, rfl, ?_, k tu ts l H1 kx hrc h3 h4 h5⟩
    rw [← h2]
    exact DGet.k (k := .inl (numP pa rt : Int)) h1
theorem kcSt : FnScope ["choir"] ["choir"] (defScope P_standings) := ⟨rfl, rfl, rfl, by decide +kernel, rfl, by decide +kernel, by decide +kernel⟩
theorem ok_stds {f C : Addr} {fd : FuncData} {k : Nat} (F : Fun K "standings" "standings" P_standings f fd) (cl : Cls K C) (n1 : NoAttr K C "_standings") (mLi : mg "list" = none) : FnOk P w K mg base CX0 (k + 1) f fd ["choir"] (spStds K C) := by
  refine F.ok kcSt (fun vs H Q E h => ?_) (fun cdv A outer s H vs Q E hr h => ?_)
  · obtain ⟨G, x, pa, rl, ll, rfl, _⟩ := h
    rfl
  · obtain ⟨G, x, pa, rl, ll, rfl, g, ⟨_, dx, fs, hx, hR⟩, k⟩ := h
    refine ⟨_, (pss_one (ps_ret (pe_callTy call_list_of (by rfl) mLi (by decide +kernel) (pa_cons (pe_fld (pv 0) rfl) pa_nil)))), ?_⟩
    obtain ⟨sl, rs, a1, a2, a3⟩ := hR.stand
    exact ⟨_, rfl, x, C, dx, fs, _, rfl, g _ _ hx, cl, n1, a1, sl, rs, rfl, .inl (.inl (.of (g _ _ a2))), fun q nq => k q rs _ (same_upd nq) nq upd_same a3⟩
theorem kcWt : FnScope ["choir", "root", "told", "number", "wait"] ["choir", "root"] (defScope P_waits) := ⟨rfl, rfl, rfl, by decide +kernel, rfl, by decide +kernel, by decide +kernel⟩
theorem ok_waits {f C : Addr} {fd : FuncData} (F : Fun K "waits" "waits" P_waits f fd) (cl : Cls K C) (dS : Df P w K mg base "standings" 1 ["choir"] (spStds K C)) (mN : Mf P w K mg base C "number" 1 ["self", "standing"] (spNumM K C)) (mR : Mf P w K mg base C "reached" 2 ["self", "number"] (spReach K C)) : FnOk P w K mg base CX0 3 f fd ["choir", "root"] (spWaits K C) := by
  refine F.ok kcWt (fun vs H Q E h => ?_) (fun cdv A outer s H vs Q E hr h => ?_)
  · obtain ⟨G, x, sv, pa, lim, rl, ll, rt, m, rfl, _⟩ := h
    rfl
  · obtain ⟨G, x, sv, pa, lim, rl, ll, rt, m, rfl, g, grl, hat, htr, ok, hlim, hrt, hrc, hm, k⟩ := h
    refine ⟨_, (pss_cons (ps_set (i := 2) kcWt.nd rfl (.inr rfl) (pe_cD dS hr (by rfl) (pa_cons (pv 0) pa_nil)))
      (pss_one (ps_ret (pe_lc (own := [("number", 3), ("wait", 4)]) (g := gTup K 2 (gCons (gName 3) (gCons (gName 4) gNil))) (tt := tYes) rfl kcWt.nd (pi_tup (pe_mD (C := C) (m := "reached") (k := 2) (ps := ["self", "number"]) (sp := spReach K C) (pv 0) cl mR hr (pa_cons (pe_mD (C := C) (m := "number") (k := 1) (ps := ["self", "standing"]) (sp := spNumM K C) (pv 0) cl mN hr (pa_cons (pv 1) pa_nil)) pa_nil))) (blkOk_by (N := ["choir", "root", "told", "number", "wait"]) (sc := defScope P_waits) (by decide +kernel)) (fun _ _ _ _ _ => (pg_tup rfl (pgs_cons (pg_name (i := 3) kcWt.nd rfl (.inl rfl) (.inr rfl)) (pgs_cons (pg_name (i := 4) kcWt.nd rfl (.inl rfl) (.inr rfl)) pgs_nil)))) (fun _ _ _ _ _ => pts_nil) (fun _ _ _ _ _ => (pe_tup (pa_cons (pe_ix (r := rIxL K) ix_list (pv 2) (pv 3) (fun _ _ => rfl)) (pa_cons (pv 4) pa_nil)))))))), ?_⟩
    obtain ⟨dx, fs, hx, hms⟩ := atC_k.ins hat.1
    refine ⟨_, rfl, G, x, pa, rl, ll, rfl, g, hat, fun q ys H1 s1 nq hq hys => ?_⟩
    have g1 := g.trans s1
    refine ⟨_, rfl, x, dx, fs, rfl, g1 _ _ hx, hms _ (by decide +kernel), _, rfl, x, dx, fs, rfl, g1 _ _ hx, hms _ (by decide +kernel), _, rfl, G, x, sv, pa, rl, ll, rt, rfl, g1, hat, htr, hrt, ?_⟩
    refine ⟨G, x, pa, lim, rl, ll, rt, m, rfl, g1, grl, hat, ok, hlim, hrt, hrc.same s1, hm, fun tu ts l H2 kx hrc2 htu hw hrow => ⟨tu, rfl, ⟨_, .inl (.of htu)⟩, fun D nD => ?_⟩⟩
    have g2 : Same G H2 := kx.sub g1 grl
    have k2 : Kx rl H H2 := (Kx.same s1).trans kx
    obtain ⟨kvs, hrl, hkl, hkv⟩ := id hrc2
    have hq2 : H2 q = some (.lst ys) := kx _ _ hq fun z => by
      obtain ⟨kv0, h0, _⟩ := hrc.same s1
      rw [z, h0] at hq
      cases hq
    have hnD : H D = none := k2.free (by rw [hrl]; exact nofun) nD
    have hll := beh_len ok hlim hrt hw.sort fun w h => (hw.mem w).mp h
    refine lc_it (walk_tup (K := K) (a := tu) (xs := ts.map V.ref)) (fun j H' => Same H2 H' ∧ ∃ us : List Addr, H' D = some (.lst (us.map V.ref)) ∧ RowsS H' G pa rt us (l.take j) ∧ ∀ u ∈ us, H u = none) ⟨same_upd nD, [], upd_same, .nil, fun u hu => by cases hu⟩ (fun j H' _ ⟨s, _⟩ => .inl (.of (s _ _ htu))) ?_ ?_
    · rintro j y H3 H4 hj ⟨s4, us, hD, hus, hun⟩ ⟨rfl, hy⟩
      rw [List.getElem?_map] at hy
      obtain ⟨tj, htj, rfl⟩ : ∃ tj, ts[j]? = some tj ∧ y = V.ref tj := by
        cases e : ts[j]? with
        | none => rw [e] at hy; cases hy
        | some tj => rw [e] at hy; exact ⟨tj, rfl, (Option.some.inj hy).symm⟩
      obtain ⟨c, hc, htc⟩ := hrow.2 j tj htj
      have hjl := (List.getElem?_eq_some_iff.mp hc).1
      have hbo := beh_ok ok hrt c
      obtain ⟨yv, hyv⟩ : ∃ yv, ys[numP pa (behL pa rt c)]? = some yv := ⟨_, List.getElem?_eq_getElem (by rw [hys.1]; exact numP_lt hbo)⟩
      obtain ⟨st', h1, h2⟩ := hys.2 _ _ hyv
      rw [numP_at hbo] at h1
      cases h1
      refine ⟨tj, _, rfl, .inl (.of (s4 _ _ htc)), rfl, _, _, rfl, _, _, rfl, rfl, rfl, _, rfl, _, rfl, q, ys, _, yv, rfl, rfl, .inl (.of (s4 _ _ hq2)), atI_nat hyv, _, rfl, (by show 2 ≤ sizeLine; decide), fun U nU => ?_⟩
      have sU : Same H4 (upd H4 U (.tup [yv, .int (c : Int)])) := same_upd nU
      have hU : (upd H4 U (.tup [yv, .int (c : Int)])) U = some (.tup [yv, .int (c : Int)]) := upd_same
      have hD5 := sU _ _ hD
      have hus5 := hus.keep fun b xs e => sU _ _ e
      have hUn : H U = none := (k2.trans (.same s4)).free (by rw [s4 _ _ hrl]; exact nofun) nU
      generalize upd H4 U (.tup [yv, .int (c : Int)]) = H5 at *
      refine ⟨_, hD5, ?_, same_put (s4.trans sU) nD, us ++ [U], by rw [upd_same, List.map_append]; rfl, ?_, fun u hu => ?_⟩
      · rw [List.length_map, hus.1, List.length_take]
        exact small1000 (by omega)
      · rw [List.take_add_one, hc]
        exact RowsS.keep (keepL (.refl _) hD5) (hus5.snoc hU h2)
      · rcases List.mem_append.mp hu with hu | hu
        · exact hun u hu
        · rw [List.mem_singleton.mp hu]; exact hUn
    · rintro H3 ⟨s3, us, hD, hus, hun⟩
      rw [List.length_map, hrow.1, List.take_length] at hus
      exact k D us l H3 (k2.trans (.same s3)) (hrc2.same s3) hnD hun hD hw hus
end
end P52

namespace P52
open PySem PySem.Spec PyProof.Rows L2 HG HF
section
variable {P : Program} {w : World} {K : PySem.W.Frag} {mg : Str → Option Value} {base : Heap}
theorem kcIn : FnScope ["self", "pace", "notes", "voices"] ["self", "pace", "notes", "voices"] (defScope C_Choir_init) := ⟨rfl, rfl, rfl, by decide +kernel, rfl, by decide +kernel, by decide +kernel⟩
theorem ok_init {f C : Addr} {fd : FuncData} (F : Fun K "__init__" "Choir.__init__" C_Choir_init f fd) (cl : Cls K C) (dW : Df P w K mg base "_refuse_wrong" 3 ["pace", "notes", "voices"] (spGood K)) (dB : Df P w K mg base "_refuse_bad_voices" 5 ["pace", "notes", "voices"] (spGood K))
    (dF : Mf P w K mg base C "_fill" 3 ["self", "pace", "notes", "voices"] (spFill2 K C (AtN K C))) : FnOk P w K mg base CX0 6 f fd ["self", "pace", "notes", "voices"] (spMake4 K C (AtN K C)) := by
  refine F.ok kcIn (fun vs H Q E h => ?_) (fun cdv A outer s H vs Q E hr h => ?_)
  · obtain ⟨G, x, dx, v, vs', pa, lim, rfl, _⟩ := h
    rfl
  · obtain ⟨G, x, dx, v, vs', pa, lim, rfl, g, hx, hdx, gx, gdx, hd, hp, ok, hlim, k⟩ := h
    refine ⟨_, (pss_cons (ps_expr (pe_cD dW hr (by rfl) (pa_cons (pv 1) (pa_cons (pv 2) (pa_cons (pv 3) pa_nil)))))
      (pss_cons (ps_expr (pe_cD dB hr (by rfl) (pa_cons (pv 1) (pa_cons (pv 2) (pa_cons (pv 3) pa_nil)))))
      (pss_one (ps_expr (pe_mD (pv 0) cl dF hr (pa_cons (pv 1) (pa_cons (pv 2) (pa_cons (pv 3) pa_nil)))))))), ?_⟩
    refine ⟨_, rfl, _, rfl, _, rfl, G, v, vs', pa, lim, rfl, g, hd, hp, ok, hlim, fun H1 s1 => ?_⟩
    refine ⟨_, rfl, _, rfl, _, rfl, G, v, vs', pa, lim, rfl, g.trans s1, hd, hp, ok, hlim, fun H2 s2 => ?_⟩
    have s12 := s1.trans s2
    refine ⟨_, rfl, x, dx, [], rfl, s12 _ _ hx, rfl, _, rfl, _, rfl, _, rfl, ?_⟩
    refine ⟨G, x, dx, v, vs', pa, lim, [], rfl, g.trans s12, s12 _ _ hx, fun _ _ => rfl, by decide, s12 _ _ hdx, gx, gdx, hd, hp, ok, hlim, fun H' fs hk hxe hl6 hms hat => ?_⟩
    refine k H' fs (fun b o e n => hk b o (s12 _ _ e) n) hxe (by simpa using hl6) hms (atN_k.mono ?_ hat)
    intro b o e
    unfold plus at e ⊢
    by_cases c : b = x ∨ b = dx
    · rw [if_pos c] at e ⊢
      exact e
    · rw [if_neg c] at e ⊢
      unfold more at e ⊢
      by_cases c2 : H2 b = none
      · rw [if_pos c2] at e
        rw [if_pos (s12.free c2)]
        exact e
      · rw [if_neg c2] at e
        rw [if_neg (fun z => by rw [g b o e] at z; cases z)]
        exact e
end
end P52

namespace P52
open PySem PySem.Spec PyProof.Rows L2 HG HF
section
variable {P : Program} {w : World} {K : PySem.W.Frag} {mg : Str → Option Value} {base : Heap}
theorem kcNa : FnScope ["self"] ["self"] (defScope C_Choir_names) := ⟨rfl, rfl, rfl, by decide +kernel, rfl, by decide +kernel, by decide +kernel⟩
theorem ok_namesM {f C : Addr} {fd : FuncData} {k : Nat} (F : Fun K "names" "Choir.names" C_Choir_names f fd) (cl : Cls K C) (n1 : NoAttr K C "_names") (mL : mg "list" = none) : FnOk P w K mg base CX0 (k + 1) f fd ["self"] (spNamesM (AtC K C)) := by
  refine F.ok kcNa (fun vs H Q E h => ?_) (fun cdv A outer s H vs Q E hr h => ?_)
  · obtain ⟨G, x, pa, rfl, _⟩ := h
    rfl
  · obtain ⟨G, x, pa, rfl, g, ⟨dx, fs, wl, ws, hco, _⟩, k⟩ := h
    refine ⟨_, (pss_one (ps_ret (pe_callTy call_list_of (by rfl) mL (by decide +kernel) (pa_cons (pe_fld (pv 0) rfl) pa_nil)))), ?_⟩
    obtain ⟨nl, hf, hn⟩ := hco.names
    exact ⟨_, rfl, x, C, dx, fs, _, rfl, g _ _ hco.ins, cl, n1, hf, nl, _, rfl, .inl (.of (g _ _ hn)), fun q nq => k q _ (same_upd nq) nq upd_same⟩
end
end P52

namespace P52
open PySem PySem.Spec PyProof.Rows L2 HG HF
section
variable {P : Program} {w : World} {K : PySem.W.Frag} {mg : Str → Option Value} {base : Heap}
theorem kcP2 : FnScope ["self"] ["self"] (defScope C_Choir_notes) := ⟨rfl, rfl, rfl, by decide +kernel, rfl, by decide +kernel, by decide +kernel⟩
theorem ok_notesM {f C : Addr} {fd : FuncData} {k : Nat} (F : Fun K "notes" "Choir.notes" C_Choir_notes f fd) (cl : Cls K C) (n1 : NoAttr K C "_notes") : FnOk P w K mg base CX0 (k + 1) f fd ["self"] (spFldM (AtC K C) fun P => (P.notes : Int)) := by
  refine F.ok kcP2 (fun vs H Q E h => ?_) (fun cdv A outer s H vs Q E hr h => ?_)
  · obtain ⟨G, x, pa, rfl, _⟩ := h
    rfl
  · obtain ⟨G, x, pa, rfl, g, ⟨dx, fs, wl, ws, hco, _⟩, k⟩ := h
    refine ⟨_, (pss_one (ps_ret (pe_fld (pv 0) rfl))), ?_⟩
    exact ⟨_, rfl, x, C, dx, fs, _, rfl, g _ _ hco.ins, cl, n1, hco.notes, k⟩
end
end P52

namespace P52
open PySem PySem.Spec PyProof.Rows L2 HG HF
section
variable {P : Program} {w : World} {K : PySem.W.Frag} {mg : Str → Option Value} {base : Heap}
theorem kcLn : FnScope ["self"] ["self"] (defScope C_Choir_len) := ⟨rfl, rfl, rfl, by decide +kernel, rfl, by decide +kernel, by decide +kernel⟩
theorem ok_lenM {f C : Addr} {fd : FuncData} {k : Nat} (F : Fun K "__len__" "Choir.__len__" C_Choir_len f fd) (cl : Cls K C) (n1 : NoAttr K C "_names") (ml : mg "len" = none) : FnOk P w K mg base CX0 (k + 1) f fd ["self"] (spFldM (AtC K C) fun P => (P.voices.length : Int)) := by
  refine F.ok kcLn (fun vs H Q E h => ?_) (fun cdv A outer s H vs Q E hr h => ?_)
  · obtain ⟨G, x, pa, rfl, _⟩ := h
    rfl
  · obtain ⟨G, x, pa, rfl, g, ⟨dx, fs, wl, ws, hco, _⟩, k⟩ := h
    refine ⟨_, (pss_one (ps_ret (pe_callB call_len_seq (by rfl) ml PySem.boot_len (pa_cons (pe_fld (pv 0) rfl) pa_nil)))), ?_⟩
    obtain ⟨nl, hf, hn⟩ := hco.names
    refine ⟨_, rfl, x, C, dx, fs, _, rfl, g _ _ hco.ins, cl, n1, hf, nl, _, rfl, .inl (.of (g _ _ hn)), ?_⟩
    have e : (pa.names.map V.str).length = pa.voices.length := by rw [List.length_map]; exact List.length_map ..
    rw [e]
    exact k
end
end P52

namespace P52
open PySem PySem.Spec PyProof.Rows L2 HG HF
section
variable {P : Program} {w : World} {K : PySem.W.Frag} {mg : Str → Option Value} {base : Heap}
theorem kcBh2 : FnScope ["self", "standing", "wait", "rest"] ["self", "standing", "wait"] (defScope C_Choir_behind) := ⟨rfl, rfl, rfl, by decide +kernel, rfl, by decide +kernel, by decide +kernel⟩
theorem ok_behindM {f C : Addr} {fd : FuncData} (F : Fun K "behind" "Choir.behind" C_Choir_behind f fd) (cl : Cls K C) (n1 : NoAttr K C "_pace") (n6 : NoAttr K C "_ways") (dF : Df P w K mg base "figures_of" 1 ["number", "pace"] spFigsN) : FnOk P w K mg base CX0 2 f fd ["self", "standing", "wait"] (spBehindM2 K (AtC K C)) := by
  refine F.ok kcBh2 (fun vs H Q E h => ?_) (fun cdv A outer s H vs Q E hr h => ?_)
  · obtain ⟨G, x, sv, r, pa, st, lim, rfl, _⟩ := h
    rfl
  · obtain ⟨G, x, sv, wt, pa, st, lim, rfl, g, ⟨dx, fs, wl, ws, hco, hfw, hwl, hws⟩, htr, ok, hso, hwt, k⟩ := h
    refine ⟨_, (pss_cons (ps_for PassesOwn.never rfl (pi_list (pe_cD dF hr (by rfl) (pa_cons (pv 2) (pa_cons (pe_fld (pv 0) rfl) pa_nil)))) (pg_name (i := 3) kcBh2.nd rfl (.inl rfl))
         (pss_one (ps_set (i := 1) kcBh2.nd rfl (.inl rfl) (pe_ix (r := rIxT K) ix_tup (pe_dget (hu_of hr) (pe_fld (pv 0) rfl) (pv 1) (fun _ _ => rfl)) (pv 3) (fun _ _ => rfl)))))
      (pss_one (ps_ret (pv 1)))), ?_⟩
    have p2 := ok.p2
    refine ⟨_, rfl, _, rfl, x, C, dx, fs, _, rfl, g _ _ hco.ins, cl, n1, hco.pace, wt, pa.pace, rfl, p2, ok.p4, hwt, fun q H1 s1 nq hq => ?_⟩
    refine ⟨q, rfl, ⟨_, .of hq⟩, for_list (K := K) (a := q) (xs := nVs (figs pa.pace wt)) (fun i σ H' => H' = H1 ∧ ∃ (y : V) (o4 : Option V), σ = [some (.ref x), some y, some (.int (wt : Int)), o4] ∧ StOk pa (((figs pa.pace wt).take i).foldl (ledL pa) st) ∧ TrT G y (((figs pa.pace wt).take i).foldl (ledL pa) st)) ?_ ?_ ?_ ?_⟩
    · exact ⟨rfl, sv, none, rfl, hso, htr⟩
    · rintro i σ H2 hi ⟨rfl, _⟩
      exact .of hq
    · rintro i y σ H2 hx ⟨rfl, z, o4, rfl, hok, hz⟩
      obtain ⟨d, hdi, rfl⟩ : ∃ d : Nat, (figs pa.pace wt)[i]? = some d ∧ y = V.int (d : Int) := by
        unfold nVs at hx
        rw [List.getElem?_map] at hx
        cases e : (figs pa.pace wt)[i]? with
        | none => rw [e] at hx; cases hx
        | some d => rw [e] at hx; exact ⟨d, rfl, (Option.some.inj hx).symm⟩
      have hdl : d < pa.pace := figs_lt p2 wt d (List.mem_of_getElem? hdi)
      have gs := g.trans s1
      obtain ⟨sa, rfl, hsa⟩ := hz
      obtain ⟨v, hv, a, ts, rfl, ha, htl, hts⟩ := hws _ hok
      obtain ⟨y2, hy2, hyt⟩ := hts d hdl
      have hdg : DGet H2 wl (.ref sa) (some (.ref a)) := by
        rw [← hv]
        exact DGet.t (k := keyT _) (gs _ _ hwl) (by rw [keyT_v]; exact gs _ _ hsa)
      have e1 : ((figs pa.pace wt).take (i + 1)).foldl (ledL pa) st = ledL pa (((figs pa.pace wt).take i).foldl (ledL pa) st) d := by
        rw [List.take_add_one, hdi]
        show List.foldl (ledL pa) st (_ ++ [d]) = _
        rw [List.foldl_append]
        rfl
      refine ⟨_, rfl, x, C, dx, fs, _, rfl, gs _ _ hco.ins, cl, n6, hfw, _, rfl, wl, _, rfl, hdg, _, rfl, a, ts, _, _, rfl, rfl, .inl (.of (gs _ _ ha)), atI_nat hy2, rfl, y2, _, rfl, ?_, ?_⟩
      · rw [e1]
        exact led_ok ok hok hdl
      · rw [e1]
        exact hyt
    · rintro σ H2 ⟨rfl, y, o4, rfl, hok, hy⟩
      rw [nVs_len, List.take_length] at hy
      exact ⟨_, rfl, k y H2 s1 (hy.same (more_old g))⟩
end
end P52

namespace P52
open PySem PySem.Spec PyProof.Rows L2 HG
section
variable {P : Program} {w : World} {K : PySem.W.Frag} {mg : Str → Option Value} {base : Heap}
theorem scNm : FnScope ["bag", "many", "words", "letters", "way", "turn", "base", "at", "found", "k", "word"] ["bag", "many"] (defScope sNames) := ⟨rfl, rfl, rfl, by decide +kernel, rfl, by decide +kernel, by decide +kernel⟩
abbrev lets : Str := Str.ofString "abcdefghijklmnopqrstuvwxyz"
theorem lets_at {r : Int} (h0 : 0 ≤ r) (h1 : r < 26) : atI lets.cps.toList r = some (97 + r.toNat) := by
  have h : ∀ i : Nat, i < 26 → lets.cps.toList[i]? = some (97 + i) := by decide +kernel
  exact atI_int h0 (h _ (by omega))
theorem ok_names {f fT : Addr} {fd fdT : FuncData} (F : Fun K "_law_names" "_law_names" sNames f fd) (FT : Fun K "_law_take" "_law_take" sTake fT fdT) (bT : Binds K fdT ["bag", "many"] []) (gT : mg "_law_take" = some (.ref fT)) (ml : mg "len" = none) (mr : mg "range" = none) : FnOk P w K mg base CX0 2 f fd ["bag", "many"] spNames := by
  have GT : FnOk P w K mg base CX0 1 fT fdT ["bag", "many"] spTake2 := ok_take2 FT ml
  refine F.ok scNm (fun vs H Q E h => ?_) (fun cdv A outer s H vs Q E hr h => ?_)
  · obtain ⟨p, m, rfl, _⟩ := h
    rfl
  · obtain ⟨p, m, rfl, hB, hm1, hm6, k⟩ := h
    refine ⟨_, (pss_cons (ps_set (i := 2) scNm.nd rfl (.inl rfl) (pe_lst (pa_cons pe_str (pa_cons pe_str (pa_cons pe_str (pa_cons pe_str (pa_cons pe_str (pa_cons pe_str (pa_cons pe_str (pa_cons pe_str (pa_cons pe_str (pa_cons pe_str (pa_cons pe_str (pa_cons pe_str (pa_cons pe_str pa_nil)))))))))))))))
      (pss_cons (ps_set (i := 3) scNm.nd rfl (.inl rfl) pe_str)
      (Evl.pss_cut (ps_set (i := 4) scNm.nd rfl (.inl rfl) (pe_call (sp := spTake2) (k := 1) (CX := CX0) (E := E0) (dvs := []) (ds := []) GT hr (by rfl) gT FT.kp bT .nil pass0 (pa_cons (pv 0) (pa_cons pe_int pa_nil))))
      (Evl.pss_cut (ps_set (i := 5) scNm.nd rfl (.inl rfl) (pe_call (sp := spTake2) (k := 1) (CX := CX0) (E := E0) (dvs := []) (ds := []) GT hr (by rfl) gT FT.kp bT .nil pass0 (pa_cons (pv 0) (pa_cons pe_int pa_nil))))
      (Evl.pss_cut (ps_set (i := 6) scNm.nd rfl (.inl rfl) (pe_op op_mulS (pe_ix ix_str (pv 3) (pe_call (sp := spTake2) (k := 1) (CX := CX0) (E := E0) (dvs := []) (ds := []) GT hr (by rfl) gT FT.kp bT .nil pass0 (pa_cons (pv 0) (pa_cons pe_int pa_nil))) (fun _ _ => rfl)) (pe_op op_add pe_int (pe_call (sp := spTake2) (k := 1) (CX := CX0) (E := E0) (dvs := []) (ds := []) GT hr (by rfl) gT FT.kp bT .nil pass0 (pa_cons (pv 0) (pa_cons pe_int pa_nil))))))
      (Evl.pss_cut (ps_set (i := 7) scNm.nd rfl (.inl rfl) (pe_call (sp := spTake2) (k := 1) (CX := CX0) (E := E0) (dvs := []) (ds := []) GT hr (by rfl) gT FT.kp bT .nil pass0 (pa_cons (pv 0) (pa_cons (pe_callB call_len_str (by rfl) ml PySem.boot_len (pa_cons (pv 6) pa_nil)) pa_nil))))
      (pss_cons (ps_if (pt_cmpR op_eq (pv 4) pe_int (nomark _))
         (pss_one (ps_ret (pe_slice sl_list (pe_op op_cat (pe_slice sl_list (pv 2) (po_some (pe_op op_mod (pv 5) pe_int)) po_none) (pe_slice sl_list (pv 2) po_none (po_some (pe_op op_mod (pv 5) pe_int)))) po_none (po_some (pv 1)))))
         pss_nil)
      (pss_cons (ps_set (i := 8) scNm.nd rfl (.inl rfl) (pe_lst pa_nil))
      (pss_cons (ps_for PassesOwn.never rfl (pi_range1 rfl mr (pa_cons (pv 1) pa_nil)) (pg_name (i := 9) scNm.nd rfl (.inl rfl))
         (pss_cons (ps_set (i := 10) scNm.nd rfl (.inl rfl) (pe_op op_add_str (pe_op op_add_str (pe_slice sl_str (pv 6) po_none (po_some (pv 7))) (pe_ix ix_str (pv 3) (pe_op op_mod (pe_op op_add (pv 5) (pv 9)) pe_int) (fun _ _ => rfl))) (pe_slice sl_str (pv 6) (po_some (pe_op op_add (pv 7) pe_int)) po_none)))
         (pss_one (ps_expr (pe_bm PySem.F.plainAttrs_list PySem.F.slot_list_append PySem.F.type_list_append mt_append (pv 8) (pa_cons (pe_op op_add_str (pv 10) (pe_op op_mulS pe_str (pe_op op_mod (pv 9) pe_int))) pa_nil))))))
      (pss_one (ps_ret (pv 8)))))))))))), ?_⟩
    refine ⟨by show 13 ≤ sizeLine; decide, fun W nW => ?_⟩
    have nWp : W ≠ p := hB.ne_new nW
    have st0 : Stp p H (upd H W (.lst (words13.map V.str))) := .same hB (same_upd nW)
    refine ⟨fun σ H' => Stp p H H' ∧ H' W = some (.lst (words13.map V.str)) ∧ ∃ r : Int, σ = [some (.ref p), some (.int (m : Int)), some (.ref W), some (.str lets), some (.int r), none, none, none, none, none, none], ?_, ?_⟩
    · refine ⟨_, rfl, p, 4, rfl, st0.bag, by decide, by decide, fun r xs r0 r1 hB1 hk1 => ?_⟩
      exact ⟨st0.trans (.take hB1 hk1), by rw [upd_ne nWp]; exact upd_same, r, rfl⟩
    rintro σ H1 ⟨st1, hW1, way, rfl⟩
    refine ⟨fun σ H' => Stp p H H' ∧ H' W = some (.lst (words13.map V.str)) ∧ ∃ t : Nat, t < 26 ∧ σ = [some (.ref p), some (.int (m : Int)), some (.ref W), some (.str lets), some (.int way), some (.int (t : Int)), none, none, none, none, none], ?_, ?_⟩
    · refine ⟨_, rfl, p, 26, rfl, st1.bag, by decide, by decide, fun r xs r0 r1 hB1 hk1 => ?_⟩
      refine ⟨st1.trans (.take hB1 hk1), by rw [upd_ne nWp]; exact hW1, r.toNat, by omega, ?_⟩
      rw [Int.toNat_of_nonneg r0]
      rfl
    clear st1 hW1 H1
    rintro σ H1 ⟨st1, hW1, t, ht, rfl⟩
    refine ⟨fun σ H' => Stp p H H' ∧ H' W = some (.lst (words13.map V.str)) ∧ ∃ (z : Str) (n c : Nat), z.cps.toList = List.replicate n c ∧ 1 ≤ n ∧ n ≤ 7 ∧ 97 ≤ c ∧ c ≤ 122 ∧ σ = [some (.ref p), some (.int (m : Int)), some (.ref W), some (.str lets), some (.int way), some (.int (t : Int)), some (.str z), none, none, none, none], ?_, ?_⟩
    · refine ⟨_, rfl, _, rfl, p, 26, rfl, st1.bag, by decide, by decide, fun r xs r0 r1 hB1 hk1 => ?_⟩
      have st2 := st1.trans (.take hB1 hk1)
      refine ⟨_, r, _, rfl, rfl, by decide +kernel, lets_at r0 r1, ?_⟩
      refine ⟨_, rfl, p, 7, rfl, st2.bag, by decide, by decide, fun r2 xs2 r20 r21 hB2 hk2 => ?_⟩
      have st3 := st2.trans (.take hB2 hk2)
      obtain ⟨n, rfl⟩ := Int.eq_ofNat_of_zero_le r20
      have ms := mul_small (z := ⟨#[97 + r.toNat]⟩) (n := 1 + n) (by show 1 ≤ 100; decide) (by omega)
      have e1 : ((1 + n : Nat) : Int) = 1 + (n : Int) := by omega
      rw [e1] at ms
      refine ⟨_, _, rfl, rfl, _, _, rfl, rfl, ms.1, st3, ?_, _, 1 + n, 97 + r.toNat, ?_, by omega, by omega, by omega, by omega, rfl⟩
      · rw [upd_ne nWp, upd_ne nWp]
        exact hW1
      · rw [ms.2]
        exact List.flatten_replicate_singleton
    clear st1 hW1 H1
    rintro σ H1 ⟨st1, hW1, z, n, c, hz, hn1, hn7, hc1, hc2, rfl⟩
    have hzl : z.length = n := by rw [← str_len, hz, List.length_replicate]
    refine ⟨fun σ H' => Stp p H H' ∧ H' W = some (.lst (words13.map V.str)) ∧ ∃ a : Nat, a < n ∧ σ = [some (.ref p), some (.int (m : Int)), some (.ref W), some (.str lets), some (.int way), some (.int (t : Int)), some (.str z), some (.int (a : Int)), none, none, none], ?_, ?_⟩
    · refine ⟨_, rfl, _, rfl, z, rfl, Nat.le_of_lt (small1000 (show z.length ≤ 1000 by omega)), p, (z.length : Int), rfl, st1.bag, by omega, ?_, fun r xs r0 r1 hB1 hk1 => ?_⟩
      · have : 7 < 2 ^ 1000 := by decide +kernel
        omega
      refine ⟨st1.trans (.take hB1 hk1), by rw [upd_ne nWp]; exact hW1, r.toNat, by omega, ?_⟩
      rw [Int.toNat_of_nonneg r0]
      rfl
    clear st1 hW1 H1
    rintro σ H1 ⟨st1, hW1, a, ha, rfl⟩
    have hm13 : ((t : Int) % 13) = ((t % 13 : Nat) : Int) := by omega
    refine ⟨_, rfl, rfl, _, rfl, ite2 (fun _ => ?_) (fun _ => ?_)⟩
    · refine ⟨_, rfl, _, rfl, _, _, rfl, rfl, (by show (0 : Int) < 13; decide), _, rfl, W, _, rfl, .of hW1, fun q1 nq1 => ?_⟩
      have nWq1 : W ≠ q1 := ne_of_none hW1 nq1
      refine ⟨_, rfl, _, rfl, _, _, rfl, rfl, (by show (0 : Int) < 13; decide), _, rfl, W, _, rfl, .of (by rw [upd_ne nWq1]; exact hW1), fun q2 nq2 => ?_⟩
      have n12 : q1 ≠ q2 := ne_of_none upd_same nq2
      refine ⟨_, _, _, _, rfl, rfl, by rw [upd_ne n12, upd_same], upd_same, ?_, fun q3 nq3 => ?_⟩
      · have l1 : (cutV (words13.map V.str) (some ((t : Int) % 13)) none).length ≤ 13 := by
          rw [hm13, cutV_drop, List.length_drop, List.length_map]
          exact Nat.sub_le _ _
        have l2 : (cutV (words13.map V.str) none (some ((t : Int) % 13))).length ≤ 13 := by
          rw [hm13, cutV_take, List.length_take, List.length_map]
          exact Nat.min_le_right _ _
        have hsL : 1000 < sizeLine := by decide
        omega
      have n23 : q2 ≠ q3 := ne_of_none upd_same nq3
      refine ⟨_, rfl, _, rfl, q3, _, rfl, .of upd_same, fun q4 nq4 => ?_⟩
      have st2 := (((st1.new (o := .lst (cutV (words13.map V.str) (some ((t : Int) % 13)) none)) nq1).new (o := .lst (cutV (words13.map V.str) none (some ((t : Int) % 13)))) nq2).new (o := .lst (cutV (words13.map V.str) (some ((t : Int) % 13)) none ++ cutV (words13.map V.str) none (some ((t : Int) % 13)))) nq3)
      refine k q4 _ ((words13.drop (t % 13) ++ words13.take (t % 13)).take m) (st2.new nq4) (st2.free nq4) (BagOff.off (.of st2.bag nq4)) ?_ ?_ (turned_nodup words13_ok.1 _ _) ?_
      · rw [upd_same, cutV_take, hm13, cutV_drop, cutV_take, List.map_take, List.map_append, List.map_drop, List.map_take]
      · have l0 : words13.length = 13 := rfl
        rw [List.length_take, List.length_append, List.length_drop, List.length_take, l0]
        omega
      · intro x hx
        have hx := List.mem_of_mem_take hx
        have hx : x ∈ words13 := by
          rcases List.mem_append.mp hx with hx | hx
          · exact List.mem_of_mem_drop hx
          · exact List.mem_of_mem_take hx
        have := words13_ok.2 x hx
        exact ⟨this.2.1, this.1, this.2.2⟩
    · refine ⟨Nat.zero_le _, fun D nD => ?_⟩
      have nDp : D ≠ p := st1.bag.ne_new nD
      have nDH : H D = none := st1.free nD
      have st2 : Stp p H (upd H1 D (.lst [])) := st1.new nD
      refine ⟨_, rfl, (m : Int), rfl, by omega, by omega, ?_⟩
      rw [Int.toNat_natCast]
      refine for_range (fun i σ H' => Stp p H H' ∧ BagOff H' p D ∧ H' D = some (.lst (((List.range i).map (wdS (List.replicate n c) a t)).map V.str)) ∧ ∃ o9 o10, σ = [some (.ref p), some (.int (m : Int)), some (.ref W), some (.str lets), some (.int way), some (.int (t : Int)), some (.str z), some (.int (a : Int)), some (.ref D), o9, o10]) ⟨st2, BagOff.off (.of st1.bag nD), upd_same, none, none, rfl⟩ ?_ ?_
      · rintro i σ H2 hi ⟨st3, b3, hD, o9, o10, rfl⟩
        have hid : (0 : Int) + (i : Int) = (i : Int) := by omega
        refine ⟨_, rfl, _, rfl, _, rfl, z, rfl, Nat.le_of_lt (small1000 (show z.length ≤ 1000 by omega)), _, rfl, _, rfl, _, rfl, ?_⟩
        have htk : ((t : Int) + (0 + (i : Int))) % 26 = (((t + i) % 26 : Nat) : Int) := by omega
        have hl1 : (cutS z none (some (a : Int))).cps.toList = z.cps.toList.take a := cutS_take z a
        have hl2 : (cutS z (some ((a : Int) + 1)) none).cps.toList = z.cps.toList.drop (a + 1) := cutS_drop z (a + 1)
        have hs1 : (cutS z none (some (a : Int))).length ≤ 7 := Nat.le_trans (cutS_length _ _ _) (by omega)
        have hs2 : (cutS z (some ((a : Int) + 1)) none).length ≤ 7 := Nat.le_trans (cutS_length _ _ _) (by omega)
        refine ⟨_, _, rfl, rfl, _, _, rfl, rfl, (by show (0 : Int) < 26; decide), lets, _, 97 + ((t + i) % 26), rfl, rfl, by decide +kernel, ?_, ?_⟩
        · show atI lets.cps.toList (((t : Int) + (0 + (i : Int))) % 26) = _
          rw [htk]
          exact lets_at (by omega) (by omega)
        have hsL : 1000 < sizeLine := by decide
        refine ⟨_, _, rfl, rfl, by show _ + 1 ≤ _; omega, ?_⟩
        refine ⟨_, rfl, _, rfl, _, _, rfl, rfl, _, rfl, z, rfl, by omega, ?_⟩
        have hs3 : (cutS z none (some (a : Int)) ++ (⟨#[97 + (t + i) % 26]⟩ : Str)).length ≤ 8 := by
          rw [← str_len, str_app, List.length_append, str_len]
          show _ + 1 ≤ 8
          omega
        refine ⟨_, _, rfl, rfl, by omega, ?_⟩
        have hi2 : ((0 : Int) + (i : Int)) % 2 = ((i % 2 : Nat) : Int) := by omega
        have ms := mul_small (z := Str.ofString "z") (n := i % 2) (by decide +kernel) (by omega)
        have hs4 : (Txt.mul (Str.ofString "z") (((0 : Int) + (i : Int)) % 2)).cps.toList = List.replicate (i % 2) 122 := by
          rw [hi2, ms.2, show (Str.ofString "z").cps.toList = [122] by decide +kernel]
          exact List.flatten_replicate_singleton
        have hs5 : (Txt.mul (Str.ofString "z") (((0 : Int) + (i : Int)) % 2)).length ≤ 1 := by
          rw [← str_len, hs4, List.length_replicate]
          omega
        have hs6 : ((cutS z none (some (a : Int)) ++ (⟨#[97 + (t + i) % 26]⟩ : Str)) ++ cutS z (some ((a : Int) + 1)) none).length ≤ 15 := by
          rw [← str_len, str_app, List.length_append, str_len, str_len]
          omega
        refine ⟨_, rfl, .inl ⟨rfl, _, .of hD⟩, _, rfl, _, rfl, _, _, rfl, rfl, (by show (0 : Int) < 2; decide), _, _, rfl, rfl, ?_, _, _, rfl, rfl, by omega, D, _, _, rfl, rfl, hD, ?_, ?_⟩
        · show MulOk _ (((0 : Int) + (i : Int)) % 2)
          rw [hi2]
          exact ms.1
        · rw [List.length_map, List.length_map, List.length_range]
          exact small1000 (by omega)
        · refine ⟨st3.put nDH b3, b3.off, ?_, _, _, rfl⟩
          rw [upd_same, List.range_succ, List.map_append, List.map_append]
          refine congrArg (fun x : Str => some (HO.lst (_ ++ [V.str x]))) (str_ext ?_)
          rw [str_app, str_app, str_app, hl1, hl2, hs4, wdS_list, hz]
          rfl
      · rintro σ H2 ⟨st3, b3, hD, o9, o10, rfl⟩
        have hrl : (List.replicate n c).length = n := List.length_replicate
        refine ⟨_, rfl, k D H2 _ st3 nDH b3 hD ?_ (wds_nodup (by omega) hm6) ?_⟩
        · rw [List.length_map, List.length_range]
        · intro x hx
          obtain ⟨j, _, rfl⟩ := List.mem_map.mp hx
          exact wdS_good (by omega) (by omega) fun d hd => by
            have := List.eq_of_mem_replicate hd
            omega
theorem scTb : FnScope ["bag", "notes", "way", "one", "kept", "turned", "some", "k"] ["bag", "notes"] (defScope sTable) := ⟨rfl, rfl, rfl, by decide +kernel, rfl, by decide +kernel, by decide +kernel⟩
theorem ok_table {f fT : Addr} {fd fdT : FuncData} (F : Fun K "_law_table" "_law_table" sTable f fd) (FT : Fun K "_law_take" "_law_take" sTake fT fdT) (bT : Binds K fdT ["bag", "many"] []) (gT : mg "_law_take" = some (.ref fT)) (ml : mg "len" = none) (mr : mg "range" = none) (mL : mg "list" = none) (mT : mg "tuple" = none) : FnOk P w K mg base CX0 2 f fd ["bag", "notes"] spTable := by
  have GT : FnOk P w K mg base CX0 1 fT fdT ["bag", "many"] spTake2 := ok_take2 FT ml
  refine F.ok scTb (fun vs H Q E h => ?_) (fun cdv A outer s H vs Q E hr h => ?_)
  · obtain ⟨p, m, rfl, _⟩ := h
    rfl
  · obtain ⟨p, n, rfl, hB, hn2, hn5, k⟩ := h
    refine ⟨_, (Evl.pss_cut (ps_set (i := 2) scTb.nd rfl (.inl rfl) (pe_call (sp := spTake2) (k := 1) (CX := CX0) (E := E0) (dvs := []) (ds := []) GT hr (by rfl) gT FT.kp bT .nil pass0 (pa_cons (pv 0) (pa_cons pe_int pa_nil))))
      (Evl.pss_cut (ps_set (i := 3) scTb.nd rfl (.inl rfl) (pe_call (sp := spTake2) (k := 1) (CX := CX0) (E := E0) (dvs := []) (ds := []) GT hr (by rfl) gT FT.kp bT .nil pass0 (pa_cons (pv 0) (pa_cons (pv 1) pa_nil))))
      (Evl.pss_cut (ps_set (i := 4) scTb.nd rfl (.inl rfl) (pe_listRg rfl (by rfl) mL (prg_1 (by rfl) mr (pv 1))))
      (Evl.pss_cut (ps_set (i := 5) scTb.nd rfl (.inl rfl) (pe_op op_cat (pe_op op_cat (pe_slice sl_list (pv 4) (po_some pe_int) (po_some pe_int)) (pe_slice sl_list (pv 4) po_none (po_some pe_int))) (pe_slice sl_list (pv 4) (po_some pe_int) po_none)))
      (Evl.pss_cut (ps_setLc (i := 6) (own := [("k", 7)]) (g := gName 7) (tt := tYes) rfl scTb.nd rfl rfl (sw_true rfl rfl rfl (by decide +kernel)) (pi_range1 rfl mr (pa_cons (pv 1) pa_nil)) (blkOk_by (N := ["bag", "notes", "way", "one", "kept", "turned", "some", "k"]) (sc := defScope sTable) (by decide +kernel)) (fun _ _ _ _ _ => (pg_name (i := 7) scTb.nd rfl (.inl rfl))) (fun _ _ _ _ _ => pts_nil) (fun _ _ _ _ _ => (pe_call (sp := spTake2) (k := 1) (CX := CX0) (E := E0) (dvs := []) (ds := []) GT hr (by rfl) gT FT.kp bT .nil pass0 (pa_cons (pv 0) (pa_cons (pv 1) pa_nil)))))
      (pss_one (ps_ret (pe_tupleOf (by rfl) mT (pe_ix ix_list (pe_lst (pa_cons (pv 4) (pa_cons (pe_op op_cat (pe_slice sl_list (pv 4) (po_some pe_int) po_none) (pe_slice sl_list (pv 4) po_none (po_some pe_int))) (pa_cons (pv 5) (pa_cons (pe_op op_rep (pe_lst (pa_cons (pv 3) pa_nil)) (pv 1)) (pa_cons (pv 6) (pa_cons (pv 6) pa_nil))))))) (pv 2) (fun _ _ => rfl)))))))))), ?_⟩
    have hn1000 : (n : Int).natAbs < 2 ^ 1000 := by
      have : 5 < 2 ^ 1000 := by decide +kernel
      omega
    obtain ⟨tk1, tk2, tk3, ecut⟩ := tabs_ok n hn2 hn5
    refine ⟨fun σ H' => Stp p H H' ∧ ∃ w : Nat, w < 6 ∧ σ = [some (.ref p), some (.int (n : Int)), some (.int (w : Int)), none, none, none, none, none], ?_, ?_⟩
    · refine ⟨_, rfl, p, 6, rfl, hB, by decide, by decide, fun r xs r0 r1 hB1 hk1 => ?_⟩
      refine ⟨.take hB1 hk1, r.toNat, by omega, ?_⟩
      rw [Int.toNat_of_nonneg r0]
      rfl
    rintro σ H1 ⟨st1, wy, hwy, rfl⟩
    refine ⟨fun σ H' => Stp p H H' ∧ ∃ o : Nat, o < n ∧ σ = [some (.ref p), some (.int (n : Int)), some (.int (wy : Int)), some (.int (o : Int)), none, none, none, none], ?_, ?_⟩
    · refine ⟨_, rfl, _, rfl, p, (n : Int), rfl, st1.bag, by omega, hn1000, fun r xs r0 r1 hB1 hk1 => ?_⟩
      refine ⟨st1.trans (.take hB1 hk1), r.toNat, by omega, ?_⟩
      rw [Int.toNat_of_nonneg r0]
      rfl
    clear st1 H1
    rintro σ H1 ⟨st1, o, ho, rfl⟩
    refine ⟨fun σ H' => Stp p H H' ∧ ∃ kp : Addr, H' kp = some (.lst (nVs (List.range n))) ∧ kp ≠ p ∧ σ = [some (.ref p), some (.int (n : Int)), some (.int (wy : Int)), some (.int (o : Int)), some (.ref kp), none, none, none], ?_, ?_⟩
    · refine ⟨_, rfl, (n : Int), rfl, ⟨by omega, by omega, by omega, by omega, by omega⟩, fun q nq => ?_⟩
      refine ⟨st1.new nq, q, ?_, st1.bag.ne_new nq, rfl⟩
      rw [upd_same, rgV_nat]
    clear st1 H1
    rintro σ H1 ⟨st1, kp, hkp, nkp, rfl⟩
    refine ⟨fun σ H' => Stp p H H' ∧ H' kp = some (.lst (nVs (List.range n))) ∧ ∃ tr : Addr, H' tr = some (.lst (nVs (turnedL n))) ∧ tr ≠ p ∧ σ = [some (.ref p), some (.int (n : Int)), some (.int (wy : Int)), some (.int (o : Int)), some (.ref kp), some (.ref tr), none, none], ?_, ?_⟩
    · refine ⟨_, rfl, 1, rfl, 2, rfl, kp, _, rfl, .of hkp, fun q1 nq1 => ?_⟩
      have n1 : kp ≠ q1 := ne_of_none hkp nq1
      refine ⟨_, rfl, 1, rfl, kp, _, rfl, .of (by rw [upd_ne n1]; exact hkp), fun q2 nq2 => ?_⟩
      have n2 : kp ≠ q2 := ne_of_none (by rw [upd_ne n1]; exact hkp) nq2
      have n12 : q1 ≠ q2 := ne_of_none upd_same nq2
      rw [ecut] at *
      have ec2 : cutV (nVs (List.range n)) none (some 1) = nVs ((List.range n).take 1) := by
        rw [show (some (1 : Int)) = some ((1 : Nat) : Int) from rfl, cutV_take]
        unfold nVs
        rw [List.map_take]
      have ec3 : cutV (nVs (List.range n)) (some 2) none = nVs ((List.range n).drop 2) := by
        rw [show (some (2 : Int)) = some ((2 : Nat) : Int) from rfl, cutV_drop]
        unfold nVs
        rw [List.map_drop]
      rw [ec2] at *
      have hsL : 1000 < sizeLine := by decide
      have hlr : (List.range n).length = n := List.length_range
      refine ⟨_, _, _, _, rfl, rfl, by rw [upd_ne n12, upd_same], upd_same, ?_, fun q3 nq3 => ?_⟩
      · rw [nVs_len, nVs_len, List.length_take, List.length_take, List.length_drop]
        omega
      rw [← nVs_app] at *
      have n3 : kp ≠ q3 := ne_of_none (by rw [upd_ne n2, upd_ne n1]; exact hkp) nq3
      refine ⟨_, rfl, 2, rfl, kp, _, rfl, .of (by rw [upd_ne n3, upd_ne n2, upd_ne n1]; exact hkp), fun q4 nq4 => ?_⟩
      have n4 : kp ≠ q4 := ne_of_none (by rw [upd_ne n3, upd_ne n2, upd_ne n1]; exact hkp) nq4
      have n34 : q3 ≠ q4 := ne_of_none upd_same nq4
      rw [ec3] at *
      refine ⟨_, _, _, _, rfl, rfl, by rw [upd_ne n34, upd_same], upd_same, ?_, fun q5 nq5 => ?_⟩
      · rw [nVs_len, nVs_len, List.length_append, List.length_take, List.length_take, List.length_drop, List.length_drop]
        omega
      rw [← nVs_app] at *
      have n5 : kp ≠ q5 := ne_of_none (by rw [upd_ne n4, upd_ne n3, upd_ne n2, upd_ne n1]; exact hkp) nq5
      have st2 := (((st1.new nq1).new nq2).new nq3).new (o := .lst (nVs ((List.range n).drop 2))) nq4
      exact ⟨st2.new nq5, by rw [upd_ne n5, upd_ne n4, upd_ne n3, upd_ne n2, upd_ne n1]; exact hkp, q5, upd_same, st2.bag.ne_new nq5, rfl⟩
    clear st1 hkp H1
    rintro σ H1 ⟨st1, hkp, tr, htr, ntr, rfl⟩
    refine ⟨fun σ H' => Stp p H H' ∧ H' kp = some (.lst (nVs (List.range n))) ∧ H' tr = some (.lst (nVs (turnedL n))) ∧ ∃ (sm : Addr) (t : List Nat), H' sm = some (.lst (nVs t)) ∧ TabOk n t ∧ σ = [some (.ref p), some (.int (n : Int)), some (.int (wy : Int)), some (.int (o : Int)), some (.ref kp), some (.ref tr), some (.ref sm), none], ?_, ?_⟩
    · refine ⟨_, rfl, (n : Int), rfl, by omega, by omega, fun D nD => ?_⟩
      rw [Int.toNat_natCast]
      have nDp : D ≠ p := st1.bag.ne_new nD
      have nDH : H D = none := st1.free nD
      have nkD : kp ≠ D := ne_of_none hkp nD
      have ntD : tr ≠ D := ne_of_none htr nD
      refine lc_range (lo := 0) (n := n) (fun j H' => Stp p H H' ∧ BagOff H' p D ∧ H' kp = some (.lst (nVs (List.range n))) ∧ H' tr = some (.lst (nVs (turnedL n))) ∧ ∃ t : List Nat, H' D = some (.lst (nVs t)) ∧ t.length = j ∧ ∀ d ∈ t, d < n) ?_ ?_ ?_
      · exact ⟨st1.new nD, BagOff.off (.of st1.bag nD), by rw [upd_ne nkD]; exact hkp, by rw [upd_ne ntD]; exact htr, [], upd_same, rfl, fun d hd => nomatch hd⟩
      · rintro j H5 hj ⟨st5, hoff, hk5, ht5, t, hD, hlen, hlt⟩
        refine ⟨rfl, _, rfl, _, rfl, p, (n : Int), rfl, st5.bag, by omega, hn1000, fun r xs r0 r1 hB6 hk6 => ?_⟩
        have st6 := st5.trans (.take hB6 hk6)
        have hoff6 := hk6 D hoff
        obtain ⟨d, rfl⟩ := Int.eq_ofNat_of_zero_le r0
        refine ⟨_, (by rw [upd_ne nDp]; exact hD), ?_, st6.put nDH hoff6, hoff6.off, by rw [upd_ne nkD, upd_ne nkp]; exact hk5, by rw [upd_ne ntD, upd_ne ntr]; exact ht5, t ++ [d], ?_, ?_, ?_⟩
        · rw [nVs_len]
          exact small1000 (by omega)
        · rw [upd_same, nVs_app]
          rfl
        · rw [List.length_append, hlen]
          rfl
        · intro e he
          rcases List.mem_append.mp he with he | he
          · exact hlt e he
          · rw [List.mem_singleton] at he
            omega
      · rintro H5 ⟨st5, hoff, hk5, ht5, t, hD, hlen, hlt⟩
        exact ⟨st5, hk5, ht5, D, t, hD, ⟨hlen, hlt⟩, rfl⟩
    clear st1 hkp htr H1
    rintro σ H1 ⟨st1, hkp, htr, sm, t, hsm, tko, rfl⟩
    have ec1 : cutV (nVs (List.range n)) (some 1) none = nVs ((List.range n).drop 1) := by
      rw [show (some (1 : Int)) = some ((1 : Nat) : Int) from rfl, cutV_drop]
      unfold nVs
      rw [List.map_drop]
    have ec2 : cutV (nVs (List.range n)) none (some 1) = nVs ((List.range n).take 1) := by
      rw [show (some (1 : Int)) = some ((1 : Nat) : Int) from rfl, cutV_take]
      unfold nVs
      rw [List.map_take]
    have hsL : 1000 < sizeLine := by decide
    have hlr : (List.range n).length = n := List.length_range
    refine ⟨_, rfl, _, rfl, 1, rfl, kp, _, rfl, .of hkp, fun q1 nq1 => ?_⟩
    rw [ec1] at *
    have s_q1 := same_upd (o := HO.lst (nVs ((List.range n).drop 1))) nq1
    have hkp := s_q1 _ _ hkp
    have htr := s_q1 _ _ htr
    have hsm := s_q1 _ _ hsm
    have hq1 : (upd H1 q1 (HO.lst (nVs ((List.range n).drop 1)))) q1 = some (HO.lst (nVs ((List.range n).drop 1))) := upd_same
    have st1 := st1.new (o := HO.lst (nVs ((List.range n).drop 1))) nq1
    clear s_q1
    generalize upd H1 q1 (HO.lst (nVs ((List.range n).drop 1))) = HA at *
    refine ⟨_, rfl, 1, rfl, kp, _, rfl, .of hkp, fun q2 nq2 => ?_⟩
    rw [ec2] at *
    have s_q2 := same_upd (o := HO.lst (nVs ((List.range n).take 1))) nq2
    have hkp := s_q2 _ _ hkp
    have htr := s_q2 _ _ htr
    have hsm := s_q2 _ _ hsm
    have hq1 := s_q2 _ _ hq1
    have hq2 : (upd HA q2 (HO.lst (nVs ((List.range n).take 1)))) q2 = some (HO.lst (nVs ((List.range n).take 1))) := upd_same
    have st1 := st1.new (o := HO.lst (nVs ((List.range n).take 1))) nq2
    clear s_q2
    generalize upd HA q2 (HO.lst (nVs ((List.range n).take 1))) = HB at *
    refine ⟨_, _, _, _, rfl, rfl, hq1, hq2, ?_, fun q3 nq3 => ?_⟩
    · rw [nVs_len, nVs_len, List.length_take, List.length_drop]
      omega
    rw [← nVs_app] at *
    have s_q3 := same_upd (o := HO.lst (nVs ((List.range n).drop 1 ++ (List.range n).take 1))) nq3
    have hkp := s_q3 _ _ hkp
    have htr := s_q3 _ _ htr
    have hsm := s_q3 _ _ hsm
    have hq3 : (upd HB q3 (HO.lst (nVs ((List.range n).drop 1 ++ (List.range n).take 1)))) q3 = some (HO.lst (nVs ((List.range n).drop 1 ++ (List.range n).take 1))) := upd_same
    have st1 := st1.new (o := HO.lst (nVs ((List.range n).drop 1 ++ (List.range n).take 1))) nq3
    clear s_q3
    generalize upd HB q3 (HO.lst (nVs ((List.range n).drop 1 ++ (List.range n).take 1))) = HC at *
    refine ⟨_, rfl, _, rfl, by show 1 ≤ sizeLine; decide, fun q4 nq4 => ?_⟩
    have s_q4 := same_upd (o := HO.lst [V.int (o : Int)]) nq4
    have hkp := s_q4 _ _ hkp
    have htr := s_q4 _ _ htr
    have hsm := s_q4 _ _ hsm
    have hq3 := s_q4 _ _ hq3
    have hq4 : (upd HC q4 (HO.lst [V.int (o : Int)])) q4 = some (HO.lst [V.int (o : Int)]) := upd_same
    have st1 := st1.new (o := HO.lst [V.int (o : Int)]) nq4
    clear s_q4
    generalize upd HC q4 (HO.lst [V.int (o : Int)]) = HD at *
    refine ⟨_, rfl, _, _, _, rfl, rfl, hq4, by omega, by omega, ?_, fun q5 nq5 => ?_⟩
    · show 1 * ((n : Int)).toNat ≤ sizeLine
      omega
    have erep : (List.replicate ((n : Int)).toNat [V.int (o : Int)]).flatten = nVs (List.replicate n o) := by
      rw [Int.toNat_natCast, List.flatten_replicate_singleton]
      unfold nVs
      rw [List.map_replicate]
    rw [erep] at *
    have s_q5 := same_upd (o := HO.lst (nVs (List.replicate n o))) nq5
    have hkp := s_q5 _ _ hkp
    have htr := s_q5 _ _ htr
    have hsm := s_q5 _ _ hsm
    have hq3 := s_q5 _ _ hq3
    have hq5 : (upd HD q5 (HO.lst (nVs (List.replicate n o)))) q5 = some (HO.lst (nVs (List.replicate n o))) := upd_same
    have st1 := st1.new (o := HO.lst (nVs (List.replicate n o))) nq5
    clear s_q5
    generalize upd HD q5 (HO.lst (nVs (List.replicate n o))) = HE at *
    refine ⟨_, rfl, _, rfl, by show 6 ≤ sizeLine; decide, fun M nM => ?_⟩
    have s_M := same_upd (o := HO.lst [.ref kp, .ref q3, .ref tr, .ref q5, .ref sm, .ref sm]) nM
    have hkp := s_M _ _ hkp
    have htr := s_M _ _ htr
    have hsm := s_M _ _ hsm
    have hq3 := s_M _ _ hq3
    have hq5 := s_M _ _ hq5
    have hM : (upd HE M (HO.lst [.ref kp, .ref q3, .ref tr, .ref q5, .ref sm, .ref sm])) M = some (HO.lst [.ref kp, .ref q3, .ref tr, .ref q5, .ref sm, .ref sm]) := upd_same
    have st1 := st1.new (o := HO.lst [.ref kp, .ref q3, .ref tr, .ref q5, .ref sm, .ref sm]) nM
    clear s_M
    generalize upd HE M (HO.lst [.ref kp, .ref q3, .ref tr, .ref q5, .ref sm, .ref sm]) = HF at *
    obtain ⟨a, tt, hat, hta, hto⟩ : ∃ (a : Addr) (tt : List Nat), atI [V.ref kp, V.ref q3, V.ref tr, V.ref q5, V.ref sm, V.ref sm] (wy : Int) = some (V.ref a) ∧ HF a = some (.lst (nVs tt)) ∧ TabOk n tt := by
      have q : wy = 0 ∨ wy = 1 ∨ wy = 2 ∨ wy = 3 ∨ wy = 4 ∨ wy = 5 := by omega
      rcases q with rfl | rfl | rfl | rfl | rfl | rfl
      · exact ⟨kp, _, rfl, hkp, tk1⟩
      · exact ⟨q3, _, rfl, hq3, tk2⟩
      · exact ⟨tr, _, rfl, htr, tk3⟩
      · exact ⟨q5, _, rfl, hq5, List.length_replicate, fun d hd => by have := List.eq_of_mem_replicate hd; omega⟩
      · exact ⟨sm, _, rfl, hsm, tko⟩
      · exact ⟨sm, _, rfl, hsm, tko⟩
    refine ⟨_, rfl, M, _, (wy : Int), _, rfl, rfl, .of hM, hat, .inl ⟨a, _, rfl, .of hta, fun q nq => ?_⟩⟩
    exact k q _ tt (st1.new nq) (st1.free nq) upd_same hto
end
end P52

namespace P52
open PySem PySem.Spec PyProof.Rows L2 HG
section
variable {P : Program} {w : World} {K : PySem.W.Frag} {mg : Str → Option Value} {base : Heap}
theorem scPa : FnScope ["bag", "limit", "pace", "notes", "room", "size", "many", "names", "voices", "name", "elders", "rest"] ["bag", "limit"] (defScope sParts) := ⟨rfl, rfl, rfl, by decide +kernel, rfl, by decide +kernel, by decide +kernel⟩
theorem dpAll_nats' {K : PySem.W.Frag} {H : Hp} : ∀ t : List Nat, DpAll K H (nVs t) (nDs t)
  | [] => .nil
  | d :: t => .cons (.int (d : Int)) (dpAll_nats' t)
theorem pow1000 {n : Nat} (h : n ≤ 1000) : ((n : Int)).natAbs < 2 ^ 1000 := by
  have : 1000 < 2 ^ 1000 := by decide +kernel
  omega
theorem ok_parts {f fT fN fB : Addr} {fd fdT fdN fdB : FuncData} (F : Fun K "_law_parts" "_law_parts" sParts f fd) (FT : Fun K "_law_take" "_law_take" sTake fT fdT) (bT : Binds K fdT ["bag", "many"] []) (gT : mg "_law_take" = some (.ref fT))
    (FN : Fun K "_law_names" "_law_names" sNames fN fdN) (bN : Binds K fdN ["bag", "many"] []) (gN : mg "_law_names" = some (.ref fN))
    (FB : Fun K "_law_table" "_law_table" sTable fB fdB) (bB : Binds K fdB ["bag", "notes"] []) (gB : mg "_law_table" = some (.ref fB))
    (ml : mg "len" = none) (mr : mg "range" = none) (mL : mg "list" = none) (mT : mg "tuple" = none) (mi : mg "int" = none) (mS : mg "sorted" = none) : FnOk P w K mg base CX0 3 f fd ["bag", "limit"] (spParts K) := by
  have GT : FnOk P w K mg base CX0 1 fT fdT ["bag", "many"] spTake2 := ok_take2 FT ml
  have GN : FnOk P w K mg base CX0 2 fN fdN ["bag", "many"] spNames := ok_names FN FT bT gT ml mr
  have GB : FnOk P w K mg base CX0 2 fB fdB ["bag", "notes"] spTable := ok_table FB FT bT gT ml mr mL mT
  refine F.ok scPa (fun vs H Q E h => ?_) (fun cdv A outer s H vs Q E hr h => ?_)
  · obtain ⟨p, m, rfl, _⟩ := h
    rfl
  · obtain ⟨p, lim, rfl, hB, hl5, hl64, k⟩ := h
    have hr1 : Room 1 _ := hr.mono (by decide)
    refine ⟨_, (Evl.pss_cut (ps_set (i := 2) scPa.nd rfl (.inl rfl) (pe_ix ix_list (pe_lst (pa_cons pe_int (pa_cons pe_int (pa_cons pe_int (pa_cons pe_int pa_nil))))) (pe_call (sp := spTake2) (k := 1) (CX := CX0) (E := E0) (dvs := []) (ds := []) GT hr1 (by rfl) gT FT.kp bT .nil pass0 (pa_cons (pv 0) (pa_cons pe_int pa_nil))) (fun _ _ => rfl)))
      (Evl.pss_cut (ps_set (i := 3) scPa.nd rfl (.inr rfl) (pe_ix ix_list (pe_lst (pa_cons pe_int (pa_cons pe_int (pa_cons pe_int (pa_cons (pe_op op_add pe_int (pe_call (sp := spTake2) (k := 1) (CX := CX0) (E := E0) (dvs := []) (ds := []) GT hr1 (by rfl) gT FT.kp bT .nil pass0 (pa_cons (pv 0) (pa_cons pe_int pa_nil)))) pa_nil))))) (pe_call (sp := spTake2) (k := 1) (CX := CX0) (E := E0) (dvs := []) (ds := []) GT hr1 (by rfl) gT FT.kp bT .nil pass0 (pa_cons (pv 0) (pa_cons pe_int pa_nil))) (fun _ _ => rfl)))
      (pss_cons (ps_par (i := 4) (j := 5) (by rfl) scPa.nd rfl rfl (by decide) rfl rfl (pa_cons pe_int (pa_cons (pv 3) pa_nil)) (by rfl))
      (Evl.pss_cut (ps_while PassesOwn.never (pt_cmpR op_le (pe_op op_mul (pv 5) (pv 3)) (pv 1) (nomark _))
         (pss_one (ps_par (i := 4) (j := 5) (by rfl) scPa.nd rfl rfl (by decide) rfl rfl (pa_cons (pe_op op_add (pv 4) pe_int) (pa_cons (pe_op op_mul (pv 5) (pv 3)) pa_nil)) (by rfl))))
      (Evl.pss_cut (ps_set (i := 6) scPa.nd rfl (.inr rfl) (pe_ix ix_list (pe_lst (pa_cons (pe_op op_add pe_int (pe_call (sp := spTake2) (k := 1) (CX := CX0) (E := E0) (dvs := []) (ds := []) GT hr1 (by rfl) gT FT.kp bT .nil pass0 (pa_cons (pv 0) (pa_cons (pv 4) pa_nil)))) (pa_cons (pv 4) pa_nil))) (pe_callTy call_int1 (by rfl) mi (by decide +kernel) (pa_cons (pe_cmpR op_eq (pe_call (sp := spTake2) (k := 1) (CX := CX0) (E := E0) (dvs := []) (ds := []) GT hr1 (by rfl) gT FT.kp bT .nil pass0 (pa_cons (pv 0) (pa_cons pe_int pa_nil))) pe_int (nomark _)) pa_nil)) (fun _ _ => rfl)))
      (Evl.pss_cut (ps_set (i := 7) scPa.nd rfl (.inr rfl) (pe_callB cr_sortedS (by rfl) mS (by decide +kernel) (pa_cons (pe_call GN hr (by rfl) gN FN.kp bN .nil pass0 (pa_cons (pv 0) (pa_cons (pv 6) pa_nil))) pa_nil)))
      (pss_cons (ps_set (i := 8) scPa.nd rfl (.inl rfl) (pe_lst pa_nil))
      (pss_cons (ps_for PassesOwn.never rfl (pi_list (pv 7)) (pg_name (i := 9) scPa.nd rfl (.inl rfl))
         (pss_cons (ps_set (i := 10) scPa.nd rfl (.inl rfl) (pe_tupleOf (by rfl) mT (pe_lc (own := [("rest", 11)]) (g := gName 11) (tt := tYes) rfl scPa.nd (pi_range1 rfl mr (pa_cons (pv 2) pa_nil)) (blkOk_by (N := ["bag", "limit", "pace", "notes", "room", "size", "many", "names", "voices", "name", "elders", "rest"]) (sc := defScope sParts) (by decide +kernel)) (fun _ _ _ _ _ => (pg_name (i := 11) scPa.nd rfl (.inl rfl))) (fun _ _ _ _ _ => pts_nil) (fun _ _ _ _ _ => (pe_ix (r := rIxL K) ix_list (pv 7) (pe_call (sp := spTake2) (k := 1) (CX := CX0) (E := E0) (dvs := []) (ds := []) GT hr1 (by rfl) gT FT.kp bT .nil pass0 (pa_cons (pv 0) (pa_cons (pv 6) pa_nil))) (fun _ _ => rfl))))))
         (pss_one (ps_expr (pe_bm PySem.F.plainAttrs_list PySem.F.slot_list_append PySem.F.type_list_append mt_append (pv 8) (pa_cons (pe_tup (pa_cons (pv 9) (pa_cons (pv 10) (pa_cons (pe_tupleOf (by rfl) mT (pe_lc (own := [("rest", 11)]) (g := gName 11) (tt := tYes) rfl scPa.nd (pi_range1 rfl mr (pa_cons (pv 2) pa_nil)) (blkOk_by (N := ["bag", "limit", "pace", "notes", "room", "size", "many", "names", "voices", "name", "elders", "rest"]) (sc := defScope sParts) (by decide +kernel)) (fun _ _ _ _ _ => (pg_name (i := 11) scPa.nd rfl (.inl rfl))) (fun _ _ _ _ _ => pts_nil) (fun _ _ _ _ _ => (pe_call (sp := spTable) (k := 2) (CX := CX0) (E := E0) (dvs := []) (ds := []) GB hr (by rfl) gB FB.kp bB .nil pass0 (pa_cons (pv 0) (pa_cons (pv 3) pa_nil)))))) pa_nil)))) pa_nil))))))
      (pss_one (ps_ret (pe_tup (pa_cons (pv 2) (pa_cons (pv 3) (pa_cons (pv 8) pa_nil)))))))))))))), ?_⟩
    refine ⟨fun σ H' => Stp p H H' ∧ ∃ pc : Nat, 2 ≤ pc ∧ pc ≤ 4 ∧ σ = [some (.ref p), some (.int (lim : Int)), some (.int (pc : Int)), none, none, none, none, none, none, none, none, none], ?_, ?_⟩
    · refine ⟨by show 4 ≤ sizeLine; decide, fun M nM => ?_⟩
      have st1 : Stp p H (upd H M (.lst [.int 2, .int 2, .int 3, .int 4])) := .same hB (same_upd nM)
      have nMp := hB.ne_new nM
      refine ⟨_, rfl, p, 4, rfl, st1.bag, by decide, by decide, fun r xs r0 r1 hB1 hk1 => ?_⟩
      have st2 := st1.trans (.take hB1 hk1)
      obtain ⟨pc, hp, h2, h4⟩ : ∃ pc : Nat, atI [V.int 2, V.int 2, V.int 3, V.int 4] r = some (V.int (pc : Int)) ∧ 2 ≤ pc ∧ pc ≤ 4 := by
        have q : r = 0 ∨ r = 1 ∨ r = 2 ∨ r = 3 := by omega
        rcases q with rfl | rfl | rfl | rfl
        · exact ⟨2, rfl, by decide, by decide⟩
        · exact ⟨2, rfl, by decide, by decide⟩
        · exact ⟨3, rfl, by decide, by decide⟩
        · exact ⟨4, rfl, by decide, by decide⟩
      exact ⟨M, _, r, _, rfl, rfl, .of (by rw [upd_ne nMp]; exact upd_same), hp, st2, pc, h2, h4, rfl⟩
    rintro σ H1 ⟨st1, pc, hp2, hp4, rfl⟩
    refine ⟨fun σ H' => Stp p H H' ∧ ∃ n : Nat, 2 ≤ n ∧ n ≤ 5 ∧ σ = [some (.ref p), some (.int (lim : Int)), some (.int (pc : Int)), some (.int (n : Int)), none, none, none, none, none, none, none, none], ?_, ?_⟩
    · refine ⟨_, rfl, p, 4, rfl, st1.bag, by decide, by decide, fun r xs r0 r1 hB1 hk1 => ?_⟩
      have st2 := st1.trans (.take hB1 hk1)
      refine ⟨_, _, rfl, rfl, by show 4 ≤ sizeLine; decide, fun M nM => ?_⟩
      have st3 := st2.new (o := .lst [.int 2, .int 2, .int 3, .int (2 + r)]) nM
      have nMp := st2.bag.ne_new nM
      refine ⟨_, rfl, p, 4, rfl, st3.bag, by decide, by decide, fun r2 xs2 r20 r21 hB2 hk2 => ?_⟩
      have st4 := st3.trans (.take hB2 hk2)
      obtain ⟨n, hp, h2, h4⟩ : ∃ n : Nat, atI [V.int 2, V.int 2, V.int 3, V.int (2 + r)] r2 = some (V.int (n : Int)) ∧ 2 ≤ n ∧ n ≤ 5 := by
        have q : r2 = 0 ∨ r2 = 1 ∨ r2 = 2 ∨ r2 = 3 := by omega
        rcases q with rfl | rfl | rfl | rfl
        · exact ⟨2, rfl, by decide, by decide⟩
        · exact ⟨2, rfl, by decide, by decide⟩
        · exact ⟨3, rfl, by decide, by decide⟩
        · refine ⟨(2 + r).toNat, ?_, by omega, by omega⟩
          rw [Int.toNat_of_nonneg (by omega)]
          rfl
      exact ⟨M, _, r2, _, rfl, rfl, .of (by rw [upd_ne nMp]; exact upd_same), hp, st4, n, h2, h4, rfl⟩
    clear st1 H1
    rintro σ H1 ⟨st1, n, hn2, hn5, rfl⟩
    refine ⟨_, rfl, _, _, rfl, ?_⟩
    refine ⟨fun σ H' => H' = H1 ∧ ∃ ro sz : Nat, 1 ≤ ro ∧ ro ≤ 6 ∧ n ^ ro ≤ lim ∧ σ = [some (.ref p), some (.int (lim : Int)), some (.int (pc : Int)), some (.int (n : Int)), some (.int (ro : Int)), some (.int (sz : Int)), none, none, none, none, none, none], ?_, ?_⟩
    · refine while_by (fun σ H' => H' = H1 ∧ ∃ ro sz : Nat, 1 ≤ ro ∧ sz = n ^ ro ∧ sz ≤ lim ∧ σ = [some (.ref p), some (.int (lim : Int)), some (.int (pc : Int)), some (.int (n : Int)), some (.int (ro : Int)), some (.int (sz : Int)), none, none, none, none, none, none]) (fun σ _ => match σ with | [_, _, _, _, _, some (.int m), _, _, _, _, _, _] => lim - m.toNat | _ => 0) ?_ ?_ (mo_test (mo_op mo_rI0 (mo_op mo_rI mo_var mo_var) mo_var))
      · exact ⟨rfl, 1, n, Nat.le_refl _, (Nat.pow_one n).symm, by omega, rfl⟩
      · rintro σ H2 ⟨rfl, ro, sz, h1, he, hle, rfl⟩
        have hsz0 : 0 < sz := by
          rw [he]
          exact Nat.pow_pos (by omega)
        refine ⟨_, rfl, _, rfl, _, _, rfl, rfl, .inl ⟨by omega, by omega⟩, _, rfl, _, _, rfl, rfl, _, rfl, ite2 (fun c => ?_) (fun c => ?_)⟩
        · have c : (sz : Int) * (n : Int) ≤ (lim : Int) := of_decide_eq_true c
          have hgt : sz * 2 ≤ sz * n := Nat.mul_le_mul_left _ hn2
          have c2 : sz * n ≤ lim := by
            have e : ((sz * n : Nat) : Int) = (sz : Int) * (n : Int) := Int.natCast_mul _ _
            omega
          refine ⟨_, rfl, _, _, rfl, rfl, _, rfl, _, rfl, _, _, rfl, rfl, .inl ⟨by omega, by omega⟩, _, _, rfl, ⟨rfl, ro + 1, sz * n, by omega, ?_, c2, ?_⟩, ?_⟩
          · rw [Nat.pow_succ, ← he]
          · show _ = [some (V.ref p), some (V.int (lim : Int)), some (V.int (pc : Int)), some (V.int (n : Int)), some (V.int ((ro : Int) + 1)), some (V.int ((sz * n : Nat) : Int)), none, none, none, none, none, none]
            rw [Int.natCast_mul]
            rfl
          · show lim - ((sz : Int) * (n : Int)).toNat < lim - ((sz : Int)).toNat
            have e : ((sz * n : Nat) : Int) = (sz : Int) * (n : Int) := Int.natCast_mul _ _
            rw [← e]
            omega
        · refine ⟨rfl, ro, sz, h1, ?_, he ▸ hle, rfl⟩
          have h2 : 2 ^ ro ≤ n ^ ro := Nat.pow_le_pow_left hn2 ro
          have h3 : 2 ^ ro < 2 ^ 7 := by omega
          have := (Nat.pow_lt_pow_iff_right (by decide : 1 < 2)).mp h3
          omega
    rintro σ H2 ⟨rfl, ro, sz, hr1', hr6, hpow, rfl⟩
    refine ⟨fun σ H' => Stp p H H' ∧ ∃ mn : Nat, 1 ≤ mn ∧ mn ≤ ro ∧ σ = [some (.ref p), some (.int (lim : Int)), some (.int (pc : Int)), some (.int (n : Int)), some (.int (ro : Int)), some (.int (sz : Int)), some (.int (mn : Int)), none, none, none, none, none], ?_, ?_⟩
    · refine ⟨_, rfl, _, rfl, p, (ro : Int), rfl, st1.bag, by omega, pow1000 (by omega), fun r xs r0 r1 hB1 hk1 => ?_⟩
      have st2 := st1.trans (.take hB1 hk1)
      refine ⟨_, _, rfl, rfl, _, rfl, by show 2 ≤ sizeLine; decide, fun M nM => ?_⟩
      have st3 := st2.new (o := .lst [.int (1 + r), .int (ro : Int)]) nM
      have nMp := st2.bag.ne_new nM
      refine ⟨_, rfl, p, 4, rfl, st3.bag, by decide, by decide, fun r2 xs2 r20 r21 hB2 hk2 => ?_⟩
      have st4 := st3.trans (.take hB2 hk2)
      refine ⟨rfl, .inr ⟨_, rfl, ?_⟩⟩
      have key : ∀ b : Bool, ∃ mn : Nat, atI [V.int (1 + r), V.int (ro : Int)] (if b = true then 1 else 0) = some (V.int (mn : Int)) ∧ 1 ≤ mn ∧ mn ≤ ro := by
        intro b
        cases b
        · refine ⟨(1 + r).toNat, ?_, by omega, by omega⟩
          rw [Int.toNat_of_nonneg (by omega)]
          rfl
        · exact ⟨ro, rfl, hr1', Nat.le_refl _⟩
      obtain ⟨mn, hat, hm1, hm2⟩ := key (decide (V.int r2 = V.int 0))
      exact ⟨M, _, _, _, rfl, rfl, .of (by rw [upd_ne nMp]; exact upd_same), hat, st4, mn, hm1, hm2, rfl⟩
    clear st1
    rintro σ H3 ⟨st1, mn, hm1, hm2, rfl⟩
    refine ⟨fun σ H' => Stp p H H' ∧ ∃ (nm : Addr) (ys : List Str), H' nm = some (.lst (ys.map V.str)) ∧ nm ≠ p ∧ ys.length = mn ∧ ys.Nodup ∧ sortedS ys = true ∧ (∀ z ∈ ys, GoodN z) ∧ σ = [some (.ref p), some (.int (lim : Int)), some (.int (pc : Int)), some (.int (n : Int)), some (.int (ro : Int)), some (.int (sz : Int)), some (.int (mn : Int)), some (.ref nm), none, none, none, none], ?_, ?_⟩
    · refine ⟨_, rfl, _, rfl, p, mn, rfl, st1.bag, hm1, by omega, fun q H4 ns st2 nq hoff hq hlen hnod hgood => ?_⟩
      refine ⟨q, ns, rfl, .of hq, by omega, fun ys q2 hp hs nq2 => ?_⟩
      have st3 := st1.trans st2
      exact ⟨st3.new nq2, q2, ys, upd_same, st3.bag.ne_new nq2, hp.length_eq.trans hlen, hp.nodup_iff.mpr hnod, hs, fun z hz => hgood z (hp.mem_iff.mp hz), rfl⟩
    clear st1
    rintro σ H4 ⟨st1, nm, ys, hnm, nnp, hyl, hyn, hys, hyg, rfl⟩
    refine ⟨Nat.zero_le _, fun vo nvo => ?_⟩
    have nvp : vo ≠ p := st1.bag.ne_new nvo
    have nnv : nm ≠ vo := ne_of_none hnm nvo
    have hB4 := st1.bag
    let Hb : Hp := upd H4 vo (.lst [])
    have hvbn : Hb vo ≠ none := by
      show upd H4 vo _ vo ≠ none
      rw [upd_same]
      exact fun z => nomatch z
    refine ⟨_, rfl, nm, rfl, ⟨_, .of (by rw [upd_ne nnv]; exact hnm)⟩, for_list (K := K) (a := nm) (xs := ys.map V.str) (fun i σ H' => Stp p H4 H' ∧ BagOff H' p vo ∧ ∃ (xs : List V) (Vs : List Voice) (o9 o10 o11 : Option V), H' vo = some (.lst xs) ∧ DpAll K (fresh Hb H') xs (Vs.map voiceD) ∧ Vs.map (·.name) = ys.take i ∧ (∀ v ∈ Vs, v.elders.length = pc ∧ ∀ e ∈ v.elders, e ∈ ys) ∧ (∀ v ∈ Vs, v.tables.length = pc ∧ ∀ t ∈ v.tables, TabOk n t) ∧
      σ = [some (.ref p), some (.int (lim : Int)), some (.int (pc : Int)), some (.int (n : Int)), some (.int (ro : Int)), some (.int (sz : Int)), some (.int (mn : Int)), some (.ref nm), some (.ref vo), o9, o10, o11]) ?_ ?_ ?_ ?_⟩
    · exact ⟨(Stp.same hB4 (same_upd nvo)), BagOff.off (.of hB4 nvo), [], [], none, none, none, upd_same, .nil, rfl, (fun v hv => nomatch hv), (fun v hv => nomatch hv), rfl⟩
    · rintro i σ H' _ ⟨st5, _⟩
      exact .of (st5.1 nm _ hnm nnp)
    · rintro i x σ H5 hx ⟨st5, hoff, xs, Vs, o9, o10, o11, hvo, hdp, hnames, held, htab, rfl⟩
      obtain ⟨z, hzi, rfl⟩ : ∃ z, ys[i]? = some z ∧ x = V.str z := by
        rw [List.getElem?_map] at hx
        cases e : ys[i]? with
        | none => rw [e] at hx; cases hx
        | some z => rw [e] at hx; exact ⟨z, rfl, (Option.some.inj hx).symm⟩
      have hil : i < ys.length := (List.getElem?_eq_some_iff.mp hzi).1
      have hVl : Vs.length = i := by
        have := congrArg List.length hnames
        rw [List.length_map, List.length_take] at this
        omega
      have hxl : xs.length = i := by
        have hl : ∀ {vs : List V} {ds : List PyData}, DpAll K (fresh Hb H5) vs ds → vs.length = ds.length := by
          intro vs ds h
          induction ds generalizing vs with
          | nil => cases h; rfl
          | cons d ds ih => cases h with | cons h1 h2 => exact congrArg (· + 1) (ih h2)
        rw [hl hdp, List.length_map, hVl]
      have hnewb : ∀ b, H5 b = none → Hb b = none := fun b e => by
        have nb : b ≠ vo := fun z => by rw [z, hvo] at e; cases e
        show upd H4 vo _ b = none
        rw [upd_ne nb]
        exact st5.free e
      have hpb : Hb p ≠ none := by
        show upd H4 vo _ p ≠ none
        rw [upd_ne nvp.symm]
        exact hB4.here
      have hvb : Hb vo ≠ none := by
        show upd H4 vo _ vo ≠ none
        rw [upd_same]
        exact fun z => nomatch z
      refine ⟨_, rfl, (pc : Int), rfl, by omega, by omega, fun D nD => ?_⟩
      rw [Int.toNat_natCast]
      have nDp : D ≠ p := st5.bag.ne_new nD
      refine lc_range (lo := 0) (n := pc) (fun j H' => Stp p H5 H' ∧ BagOff H' p D ∧ ∃ es : List Str, H' D = some (.lst (es.map V.str)) ∧ es.length = j ∧ ∀ e ∈ es, e ∈ ys) ?_ ?_ ?_
      · exact ⟨.same st5.bag (same_upd nD), BagOff.off (.of st5.bag nD), [], upd_same, rfl, fun e he => nomatch he⟩
      · rintro j H6 hj ⟨st6, hoff6, es, hD, hlen, hes⟩
        refine ⟨rfl, _, rfl, _, rfl, _, rfl, p, (mn : Int), rfl, st6.bag, by omega, pow1000 (by omega), fun r xs2 r0 r1 hB7 hk7 => ?_⟩
        have st7 := st6.trans (.take hB7 hk7)
        have hr : r.toNat < ys.length := by omega
        refine ⟨nm, _, r, V.str ys[r.toNat], rfl, rfl, .of (st7.1 nm _ (st5.1 nm _ hnm nnp) nnp), ?_, _, (by rw [upd_ne nDp]; exact hD), ?_, st7.put nD (hk7 D hoff6), (hk7 D hoff6).off, es ++ [ys[r.toNat]], ?_, ?_, ?_⟩
        · refine atI_int r0 ?_
          rw [List.getElem?_map, List.getElem?_eq_getElem hr]
          rfl
        · rw [List.length_map]
          exact small1000 (by omega)
        · rw [upd_same, List.map_append]
          rfl
        · rw [List.length_append, hlen]
          rfl
        · intro e he
          rcases List.mem_append.mp he with he | he
          · exact hes e he
          · rw [List.mem_singleton] at he
            exact he ▸ List.getElem_mem hr
      rintro H6 ⟨st6, hoff6, es, hD, hlen, hes⟩
      refine .inl ⟨D, _, rfl, .of hD, fun E1 nE1 => ?_⟩
      have st7 := st6.new (o := .tup (es.map V.str)) nE1
      have hE1 : (upd H6 E1 (.tup (es.map V.str))) E1 = some (.tup (es.map V.str)) := upd_same
      have nE5 : H5 E1 = none := st6.free nE1
      generalize upd H6 E1 (.tup (es.map V.str)) = H7 at *
      have hvo7 : H7 vo = some (.lst xs) := st7.1 vo _ hvo nvp
      refine ⟨_, rfl, .inl ⟨rfl, _, .of hvo7⟩, _, rfl, _, rfl, _, rfl, (pc : Int), rfl, by omega, by omega, fun D2 nD2 => ?_⟩
      rw [Int.toNat_natCast]
      have nD2p : D2 ≠ p := st7.bag.ne_new nD2
      refine lc_range (lo := 0) (n := pc) (fun j H' => Stp p H7 H' ∧ BagOff H' p D2 ∧ ∃ L : List (Addr × List Nat), H' D2 = some (.lst (L.map fun x => V.ref x.1)) ∧ L.length = j ∧ ∀ x ∈ L, H' x.1 = some (.tup (nVs x.2)) ∧ H7 x.1 = none ∧ TabOk n x.2) ?_ ?_ ?_
      · exact ⟨.same st7.bag (same_upd nD2), BagOff.off (.of st7.bag nD2), [], upd_same, rfl, fun e he => nomatch he⟩
      · rintro j H8 hj ⟨st8, hoff8, L, hD8, hlen8, hL⟩
        refine ⟨rfl, _, rfl, _, rfl, p, n, rfl, st8.bag, hn2, hn5, fun q H9 t st9 nq hq htk => ?_⟩
        have hD9 : H9 D2 = some (.lst (L.map fun x => V.ref x.1)) := st9.1 D2 _ hD8 nD2p
        have off9 := st9.2.2 D2 hoff8
        refine ⟨_, hD9, ?_, (st8.trans st9).put nD2 off9, off9.off, L ++ [(q, t)], ?_, ?_, ?_⟩
        · rw [List.length_map]
          exact small1000 (by omega)
        · rw [upd_same, List.map_append]
          rfl
        · rw [List.length_append, hlen8]
          rfl
        · intro x hx
          rcases List.mem_append.mp hx with hx | hx
          · obtain ⟨h1, h2, h3⟩ := hL x hx
            have nx : x.1 ≠ D2 := ne_of h1 hD8 (by intro z; cases z)
            refine ⟨?_, h2, h3⟩
            rw [upd_ne nx]
            exact st9.1 _ _ h1 (st8.bag.ne_tup h1)
          · rw [List.mem_singleton] at hx
            subst hx
            have nx : q ≠ D2 := ne_of hq hD9 (by intro z; cases z)
            refine ⟨?_, st8.free nq, htk⟩
            rw [upd_ne nx]
            exact hq
      rintro H8 ⟨st8, hoff8, L, hD8, hlen8, hL⟩
      refine .inl ⟨D2, _, rfl, .of hD8, fun T nT => ?_⟩
      have st9 := st8.new (o := .tup (L.map fun x => V.ref x.1)) nT
      have hT : (upd H8 T (.tup (L.map fun x => V.ref x.1))) T = some (.tup (L.map fun x => V.ref x.1)) := upd_same
      have hL9 : ∀ x ∈ L, (upd H8 T (.tup (L.map fun x => V.ref x.1))) x.1 = some (.tup (nVs x.2)) := fun x hx => by
        rw [upd_ne (ne_of_none (hL x hx).1 nT)]
        exact (hL x hx).1
      have nT7 : H7 T = none := st8.free nT
      generalize upd H8 T (.tup (L.map fun x => V.ref x.1)) = H9 at *
      refine ⟨by show 3 ≤ sizeLine; decide, fun vt nvt => ?_⟩
      have st10 := st9.new (o := .tup [.str z, .ref E1, .ref T]) nvt
      have hvt : (upd H9 vt (.tup [.str z, .ref E1, .ref T])) vt = some (.tup [.str z, .ref E1, .ref T]) := upd_same
      have s10 := same_upd (o := .tup [.str z, .ref E1, .ref T]) nvt
      have nvt7 : H7 vt = none := st9.free nvt
      generalize upd H9 vt (.tup [.str z, .ref E1, .ref T]) = H10 at *
      have nE1p := st7.bag.ne_tup hE1
      have k7 : ∀ b, H7 b = none → Hb b = none := fun b e => hnewb b (st7.free e)
      have hv10 : Dp K (fresh Hb H10) (.ref vt) (voiceD ⟨z, es, L.map (·.2)⟩) := by
        refine .tup (.of (by rw [fresh_at (k7 _ nvt7)]; exact hvt)) (.cons (.str z) (.cons (.tup (xs := es.map V.str) (.of ?_) (dpAll_strs es)) (.cons (.tup (xs := L.map fun x => V.ref x.1) (.of ?_) ?_) .nil)))
        · rw [fresh_at (hnewb _ nE5)]
          exact st10.1 _ _ hE1 nE1p
        · rw [fresh_at (k7 _ nT7)]
          exact s10 _ _ hT
        · have : ∀ L : List (Addr × List Nat), (∀ x ∈ L, H10 x.1 = some (.tup (nVs x.2)) ∧ Hb x.1 = none) → DpAll K (fresh Hb H10) (L.map fun x => V.ref x.1) ((L.map (·.2)).map tabD) := by
            intro L
            induction L with
            | nil => exact fun _ => .nil
            | cons x L ih =>
              intro h
              obtain ⟨h1, h2⟩ := h x List.mem_cons_self
              exact .cons (.tup (.of (by rw [fresh_at h2]; exact h1)) (dpAll_nats' _)) (ih fun y hy => h y (List.mem_cons_of_mem _ hy))
          exact this L fun x hx => ⟨s10 _ _ (hL9 x hx), k7 _ (hL x hx).2.1⟩
      have st57 : Stp p H5 H10 := st7.trans st10
      have hvo10 : H10 vo = some (.lst xs) := st57.1 vo _ hvo nvp
      have off10 := st57.2.2 vo hoff
      refine ⟨vo, xs, _, rfl, rfl, hvo10, small1000 (by omega), (st5.trans st57).put nvo off10, off10.off, xs ++ [.ref vt], Vs ++ [⟨z, es, L.map (·.2)⟩], _, _, _, upd_same, ?_, ?_, ?_, ?_, rfl⟩
      · rw [List.map_append]
        exact dpAll_app (dpAll_same (Same.trans (fresh_keep hpb st57.1) (fresh_put hvb)) _ _ hdp) (.cons (dp_same (fresh_put hvb) _ _ hv10) .nil)
      · rw [List.map_append, hnames, List.take_add_one, hzi]
        rfl
      · intro v hv
        rcases List.mem_append.mp hv with hv | hv
        · exact held v hv
        · rw [List.mem_singleton] at hv
          subst hv
          exact ⟨hlen, hes⟩
      · intro v hv
        rcases List.mem_append.mp hv with hv | hv
        · exact htab v hv
        · rw [List.mem_singleton] at hv
          subst hv
          refine ⟨by rw [List.length_map]; exact hlen8, fun t ht => ?_⟩
          obtain ⟨x, hx, rfl⟩ := List.mem_map.mp ht
          exact (hL x hx).2.2
    · rintro σ H5 ⟨st5, hoff, xs, Vs, o9, o10, o11, hvo, hdp, hnames, held, htab, rfl⟩
      refine ⟨_, rfl, _, rfl, _, rfl, by show 3 ≤ sizeLine; decide, fun v nv => ?_⟩
      have st6 := st1.trans st5
      have hyy : ys.take (ys.map V.str).length = ys := by rw [List.length_map, List.take_length]
      rw [hyy] at hnames
      have hVl : Vs.length = mn := by rw [← hyl, ← hnames, List.length_map]
      refine k (.ref v) _ ⟨pc, n, Vs⟩ (st6.new nv) ?_ ?_
      · have hvoH : H vo = none := st1.free nvo
        refine .tup (.of (by rw [fresh_at (st6.free nv)]; exact upd_same)) (.cons (.int _) (.cons (.int _) (.cons (.lst (xs := xs) (.of ?_) ?_) .nil)))
        · rw [fresh_at hvoH]
          exact same_upd nv _ _ hvo
        · refine dpAll_same (Same.trans (fresh_start (Ha := H) (fun b e => st1.free ?_)) (fresh_keep (p := p) hB.here (Keep.same (same_upd nv)))) _ _ hdp
          have nb : b ≠ vo := fun z => by
            rw [z] at e
            exact hvbn e
          have e2 : upd H4 vo _ b = none := e
          rwa [upd_ne nb] at e2
      · exact ⟨hp2, hp4, hn2, hn5, by show 1 ≤ Vs.length; omega, by show Vs.length ≤ 6; omega, by
          show n ^ Vs.length ≤ lim
          exact Nat.le_trans (Nat.pow_le_pow_right (by omega) (by omega)) hpow, by
          show (Vs.map (·.name)).Nodup
          rw [hnames]; exact hyn, by
          show sortedS (Vs.map (·.name)) = true
          rw [hnames]; exact hys, by
          show ∀ z ∈ Vs.map (·.name), GoodN z
          rw [hnames]; exact hyg, by
          show ∀ v ∈ Vs, v.elders.length = pc ∧ ∀ e ∈ v.elders, e ∈ Vs.map (·.name)
          rw [hnames]; exact held, htab⟩
end
end P52

namespace P52
open PySem PySem.Spec PyProof.Rows L2 HG HF
section
variable {P : Program} {w : World} {K : PySem.W.Frag} {mg : Str → Option Value} {base : Heap}
theorem scSt : FnScope ["bag", "parts", "voice"] ["bag", "parts"] (defScope sStanding) := ⟨rfl, rfl, rfl, by decide +kernel, rfl, by decide +kernel, by decide +kernel⟩
theorem ok_standing2 {f fT : Addr} {fd fdT : FuncData} (F : Fun K "_law_standing" "_law_standing" sStanding f fd) (FT : Fun K "_law_take" "_law_take" sTake fT fdT) (bT : Binds K fdT ["bag", "many"] []) (gT : mg "_law_take" = some (.ref fT)) (ml : mg "len" = none) (mT : mg "tuple" = none) : FnOk P w K mg base CX0 2 f fd ["bag", "parts"] (spStanding2 K) := by
  have GT : FnOk P w K mg base CX0 1 fT fdT ["bag", "many"] spTake2 := ok_take2 FT ml
  refine F.ok scSt (fun vs H Q E h => ?_) (fun cdv A outer s H vs Q E hr h => ?_)
  · obtain ⟨p, v, pp, n, ds, rfl, _⟩ := h
    rfl
  · obtain ⟨p, v, pp, n, ds, rfl, hB, hd, n1, n2, v6, k⟩ := h
    refine ⟨_, (pss_one (ps_ret (pe_tupleOf (by rfl) mT (pe_lc (own := [("voice", 2)]) (g := gName 2) (tt := tYes) rfl scSt.nd (pi_list (pe_ix ix_tup (pv 1) pe_int (fun _ _ => rfl))) (blkOk_by (N := ["bag", "parts", "voice"]) (sc := defScope sStanding) (by decide +kernel)) (fun _ _ _ _ _ => (pg_name (i := 2) scSt.nd rfl (.inl rfl))) (fun _ _ _ _ _ => pts_nil) (fun _ _ _ _ _ => (pe_call (sp := spTake2) (k := 1) (CX := CX0) (E := E0) (dvs := []) (ds := []) GT hr (by rfl) gT FT.kp bT .nil pass0 (pa_cons (pv 0) (pa_cons (pe_ix (r := rIxT K) ix_tup (pv 1) pe_int (fun _ _ => rfl)) pa_nil)))))))), ?_⟩
    obtain ⟨a, p1, vl, xs, rfl, hs, hl, hda⟩ := parts_inv2 hd
    refine ⟨_, rfl, a, _, 2, _, rfl, rfl, sqT_same (off_sub p H) hs, rfl, vl, rfl, ⟨_, (off_sub p H).seq hl⟩, fun D nD => ?_⟩
    have nDp : D ≠ p := hB.ne_new nD
    refine lc_list (K := K) (a := vl) (xs := xs) (fun j H' => Stp p H H' ∧ BagOff H' p D ∧ ∃ st : List Nat, H' D = some (.lst (nVs st)) ∧ st.length = j ∧ ∀ d ∈ st, d < n) ?_ ?_ ?_ ?_
    · exact ⟨.same hB (same_upd nD), BagOff.off (.of hB nD), [], upd_same, rfl, fun d hd => nomatch hd⟩
    · rintro j H1 hj ⟨st1, _⟩
      exact (off_sub p H1).seq (st1.off.seq hl)
    · rintro j x H1 hx ⟨st1, hoff, st, hD, hlen, hlt⟩
      have hj : j < xs.length := (List.getElem?_eq_some_iff.mp hx).1
      have hxl := dpAll_len hda
      refine ⟨rfl, _, rfl, _, rfl, a, _, 1, _, rfl, rfl, sqT_same (off_sub p H1) (sqT_same st1.off hs), rfl, p, (n : Int), rfl, st1.bag, by omega, pow1000 (by omega), fun r xs2 r0 r1 hB2 hk2 => ?_⟩
      have st2 := st1.trans (.take hB2 hk2)
      have hoff2 := hk2 D hoff
      obtain ⟨d, rfl⟩ := Int.eq_ofNat_of_zero_le r0
      refine ⟨_, (by rw [upd_ne nDp]; exact hD), ?_, st2.put nD hoff2, hoff2.off, st ++ [d], ?_, ?_, ?_⟩
      · rw [nVs_len]
        exact small1000 (by omega)
      · rw [upd_same, nVs_app]
        rfl
      · rw [List.length_append, hlen]
        rfl
      · intro e he
        rcases List.mem_append.mp he with he | he
        · exact hlt e he
        · rw [List.mem_singleton] at he
          omega
    · rintro H1 ⟨st1, hoff, st, hD, hlen, hlt⟩
      have hxl := dpAll_len hda
      refine .inl ⟨D, _, rfl, .of hD, fun q nq => ?_⟩
      exact k q _ st (st1.new nq) (st1.free nq) upd_same (by omega) hlt
theorem ok_standing {f fT : Addr} {fd fdT : FuncData} (F : Fun K "_law_standing" "_law_standing" sStanding f fd) (FT : Fun K "_law_take" "_law_take" sTake fT fdT) (bT : Binds K fdT ["bag", "many"] []) (gT : mg "_law_take" = some (.ref fT)) (ml : mg "len" = none) (mT : mg "tuple" = none) : FnOk P w K mg base CX0 2 f fd ["bag", "parts"] (spStanding K) :=
  (ok_standing2 F FT bT gT ml mT).imp (standing_imp K)
end
end P52

namespace P52
open PySem PySem.Spec PyProof.Rows L2 HG HF
section
variable {P : Program} {w : World} {K : PySem.W.Frag} {mg : Str → Option Value} {base : Heap}
theorem scCh : FnScope ["parts"] ["parts"] (defScope sChoir) := ⟨rfl, rfl, rfl, by decide +kernel, rfl, by decide +kernel, by decide +kernel⟩
theorem ok_choir {f C gI : Addr} {fd gdI : FuncData} {At : Hp → Addr → Parts → Prop} {n : Nat} (CK : ChoirK C At) (M : Mk K C gI) (GI : FnOk P w K mg base CX0 n gI gdI ["self", "pace", "notes", "voices"] (spMakeC K C At)) (bI : Binds K gdI ["self", "pace", "notes", "voices"] []) (mC : mg "Choir" = some (.ref C))
    (F : Fun K "_law_choir" "_law_choir" sChoir f fd) : FnOk P w K mg base CX0 (n + 2) f fd ["parts"] (spChoir K At) := by
  refine F.ok scCh (fun vs H Q E h => ?_) (fun cdv A outer s H vs Q E hr h => ?_)
  · obtain ⟨G, v, pa, lim, rfl, _⟩ := h
    rfl
  · obtain ⟨G, v, pa, lim, rfl, g, hd, ok, hlim, k⟩ := h
    refine ⟨_, (pss_one (ps_ret (pe_make M GI hr (by rfl) mC bI .nil pass0 (pa_cons (pe_ix ix_tup (pv 0) pe_int (fun _ _ => rfl)) (pa_cons (pe_ix ix_tup (pv 0) pe_int (fun _ _ => rfl)) (pa_cons (pe_revL (pe_ix ix_tup (pv 0) pe_int (fun _ _ => rfl))) pa_nil)))))), ?_⟩
    obtain ⟨a, vl, xs, rfl, hs, hl, hda⟩ := parts_inv hd
    refine ⟨_, rfl, a, _, 0, _, rfl, rfl, sqT_same g hs, rfl, _, rfl, a, _, 1, _, rfl, rfl, sqT_same g hs, rfl, _, rfl, a, _, 2, _, rfl, rfl, sqT_same g hs, rfl, vl, xs, rfl, g.seq hl, fun r nr => ?_⟩
    intro x dx nx ndx nxd
    have s1 : Same H (upd H r (.lst xs.reverse)) := same_upd nr
    have hr1 : (upd H r (.lst xs.reverse)) r = some (.lst xs.reverse) := upd_same
    generalize upd H r (.lst xs.reverse) = H1 at *
    have hx2 : (upd (upd H1 dx (.own x)) x (.ins C dx [])) x = some (.ins C dx []) := upd_same
    have hdx2 : (upd (upd H1 dx (.own x)) x (.ins C dx [])) dx = some (.own x) := by rw [upd_ne nxd, upd_same]
    have s2 : Same H1 (upd (upd H1 dx (.own x)) x (.ins C dx [])) := fun b o e => by
      rw [upd_ne (ne_of_none e nx), upd_ne (ne_of_none e ndx)]
      exact e
    have hb2 : ∀ b, b ≠ x → b ≠ dx → (upd (upd H1 dx (.own x)) x (.ins C dx [])) b = H1 b := fun b h1 h2 => by rw [upd_ne h1, upd_ne h2]
    generalize upd (upd H1 dx (.own x)) x (.ins C dx []) = H2 at *
    have nxH := s1.free nx
    have ndxH := s1.free ndx
    have gx : G x = none := g.free nxH
    have gdx : G dx = none := g.free ndxH
    have gm : Same (more G H H1) H2 := (more_sub g s1).trans s2
    refine ⟨more G H H1, x, dx, .ref r, pa.voices.reverse, pa, lim, rfl, gm, hx2, hdx2, ?_, ?_, ?_, List.reverse_perm _, ok, hlim, fun H' hk hat => ⟨rfl, ?_⟩⟩
    · show (if H x = none then H1 x else G x) = none
      rw [if_pos nxH]
      exact nx
    · show (if H dx = none then H1 dx else G dx) = none
      rw [if_pos ndxH]
      exact ndx
    · refine .lst (xs := xs.reverse) (.of ?_) ?_
      · show (if H r = none then H1 r else G r) = _
        rw [if_pos nr]
        exact hr1
      · rw [List.map_reverse]
        exact dpAll_rev (dpAll_same (more_old g) _ _ hda)
    · have s3 : Same H H' := fun b o e => hk b o (s2 _ _ (s1 _ _ e)) (ne_of_none e nxH)
      refine k x H' s3 nxH (CK.mono ?_ hat)
      intro b o e
      unfold plus at e
      by_cases c : b = x ∨ b = dx
      · rw [if_pos c] at e
        unfold more
        rw [if_pos (by rcases c with rfl | rfl; exact nxH; exact ndxH)]
        exact e
      · rw [if_neg c] at e
        have cx : b ≠ x := fun z => c (.inl z)
        have cd : b ≠ dx := fun z => c (.inr z)
        unfold more at e ⊢
        by_cases c2 : H2 b = none
        · rw [if_pos c2] at e
          rw [if_pos (s1.free (s2.free c2))]
          exact e
        · rw [if_neg c2] at e
          by_cases c3 : H b = none
          · rw [if_pos c3] at e ⊢
            exact hk b o (s2 _ _ e) cx
          · rw [if_neg c3] at e ⊢
            exact e
end
end P52

namespace P52
open PySem PySem.Spec PyProof.Rows L2 HG HF
section
variable {P : Program} {w : World} {K : PySem.W.Frag} {mg : Str → Option Value} {base : Heap}
theorem scBe : FnScope ["bag", "pace", "far", "way", "size", "k"] ["bag", "pace", "far"] (defScope sBeat) := ⟨rfl, rfl, rfl, by decide +kernel, rfl, by decide +kernel, by decide +kernel⟩
theorem ok_beat {f fT : Addr} {fd fdT : FuncData} (F : Fun K "_law_beat" "_law_beat" sBeat f fd) (FT : Fun K "_law_take" "_law_take" sTake fT fdT) (bT : Binds K fdT ["bag", "many"] []) (gT : mg "_law_take" = some (.ref fT)) (ml : mg "len" = none) (mr : mg "range" = none) (mi : mg "min" = none) (mx : mg "max" = none) : FnOk P w K mg base CX0 2 f fd ["bag", "pace", "far"] spBeat := by
  have GT : FnOk P w K mg base CX0 1 fT fdT ["bag", "many"] spTake2 := ok_take2 FT ml
  refine F.ok scBe (fun vs H Q E h => ?_) (fun cdv A outer s H vs Q E hr h => ?_)
  · obtain ⟨p, pc, far, rfl, _⟩ := h
    rfl
  · obtain ⟨p, pc, far, rfl, hB, hp2, hp4, hf, k⟩ := h
    refine ⟨_, (Evl.pss_cut (ps_set (i := 3) scBe.nd rfl (.inl rfl) (pe_call (sp := spTake2) (k := 1) (CX := CX0) (E := E0) (dvs := []) (ds := []) GT hr (by rfl) gT FT.kp bT .nil pass0 (pa_cons (pv 0) (pa_cons pe_int pa_nil))))
      (pss_cons (ps_if (pt_cmpR op_lt (pv 3) pe_int (nomark _))
         (pss_one (ps_ret (pe_callB (call_min2 rfl) (by rfl) mi (by decide +kernel) (pa_cons (pv 2) (pa_cons (pe_call (sp := spTake2) (k := 1) (CX := CX0) (E := E0) (dvs := []) (ds := []) GT hr (by rfl) gT FT.kp bT .nil pass0 (pa_cons (pv 0) (pa_cons (pe_ix ix_list (pe_lst (pa_cons pe_int (pa_cons pe_int pa_nil))) (pv 3) (fun _ _ => rfl)) pa_nil))) pa_nil)))))
         pss_nil)
      (pss_cons (ps_if (pt_cmpR op_eq (pv 3) pe_int (nomark _))
         (pss_one (ps_ret (pe_call (sp := spTake2) (k := 1) (CX := CX0) (E := E0) (dvs := []) (ds := []) GT hr (by rfl) gT FT.kp bT .nil pass0 (pa_cons (pv 0) (pa_cons (pe_op op_add (pv 2) pe_int) pa_nil)))))
         pss_nil)
      (pss_cons (ps_set (i := 4) scBe.nd rfl (.inl rfl) pe_int)
      (pss_cons (ps_for PassesOwn.never rfl (pi_range1 rfl mr (pa_cons (pe_op op_add pe_int (pe_call (sp := spTake2) (k := 1) (CX := CX0) (E := E0) (dvs := []) (ds := []) GT hr (by rfl) gT FT.kp bT .nil pass0 (pa_cons (pv 0) (pa_cons pe_int pa_nil)))) pa_nil)) (pg_name (i := 5) scBe.nd rfl (.inl rfl))
         (pss_one (ps_set (i := 4) scBe.nd rfl (.inl rfl) (pe_op op_mul (pv 4) (pv 1)))))
      (pss_one (ps_ret (pe_callB (call_min2 rfl) (by rfl) mi (by decide +kernel) (pa_cons (pv 2) (pa_cons (pe_callB (call_max2 rfl) (by rfl) mx (by decide +kernel) (pa_cons pe_int (pa_cons (pe_op op_sub (pe_op op_add (pe_op op_mul (pv 4) (pe_op op_add pe_int (pe_call (sp := spTake2) (k := 1) (CX := CX0) (E := E0) (dvs := []) (ds := []) GT hr (by rfl) gT FT.kp bT .nil pass0 (pa_cons (pv 0) (pa_cons pe_int pa_nil))))) (pe_call (sp := spTake2) (k := 1) (CX := CX0) (E := E0) (dvs := []) (ds := []) GT hr (by rfl) gT FT.kp bT .nil pass0 (pa_cons (pv 0) (pa_cons pe_int pa_nil)))) pe_int) pa_nil))) pa_nil)))))))))), ?_⟩
    refine ⟨fun σ H' => Stp p H H' ∧ ∃ wy : Nat, wy < 5 ∧ σ = [some (.ref p), some (.int (pc : Int)), some (.int (far : Int)), some (.int (wy : Int)), none, none], ?_, ?_⟩
    · refine ⟨_, rfl, p, 5, rfl, hB, by decide, by decide, fun r xs r0 r1 hB1 hk1 => ?_⟩
      refine ⟨.take hB1 hk1, r.toNat, by omega, ?_⟩
      rw [Int.toNat_of_nonneg r0]
      rfl
    rintro σ H1 ⟨st1, wy, hwy, rfl⟩
    have mn : ∀ (H' : Hp) (j : Int), 0 ≤ j → Stp p H H' → Q (.int (if j < (far : Int) then j else (far : Int))) H' := by
      intro H' j h0 st
      by_cases c : j < (far : Int)
      · rw [if_pos c]
        obtain ⟨j, rfl⟩ := Int.eq_ofNat_of_zero_le h0
        exact k j H' st (by omega)
      · rw [if_neg c]
        exact k far H' st (Nat.le_refl _)
    refine ⟨_, rfl, _, _, rfl, rfl, _, rfl, ite2 (fun c => ?_) (fun c => ?_)⟩
    · have c : (wy : Int) < 2 := of_decide_eq_true c
      refine ⟨_, rfl, _, rfl, by show 2 ≤ sizeLine; decide, fun M nM => ?_⟩
      have nMp := st1.bag.ne_new nM
      have st2 := st1.new (o := .lst [.int 5, .int 40]) nM
      obtain ⟨m, hat, hm1, hm2⟩ : ∃ m : Int, atI [V.int 5, V.int 40] (wy : Int) = some (.int m) ∧ 0 < m ∧ m ≤ 40 := by
        have q : wy = 0 ∨ wy = 1 := by omega
        rcases q with rfl | rfl
        · exact ⟨5, rfl, by decide, by decide⟩
        · exact ⟨40, rfl, by decide, by decide⟩
      refine ⟨_, rfl, M, _, (wy : Int), _, rfl, rfl, .of upd_same, hat, p, m, rfl, st2.bag, hm1, ?_, fun r xs r0 r1 hB1 hk1 => ?_⟩
      · obtain ⟨m, rfl⟩ := Int.eq_ofNat_of_zero_le (Int.le_of_lt hm1)
        exact pow1000 (by omega)
      exact ⟨_, _, rfl, mn _ r r0 (st2.trans (.take hB1 hk1))⟩
    · refine ⟨_, rfl, rfl, _, rfl, ite2 (fun _ => ?_) (fun _ => ?_)⟩
      · refine ⟨_, rfl, _, rfl, _, _, rfl, rfl, p, (far : Int) + 1, rfl, st1.bag, by omega, ?_, fun r xs r0 r1 hB1 hk1 => ?_⟩
        · have : (2 : Nat) ^ 500 < 2 ^ 1000 := by decide +kernel
          omega
        obtain ⟨r, rfl⟩ := Int.eq_ofNat_of_zero_le r0
        exact k r _ (st1.trans (.take hB1 hk1)) (by omega)
      · refine ⟨_, rfl, p, 12, rfl, st1.bag, by decide, by decide, fun r xs r0 r1 hB1 hk1 => ?_⟩
        have st2 := st1.trans (.take hB1 hk1)
        obtain ⟨r, rfl⟩ := Int.eq_ofNat_of_zero_le r0
        refine ⟨_, _, rfl, rfl, 1 + (r : Int), rfl, by omega, by omega, ?_⟩
        rw [show (1 + (r : Int)).toNat = 1 + r by omega]
        refine for_range (fun i σ H' => i ≤ 12 ∧ Stp p H H' ∧ ∃ o : Option V, σ = [some (.ref p), some (.int (pc : Int)), some (.int (far : Int)), some (.int (wy : Int)), some (.int ((pc ^ i : Nat) : Int)), o]) ⟨by decide, st2, none, rfl⟩ ?_ ?_
        · rintro i σ H2 hi ⟨hi2, st3, o, rfl⟩
          have hpw : pc ^ i ≤ 4 ^ 12 := Nat.le_trans (Nat.pow_le_pow_left hp4 i) (Nat.pow_le_pow_right (by decide) hi2)
          have h412 : (4 : Nat) ^ 12 = 16777216 := by decide
          refine ⟨_, rfl, _, rfl, _, _, rfl, rfl, .inl ⟨by omega, by omega⟩, by omega, st3, some (.int (0 + (i : Int))), ?_⟩
          show ([_, _, _, _, some (V.int (((pc ^ i : Nat) : Int) * (pc : Int))), _] : L2.St) = _
          rw [← Int.natCast_mul, ← Nat.pow_succ]
        · rintro σ H2 ⟨hi2, st3, o, rfl⟩
          have hpw : pc ^ (1 + r) ≤ 4 ^ 12 := Nat.le_trans (Nat.pow_le_pow_left hp4 _) (Nat.pow_le_pow_right (by decide) hi2)
          have h412 : (4 : Nat) ^ 12 = 16777216 := by decide
          refine ⟨_, rfl, _, rfl, _, rfl, p, 2, rfl, st3.bag, by decide, by decide, fun r2 xs2 r20 r21 hB3 hk3 => ?_⟩
          have st4 := st3.trans (.take hB3 hk3)
          refine ⟨_, _, rfl, rfl, _, _, rfl, rfl, .inl ⟨by omega, by omega⟩, _, rfl, p, 5, rfl, st4.bag, by decide, by decide, fun r3 xs3 r30 r31 hB4 hk4 => ?_⟩
          have st5 := st4.trans (.take hB4 hk4)
          refine ⟨_, _, rfl, rfl, _, _, rfl, rfl, _, _, rfl, _, _, rfl, mn _ _ ?_ st5⟩
          show 0 ≤ (if _ > (0 : Int) then _ else (0 : Int))
          split <;> omega
end
end P52

namespace P52
open PySem PySem.Spec PyProof.Rows L2 HG HF
section
variable {P : Program} {w : World} {K : PySem.W.Frag} {mg : Str → Option Value} {base : Heap}
theorem scLd : FnScope ["parts", "standing", "rest", "names", "voice"] ["parts", "standing", "rest"] (defScope sLed) := ⟨rfl, rfl, rfl, by decide +kernel, rfl, by decide +kernel, by decide +kernel⟩
theorem ok_led {f : Addr} {fd : FuncData} {k : Nat} (F : Fun K "_law_led" "_law_led" sLed f fd) (mT : mg "tuple" = none) : FnOk P w K mg base CX0 (k + 1) f fd ["parts", "standing", "rest"] (spLed K) := by
  refine F.ok scLd (fun vs H Q E h => ?_) (fun cdv A outer s H vs Q E hr h => ?_)
  · obtain ⟨G, v, sv, r, pa, st, lim, rfl, _⟩ := h
    rfl
  · obtain ⟨G, v, sv, r, pa, st, lim, rfl, g, hd, hsv, ok, hst, hrp, kq⟩ := h
    refine ⟨_, (pss_cons (ps_set (i := 3) scLd.nd rfl (.inr rfl) (pe_lc (own := [("voice", 4)]) (g := gName 4) (tt := tYes) rfl scLd.nd (pi_list (pe_ix ix_tup (pv 0) pe_int (fun _ _ => rfl))) (blkOk_by (N := ["parts", "standing", "rest", "names", "voice"]) (sc := defScope sLed) (by decide +kernel)) (fun _ _ _ _ _ => (pg_name (i := 4) scLd.nd rfl (.inl rfl))) (fun _ _ _ _ _ => pts_nil) (fun _ _ _ _ _ => (pe_ix (r := rIxT K) ix_tup (pv 4) pe_int (fun _ _ => rfl)))))
      (pss_one (ps_ret (pe_tupleOf (by rfl) mT (pe_lc (own := [("voice", 4)]) (g := gName 4) (tt := tYes) rfl scLd.nd (pi_list (pe_ix ix_tup (pv 0) pe_int (fun _ _ => rfl))) (blkOk_by (N := ["parts", "standing", "rest", "names", "voice"]) (sc := defScope sLed) (by decide +kernel)) (fun _ _ _ _ _ => (pg_name (i := 4) scLd.nd rfl (.inl rfl))) (fun _ _ _ _ _ => pts_nil) (fun _ _ _ _ _ => (pe_ix (r := rIxT K) ix_tup (pe_ix (r := rIxT K) ix_tup (pe_ix (r := rIxT K) ix_tup (pv 4) pe_int (fun _ _ => rfl)) (pv 2) (fun _ _ => rfl)) (pe_ix (r := rIxT K) ix_tup (pv 1) (pe_bmK (K := K) (r := rIndex K) rfl PySem.F.plainAttrs_list PySem.F.slot_list_index PySem.F.type_list_index mt_index (pv 3) (pa_cons (pe_ix (r := rIxT K) ix_tup (pe_ix (r := rIxT K) ix_tup (pv 4) pe_int (fun _ _ => rfl)) (pv 2) (fun _ _ => rfl)) pa_nil)) (fun _ _ => rfl)) (fun _ _ => rfl)))))))), ?_⟩
    obtain ⟨a, vl, xs, rfl, hs, hl, hda⟩ := parts_inv hd
    have hxl := dpAll_len hda
    rw [List.length_map] at hxl
    have v6 := ok.v6
    refine ⟨_, rfl, a, _, 2, _, rfl, rfl, sqT_same g hs, rfl, vl, rfl, ⟨_, g.seq hl⟩, fun D nD => ?_⟩
    refine lc_list (K := K) (a := vl) (xs := xs) (fun j H' => Same H H' ∧ H' D = some (.lst ((pa.names.take j).map V.str))) ?_ ?_ ?_ ?_
    · exact ⟨same_upd nD, upd_same⟩
    · rintro j H1 hj ⟨s1, _⟩
      exact s1.seq (g.seq hl)
    · rintro j x H1 hx ⟨s1, hD⟩
      obtain ⟨d, hd1, hd2⟩ := dpAll_get' hda hx
      obtain ⟨c, hc, rfl⟩ : ∃ c, pa.voices[j]? = some c ∧ d = voiceD c := by
        rw [List.getElem?_map] at hd1
        cases e : pa.voices[j]? with
        | none => rw [e] at hd1; cases hd1
        | some c => rw [e] at hd1; exact ⟨c, rfl, (Option.some.inj hd1).symm⟩
      have hj : j < pa.voices.length := (List.getElem?_eq_some_iff.mp hc).1
      obtain ⟨b, x1, x2, rfl, hb, _, _⟩ := voice_inv hd2
      refine ⟨rfl, _, rfl, b, _, 0, _, rfl, rfl, sqT_same s1 (sqT_same g hb), rfl, _, hD, ?_, ?_, ?_⟩
      · rw [List.length_map, List.length_take]
        exact small1000 (by omega)
      · intro b' o e
        rw [upd_ne (ne_of_none e nD)]
        exact s1 _ _ e
      · rw [upd_same, List.take_add_one]
        unfold Parts.names
        rw [List.getElem?_map, hc, List.map_append]
        rfl
    · rintro H1 ⟨s1, hD⟩
      rw [hxl] at hD
      have hnl : pa.names.length = pa.voices.length := List.length_map ..
      rw [← hnl, List.take_length] at hD
      refine ⟨_, rfl, a, _, 2, _, rfl, rfl, sqT_same s1 (sqT_same g hs), rfl, vl, rfl, ⟨_, s1.seq (g.seq hl)⟩, fun D2 nD2 => ?_⟩
      refine lc_list (K := K) (a := vl) (xs := xs) (fun j H' => Same H1 H' ∧ H' D2 = some (.lst (nVs ((pa.voices.take j).map (ledV pa st r))))) ?_ ?_ ?_ ?_
      · exact ⟨same_upd nD2, upd_same⟩
      · rintro j H2 hj ⟨s2, _⟩
        exact s2.seq (s1.seq (g.seq hl))
      · rintro j x H2 hx ⟨s2, hD2⟩
        obtain ⟨d, hd1, hd2⟩ := dpAll_get' hda hx
        obtain ⟨c, hc, rfl⟩ : ∃ c, pa.voices[j]? = some c ∧ d = voiceD c := by
          rw [List.getElem?_map] at hd1
          cases e : pa.voices[j]? with
          | none => rw [e] at hd1; cases hd1
          | some c => rw [e] at hd1; exact ⟨c, rfl, (Option.some.inj hd1).symm⟩
        have hj : j < pa.voices.length := (List.getElem?_eq_some_iff.mp hc).1
        have hcm : c ∈ pa.voices := List.mem_of_getElem? hc
        have gs : Same G H2 := g.trans (s1.trans s2)
        obtain ⟨b, x1, x2, rfl, hb, he, ht⟩ := voice_inv hd2
        have hel := (ok.elds c hcm).1
        have htl := (ok.tabs c hcm).1
        have het : (c.elders.map PyData.str)[r]? = some (.str (c.elders.getD r (Str.ofString ""))) := by
          rw [List.getElem?_map, List.getElem?_eq_getElem (by omega), List.getD_eq_getElem?_getD, List.getElem?_eq_getElem (by omega)]
          rfl
        have htt : (c.tables.map tabD)[r]? = some (tabD (c.tables.getD r [])) := by
          rw [List.getElem?_map, List.getElem?_eq_getElem (by omega), List.getD_eq_getElem?_getD, List.getElem?_eq_getElem (by omega)]
          rfl
        obtain ⟨ea, exs, ex, rfl, hes, hea, hed⟩ := tup_at he het
        obtain ⟨ta, txs, tx, rfl, hts, hta, htd⟩ := tup_at ht htt
        obtain rfl := dp_str_inv hed
        have hlt := elder_lt ok hcm hrp
        have tabok := tab_at ok hcm hrp
        have hmem := elder_mem ok hcm hrp
        obtain ⟨sa, sxs, sx, rfl, hss, hsa, hsd⟩ := tup_at hsv (nDs_at (i := elderAt pa c r) (by rw [hst.1]; exact hlt))
        obtain rfl := dp_int_inv hsd
        have hsv2 : st.getD (elderAt pa c r) 0 < pa.notes := getD_mem_lt (by rw [hst.1]; exact hlt) hst.2
        obtain ⟨ua, uxs, ux, rfl, hus, hua, hud⟩ := tup_at htd (nDs_at (i := st.getD (elderAt pa c r) 0) (by rw [tabok.1]; exact hsv2))
        obtain rfl := dp_int_inv hud
        have hD2' : H2 D = some (.lst (pa.names.map V.str)) := s2 _ _ hD
        refine ⟨rfl, _, rfl, b, _, 2, _, rfl, rfl, sqT_same gs hb, rfl, _, rfl, ta, _, (r : Int), _, rfl, rfl, sqT_same gs hts, hta, _, rfl, _, rfl, .inl ⟨rfl, _, .of hD2'⟩, _, rfl, b, _, 1, _, rfl, rfl, sqT_same gs hb, rfl, _, rfl, ea, _, (r : Int), _, rfl, rfl, sqT_same gs hes, hea, ?_⟩
        refine ⟨D, _, _, elderAt pa c r, .str (c.elders.getD r (Str.ofString "")), rfl, rfl, .of hD2', rfl, ?_, ?_, ?_, ?_, ?_⟩
        · rw [List.all_eq_true]
          intro y hy
          obtain ⟨z, _, rfl⟩ := List.mem_map.mp hy
          rfl
        · rw [List.getElem?_map]
          have : pa.names[elderAt pa c r]? = some (c.elders.getD r (Str.ofString "")) := by
            unfold elderAt
            rw [List.getElem?_eq_getElem (List.idxOf_lt_length_of_mem hmem), List.getElem_idxOf]
          rw [this]
          rfl
        · show (_ == _) = true
          exact beq_self_eq_true _
        · intro m z' hm hz
          rw [List.getElem?_map] at hz
          cases e : pa.names[m]? with
          | none => rw [e] at hz; cases hz
          | some y =>
            rw [e] at hz
            cases hz
            show (y == _) = false
            rw [beq_eq_false_iff_ne]
            rintro rfl
            have h1 := (List.getElem?_eq_some_iff.mp e).2
            have h2 : m < pa.names.findIdx (· == c.elders.getD r (Str.ofString "")) := hm
            have h3 := List.not_of_lt_findIdx h2
            simp [h1] at h3
        · refine ⟨sa, _, _, _, rfl, rfl, sqT_same gs hss, hsa, ua, _, _, _, rfl, rfl, sqT_same gs hus, hua, _, hD2, ?_, ?_, ?_⟩
          · rw [nVs_len, List.length_map, List.length_take]
            exact small1000 (by omega)
          · intro b' o e
            rw [upd_ne (ne_of_none e nD2)]
            exact s2 _ _ e
          · rw [upd_same, List.take_add_one, hc, List.map_append, nVs_app]
            rfl
      · rintro H2 ⟨s2, hD2⟩
        rw [hxl, List.take_length] at hD2
        refine .inl ⟨D2, _, rfl, .of hD2, fun q nq => ?_⟩
        exact kq q _ (s1.trans (s2.trans (same_upd nq))) (s1.free (s2.free nq)) upd_same
theorem scBh : FnScope ["parts", "standing", "wait", "figures", "rest"] ["parts", "standing", "wait"] (defScope sBehind) := ⟨rfl, rfl, rfl, by decide +kernel, rfl, by decide +kernel, by decide +kernel⟩
theorem ok_behind {f fL : Addr} {fd fdL : FuncData} (F : Fun K "_law_behind" "_law_behind" sBehind f fd) (FL : Fun K "_law_led" "_law_led" sLed fL fdL) (bL : Binds K fdL ["parts", "standing", "rest"] []) (gL : mg "_law_led" = some (.ref fL)) (mT : mg "tuple" = none) : FnOk P w K mg base CX0 2 f fd ["parts", "standing", "wait"] (spBehind K) := by
  have GL : FnOk P w K mg base CX0 1 fL fdL ["parts", "standing", "rest"] (spLed K) := ok_led FL mT
  refine F.ok scBh (fun vs H Q E h => ?_) (fun cdv A outer s H vs Q E hr h => ?_)
  · obtain ⟨G, v, sv, r, pa, st, lim, rfl, _⟩ := h
    rfl
  · obtain ⟨G, v, sv, wt, pa, st, lim, rfl, g, hd, hsv, ok, hst, hw, kq⟩ := h
    refine ⟨_, (pss_cons (ps_set (i := 3) scBh.nd rfl (.inl rfl) (pe_lst pa_nil))
      (Evl.pss_cut (ps_while PassesOwn.never (pt_cmpR op_gt (pv 2) pe_int (nomark _))
         (pss_cons (ps_expr (pe_bm PySem.F.plainAttrs_list PySem.F.slot_list_append PySem.F.type_list_append mt_append (pv 3) (pa_cons (pe_op op_mod (pv 2) (pe_ix ix_tup (pv 0) pe_int (fun _ _ => rfl))) pa_nil)))
         (pss_one (ps_set (i := 2) scBh.nd rfl (.inl rfl) (pe_op op_fdivW (pv 2) (pe_ix ix_tup (pv 0) pe_int (fun _ _ => rfl)))))))
      (pss_cons (ps_for PassesOwn.never rfl (pi_list (pe_revL (pv 3))) (pg_name (i := 4) scBh.nd rfl (.inl rfl))
         (pss_one (ps_set (i := 1) scBh.nd rfl (.inl rfl) (pe_call GL hr (by rfl) gL FL.kp bL .nil pass0 (pa_cons (pv 0) (pa_cons (pv 1) (pa_cons (pv 4) pa_nil)))))))
      (pss_one (ps_ret (pv 1)))))), ?_⟩
    have p2 := ok.p2
    have p4 := ok.p4
    obtain ⟨a, vl, xs, rfl, hs, hl, hda⟩ := parts_inv hd
    refine ⟨Nat.zero_le _, fun fr nfr => ?_⟩
    refine ⟨fun σ H' => Same H H' ∧ H' fr = some (.lst (nVs (L pa.pace wt))) ∧ ∃ o2, σ = [some (.ref a), some sv, o2, some (.ref fr), none], ?_, ?_⟩
    · refine while_by (fun σ H' => ∃ (m : Nat) (ds : List Nat), σ = [some (.ref a), some sv, some (.int (m : Int)), some (.ref fr), none] ∧ m < 2 ^ 1000 ∧ Same H H' ∧ H' fr = some (.lst (nVs ds)) ∧ ds ++ L pa.pace m = L pa.pace wt) (fun σ _ => match σ with | [_, _, some (.int m), _, _] => m.toNat | _ => 0) ?_ ?_ (mo_test (mo_op mo_rI0 mo_var mo_c))
      · exact ⟨wt, [], rfl, hw, same_upd nfr, upd_same, rfl⟩
      · rintro σ H1 ⟨m, ds, rfl, hm, s1, hf, e⟩
        have hpow : (2 : Nat) ^ 1000 ≤ pa.pace ^ 1000 := Nat.pow_le_pow_left p2 1000
        have hlen : (L pa.pace wt).length ≤ 1000 := L_len p2 1000 wt (by omega)
        refine ⟨_, rfl, _, _, rfl, rfl, _, rfl, ite2 (fun c => ?_) (fun c => ?_)⟩
        · have c : (0 : Int) < (m : Int) := of_decide_eq_true c
          have e2 := L_pos p2 (show m ≠ 0 by omega)
          rw [e2] at e
          have hl2 : ds.length + 1 ≤ 1000 := by
            have := congrArg List.length e
            rw [List.length_append, List.length_cons] at this
            omega
          refine ⟨_, rfl, .inl ⟨rfl, _, .of hf⟩, _, rfl, _, rfl, a, _, 0, _, rfl, rfl, sqT_same s1 (sqT_same g hs), rfl, _, _, rfl, rfl, (by show (0 : Int) < (pa.pace : Int); omega), fr, _, _, rfl, rfl, hf, ?_, ?_⟩
          · rw [nVs_len]
            exact small1000 (by omega)
          have s2 : Same H (upd H1 fr (.lst (nVs ds ++ [.int ((m : Int) % (pa.pace : Int))]))) := fun b x hb => by
            rw [upd_ne (ne_of_none hb nfr)]
            exact s1 _ _ hb
          refine ⟨_, rfl, _, rfl, a, _, 0, _, rfl, rfl, sqT_same s2 (sqT_same g hs), rfl, _, _, rfl, rfl, wide_div (by omega) (pow1000 (by omega)) (by decide) (by decide), ?_⟩
          refine ⟨⟨m / pa.pace, ds ++ [m % pa.pace], ?_, ?_, s2, ?_, ?_⟩, ?_⟩
          · show _ = [some (V.ref a), some sv, some (V.int ((m / pa.pace : Nat) : Int)), some (V.ref fr), none]
            rw [Int.natCast_ediv] <;> rfl
          · have := Nat.div_le_self m pa.pace
            omega
          · rw [upd_same, nVs_app]
            show some (HO.lst (_ ++ [V.int ((m : Int) % (pa.pace : Int))])) = some (HO.lst (_ ++ [V.int ((m % pa.pace : Nat) : Int)]))
            rw [Int.natCast_emod]
          · rw [List.append_assoc]
            exact e
          · show ((m : Int) / (pa.pace : Int)).toNat < (m : Int).toNat
            have := Nat.div_lt_self (show 0 < m by omega) (show 1 < pa.pace by omega)
            rw [← Int.natCast_ediv]
            omega
        · have c : ¬ (0 : Int) < (m : Int) := fun z => c (decide_eq_true z)
          obtain rfl : m = 0 := by omega
          rw [L_zero, List.append_nil] at e
          exact ⟨s1, by rw [← e]; exact hf, _, rfl⟩
    · rintro σ H1 ⟨s1, hf, o2, rfl⟩
      have hrv : (nVs (L pa.pace wt)).reverse = nVs (figs pa.pace wt) := by
        unfold figs nVs
        rw [List.map_reverse]
      refine ⟨_, rfl, fr, _, rfl, .of hf, fun q nq => ?_⟩
      rw [hrv]
      have s2 : Same H (upd H1 q (.lst (nVs (figs pa.pace wt)))) := s1.trans (same_upd nq)
      refine ⟨q, rfl, ⟨_, .of upd_same⟩, for_list (K := K) (a := q) (xs := nVs (figs pa.pace wt)) (fun i σ H' => Same (upd H1 q (.lst (nVs (figs pa.pace wt)))) H' ∧ ∃ (x : V) (o4 : Option V), σ = [some (.ref a), some x, o2, some (.ref fr), o4] ∧ StOk pa (((figs pa.pace wt).take i).foldl (ledL pa) st) ∧ Dp K (more G H H') x (tabD (((figs pa.pace wt).take i).foldl (ledL pa) st))) ?_ ?_ ?_ ?_⟩
      · exact ⟨fun _ _ e => e, sv, none, rfl, hst, dp_same (more_old g) _ _ hsv⟩
      · rintro i σ H2 hi ⟨s3, _⟩
        exact .of (s3 _ _ upd_same)
      · rintro i x σ H2 hx ⟨s3, y, o4, rfl, hok, hy⟩
        obtain ⟨d, hdi, rfl⟩ : ∃ d : Nat, (figs pa.pace wt)[i]? = some d ∧ x = V.int (d : Int) := by
          unfold nVs at hx
          rw [List.getElem?_map] at hx
          cases e : (figs pa.pace wt)[i]? with
          | none => rw [e] at hx; cases hx
          | some d => rw [e] at hx; exact ⟨d, rfl, (Option.some.inj hx).symm⟩
        have hdl : d < pa.pace := figs_lt p2 wt d (List.mem_of_getElem? hdi)
        have s4 := s2.trans s3
        refine ⟨_, rfl, _, rfl, _, rfl, more G H H2, .ref a, y, d, pa, _, lim, rfl, more_sub g s4, dp_same (more_old g) _ _ hd, hy, ok, hok, hdl, fun q2 H3 s5 nq2 hq2 => ?_⟩
        have e1 : ((figs pa.pace wt).take (i + 1)).foldl (ledL pa) st = ledL pa (((figs pa.pace wt).take i).foldl (ledL pa) st) d := by
          rw [List.take_add_one, hdi]
          show List.foldl (ledL pa) st (_ ++ [d]) = _
          rw [List.foldl_append]
          rfl
        refine ⟨s3.trans s5, _, _, rfl, ?_, ?_⟩
        · rw [e1]
          exact led_ok ok hok hdl
        · rw [e1]
          refine dp_same more_fresh _ _ (dp_tab ?_)
          rw [fresh_at (s4.free nq2)]
          exact hq2
      · rintro σ H2 ⟨s3, y, o4, rfl, hok, hy⟩
        rw [nVs_len, List.take_length] at hy
        exact ⟨_, rfl, kq y H2 (s2.trans s3) hy⟩
end
end P52

namespace P52
open PySem PySem.Spec PyProof.Rows L2 HG HF
/-- what a root has come to, a tuple that is tracked -/
def spBehindT (K : PySem.W.Frag) : Sp := fun vs H Q _ => ∃ (G : Hp) (v sv : V) (w : Nat) (P : Parts) (st : List Nat) (lim : Nat), vs = [v, sv, .int (w : Int)] ∧ Same G H ∧ Dp K G v (partsD P) ∧ TrT H sv st ∧ P.Ok lim ∧ StOk P st ∧ w < 2 ^ 1000 ∧ ∀ (x : V) (H' : Hp), Same H H' → TrT H' x (behL P st w) → Q x H'
section
variable {P : Program} {w : World} {K : PySem.W.Frag} {mg : Str → Option Value} {base : Heap}
theorem scBhT : FnScope ["parts", "standing", "wait", "figures", "rest"] ["parts", "standing", "wait"] (defScope sBehind) := ⟨rfl, rfl, rfl, by decide +kernel, rfl, by decide +kernel, by decide +kernel⟩
theorem ok_behindT {f fL : Addr} {fd fdL : FuncData} (F : Fun K "_law_behind" "_law_behind" sBehind f fd) (FL : Fun K "_law_led" "_law_led" sLed fL fdL) (bL : Binds K fdL ["parts", "standing", "rest"] []) (gL : mg "_law_led" = some (.ref fL)) (mT : mg "tuple" = none) : FnOk P w K mg base CX0 2 f fd ["parts", "standing", "wait"] (spBehindT K) := by
  have GL : FnOk P w K mg base CX0 1 fL fdL ["parts", "standing", "rest"] (spLed K) := ok_led FL mT
  refine F.ok scBhT (fun vs H Q E h => ?_) (fun cdv A outer s H vs Q E hr h => ?_)
  · obtain ⟨G, v, sv, r, pa, st, lim, rfl, _⟩ := h
    rfl
  · obtain ⟨G, v, sv, wt, pa, st, lim, rfl, g, hd, hsv, ok, hst, hw, kq⟩ := h
    refine ⟨_, (pss_cons (ps_set (i := 3) scBhT.nd rfl (.inl rfl) (pe_lst pa_nil))
      (Evl.pss_cut (ps_while PassesOwn.never (pt_cmpR op_gt (pv 2) pe_int (nomark _))
         (pss_cons (ps_expr (pe_bm PySem.F.plainAttrs_list PySem.F.slot_list_append PySem.F.type_list_append mt_append (pv 3) (pa_cons (pe_op op_mod (pv 2) (pe_ix ix_tup (pv 0) pe_int (fun _ _ => rfl))) pa_nil)))
         (pss_one (ps_set (i := 2) scBhT.nd rfl (.inl rfl) (pe_op op_fdivW (pv 2) (pe_ix ix_tup (pv 0) pe_int (fun _ _ => rfl)))))))
      (pss_cons (ps_for PassesOwn.never rfl (pi_list (pe_revL (pv 3))) (pg_name (i := 4) scBhT.nd rfl (.inl rfl))
         (pss_one (ps_set (i := 1) scBhT.nd rfl (.inl rfl) (pe_call GL hr (by rfl) gL FL.kp bL .nil pass0 (pa_cons (pv 0) (pa_cons (pv 1) (pa_cons (pv 4) pa_nil)))))))
      (pss_one (ps_ret (pv 1)))))), ?_⟩
    have p2 := ok.p2
    have p4 := ok.p4
    obtain ⟨a, vl, xs, rfl, hs, hl, hda⟩ := parts_inv hd
    refine ⟨Nat.zero_le _, fun fr nfr => ?_⟩
    refine ⟨fun σ H' => Same H H' ∧ H' fr = some (.lst (nVs (L pa.pace wt))) ∧ ∃ o2, σ = [some (.ref a), some sv, o2, some (.ref fr), none], ?_, ?_⟩
    · refine while_by (fun σ H' => ∃ (m : Nat) (ds : List Nat), σ = [some (.ref a), some sv, some (.int (m : Int)), some (.ref fr), none] ∧ m < 2 ^ 1000 ∧ Same H H' ∧ H' fr = some (.lst (nVs ds)) ∧ ds ++ L pa.pace m = L pa.pace wt) (fun σ _ => match σ with | [_, _, some (.int m), _, _] => m.toNat | _ => 0) ?_ ?_ (mo_test (mo_op mo_rI0 mo_var mo_c))
      · exact ⟨wt, [], rfl, hw, same_upd nfr, upd_same, rfl⟩
      · rintro σ H1 ⟨m, ds, rfl, hm, s1, hf, e⟩
        have hpow : (2 : Nat) ^ 1000 ≤ pa.pace ^ 1000 := Nat.pow_le_pow_left p2 1000
        have hlen : (L pa.pace wt).length ≤ 1000 := L_len p2 1000 wt (by omega)
        refine ⟨_, rfl, _, _, rfl, rfl, _, rfl, ite2 (fun c => ?_) (fun c => ?_)⟩
        · have c : (0 : Int) < (m : Int) := of_decide_eq_true c
          have e2 := L_pos p2 (show m ≠ 0 by omega)
          rw [e2] at e
          have hl2 : ds.length + 1 ≤ 1000 := by
            have := congrArg List.length e
            rw [List.length_append, List.length_cons] at this
            omega
          refine ⟨_, rfl, .inl ⟨rfl, _, .of hf⟩, _, rfl, _, rfl, a, _, 0, _, rfl, rfl, sqT_same s1 (sqT_same g hs), rfl, _, _, rfl, rfl, (by show (0 : Int) < (pa.pace : Int); omega), fr, _, _, rfl, rfl, hf, ?_, ?_⟩
          · rw [nVs_len]
            exact small1000 (by omega)
          have s2 : Same H (upd H1 fr (.lst (nVs ds ++ [.int ((m : Int) % (pa.pace : Int))]))) := fun b x hb => by
            rw [upd_ne (ne_of_none hb nfr)]
            exact s1 _ _ hb
          refine ⟨_, rfl, _, rfl, a, _, 0, _, rfl, rfl, sqT_same s2 (sqT_same g hs), rfl, _, _, rfl, rfl, wide_div (by omega) (pow1000 (by omega)) (by decide) (by decide), ?_⟩
          refine ⟨⟨m / pa.pace, ds ++ [m % pa.pace], ?_, ?_, s2, ?_, ?_⟩, ?_⟩
          · show _ = [some (V.ref a), some sv, some (V.int ((m / pa.pace : Nat) : Int)), some (V.ref fr), none]
            rw [Int.natCast_ediv] <;> rfl
          · have := Nat.div_le_self m pa.pace
            omega
          · rw [upd_same, nVs_app]
            show some (HO.lst (_ ++ [V.int ((m : Int) % (pa.pace : Int))])) = some (HO.lst (_ ++ [V.int ((m % pa.pace : Nat) : Int)]))
            rw [Int.natCast_emod]
          · rw [List.append_assoc]
            exact e
          · show ((m : Int) / (pa.pace : Int)).toNat < (m : Int).toNat
            have := Nat.div_lt_self (show 0 < m by omega) (show 1 < pa.pace by omega)
            rw [← Int.natCast_ediv]
            omega
        · have c : ¬ (0 : Int) < (m : Int) := fun z => c (decide_eq_true z)
          obtain rfl : m = 0 := by omega
          rw [L_zero, List.append_nil] at e
          exact ⟨s1, by rw [← e]; exact hf, _, rfl⟩
    · rintro σ H1 ⟨s1, hf, o2, rfl⟩
      have hrv : (nVs (L pa.pace wt)).reverse = nVs (figs pa.pace wt) := by
        unfold figs nVs
        rw [List.map_reverse]
      refine ⟨_, rfl, fr, _, rfl, .of hf, fun q nq => ?_⟩
      rw [hrv]
      have s2 : Same H (upd H1 q (.lst (nVs (figs pa.pace wt)))) := s1.trans (same_upd nq)
      refine ⟨q, rfl, ⟨_, .of upd_same⟩, for_list (K := K) (a := q) (xs := nVs (figs pa.pace wt)) (fun i σ H' => Same (upd H1 q (.lst (nVs (figs pa.pace wt)))) H' ∧ ∃ (x : V) (o4 : Option V), σ = [some (.ref a), some x, o2, some (.ref fr), o4] ∧ StOk pa (((figs pa.pace wt).take i).foldl (ledL pa) st) ∧ TrT H' x (((figs pa.pace wt).take i).foldl (ledL pa) st)) ?_ ?_ ?_ ?_⟩
      · exact ⟨fun _ _ e => e, sv, none, rfl, hst, hsv.same s2⟩
      · rintro i σ H2 hi ⟨s3, _⟩
        exact .of (s3 _ _ upd_same)
      · rintro i x σ H2 hx ⟨s3, y, o4, rfl, hok, hy⟩
        obtain ⟨d, hdi, rfl⟩ : ∃ d : Nat, (figs pa.pace wt)[i]? = some d ∧ x = V.int (d : Int) := by
          unfold nVs at hx
          rw [List.getElem?_map] at hx
          cases e : (figs pa.pace wt)[i]? with
          | none => rw [e] at hx; cases hx
          | some d => rw [e] at hx; exact ⟨d, rfl, (Option.some.inj hx).symm⟩
        have hdl : d < pa.pace := figs_lt p2 wt d (List.mem_of_getElem? hdi)
        have s4 := s2.trans s3
        refine ⟨_, rfl, _, rfl, _, rfl, H2, .ref a, y, d, pa, _, lim, rfl, .refl _, dp_same (g.trans s4) _ _ hd, hy.dp, ok, hok, hdl, fun q2 H3 s5 nq2 hq2 => ?_⟩
        have e1 : ((figs pa.pace wt).take (i + 1)).foldl (ledL pa) st = ledL pa (((figs pa.pace wt).take i).foldl (ledL pa) st) d := by
          rw [List.take_add_one, hdi]
          show List.foldl (ledL pa) st (_ ++ [d]) = _
          rw [List.foldl_append]
          rfl
        refine ⟨s3.trans s5, _, _, rfl, ?_, ?_⟩
        · rw [e1]
          exact led_ok ok hok hdl
        · rw [e1]
          exact ⟨q2, rfl, hq2⟩
      · rintro σ H2 ⟨s3, y, o4, rfl, hok, hy⟩
        rw [nVs_len, List.take_length] at hy
        exact ⟨_, rfl, kq y H2 (s2.trans s3) hy⟩
end
end P52

namespace P52
open PySem PySem.Spec PyProof.Rows L2 HG HF
/-- a thing in the place of a standing -/
inductive StK (K : PySem.W.Frag) (H : Hp) : V → Option (List V) → Prop
  | tup {b : Addr} {xs : List V} : SqT K H b xs → xs.length ≤ 100 → (∀ x ∈ xs, Known K H x) → StK K H (.ref b) (some xs)
  | oth {v : V} : OthT K H "tuple" v → StK K H v none
theorem StK.same {K : PySem.W.Frag} {H H' : Hp} {v : V} {q : Option (List V)} (s : Same H H') (h : StK K H v q) : StK K H' v q := by
  cases h with
  | tup a b c => exact .tup (sqT_same s a) b fun x hx => known_same s (c x hx)
  | oth h => exact .oth (h.same s)
def tupB (n : Nat) : Option (List V) → Bool
  | none => false
  | some xs => decide (xs.length = n)
def stB (m n : Nat) : Option (List V) → Bool
  | none => false
  | some xs => decide (xs.length = m) && xs.all (blw (n : Int))
def spTupX (K : PySem.W.Frag) : Sp := fun vs H Q _ => ∃ (v : V) (q : Option (List V)) (n : Nat), vs = [v, .int (n : Int)] ∧ StK K H v q ∧ n ≤ 10 ∧ ∀ H', Same H H' → Q (.bl (tupB n q)) H'
def spIsStX (K : PySem.W.Frag) (At : Hp → Addr → Parts → Prop) : Sp := fun vs H Q _ => ∃ (G : Hp) (x : Addr) (v : V) (P : Parts) (q : Option (List V)), vs = [.ref x, v] ∧ Same G H ∧ At G x P ∧ P.Ok 64 ∧ StK K H v q ∧ ∀ H', Same H H' → Q (.bl (stB P.voices.length P.notes q)) H'
section
variable {P : Program} {w : World} {K : PySem.W.Frag} {mg : Str → Option Value} {base : Heap}
theorem ok_tupofX {f : Addr} {fd : FuncData} {k : Nat} (F : Fun K "_is_tuple_of" "_is_tuple_of" P__is_tuple_of f fd) (mI : mg "isinstance" = none) (mT : mg "tuple" = none) (ml : mg "len" = none) : FnOk P w K mg base CX0 (k + 1) f fd ["thing", "many"] (spTupX K) := by
  refine F.ok kcTO (fun vs H Q E h => ?_) (fun cdv A outer s H vs Q E hr h => ?_)
  · obtain ⟨v, q, n, rfl, _⟩ := h
    rfl
  · obtain ⟨v, q, n, rfl, hv, hn, k⟩ := h
    refine ⟨_, (pss_one (ps_ret (pe_and (pe_callB (id := "isinstance") (r := rIsi K) call_isi (by rfl) mI (by decide +kernel) (pa_cons (pv 0) (pa_cons (pe_bltn (v := .ty "tuple") (by rfl) mT (by decide +kernel) rfl) pa_nil))) (pe_one (pe_cmpR op_eq (pe_callB call_len_seq (by rfl) ml PySem.boot_len (pa_cons (pv 0) pa_nil)) (pv 1) (nomark _)))))), ?_⟩
    cases hv with
    | oth h =>
      obtain ⟨u, ty, e⟩ := h.kit (.inl rfl)
      exact ⟨_, rfl, v, .ty "tuple", .type u, .type "tuple", false, rfl, .ty _, ty, e, _, rfl, iteF (k _ (.refl _))⟩
    | tup h hl hk =>
      rename_i b xs
      have k := k H (Same.refl _)
      refine ⟨_, rfl, _, .ty "tuple", .type "tuple", .type "tuple", true, rfl, .ty _, ty_tup h, kit_tup_t, _, rfl, iteT ⟨_, rfl, b, xs, rfl, .inr h, _, rfl, rfl, ?_⟩⟩
      have e : decide (V.int (xs.length : Int) = V.int (n : Int)) = decide (xs.length = n) := by
        by_cases c : xs.length = n
        · rw [decide_eq_true c, decide_eq_true (by rw [c])]
        · rw [decide_eq_false c, decide_eq_false (fun z => c (by have := V.int.inj z; omega))]
      rw [e]
      exact k
theorem kcIs : FnScope ["choir", "thing", "note"] ["choir", "thing"] (defScope P_is_standing) := ⟨rfl, rfl, rfl, by decide +kernel, rfl, by decide +kernel, by decide +kernel⟩
theorem ok_isst {f C : Addr} {fd : FuncData} (F : Fun K "is_standing" "is_standing" P_is_standing f fd) (cl : Cls K C) (dT : Df P w K mg base "_is_tuple_of" 1 ["thing", "many"] (spTupX K)) (dB : Df P w K mg base "is_below" 2 ["thing", "limit"] (spBlw K))
    (mL : Mf P w K mg base C "__len__" 1 ["self"] (spFldM (AtC K C) fun P => (P.voices.length : Int))) (mN : Mf P w K mg base C "notes" 1 ["self"] (spFldM (AtC K C) fun P => (P.notes : Int))) (ml : mg "len" = none) (mA : mg "all" = none) : FnOk P w K mg base CX0 4 f fd ["choir", "thing"] (spIsStX K (AtC K C)) := by
  refine F.ok kcIs (fun vs H Q E h => ?_) (fun cdv A outer s H vs Q E hr h => ?_)
  · obtain ⟨G, x, v, pa, st, rfl, _⟩ := h
    rfl
  · obtain ⟨G, x, v, pa, q, rfl, g, hat, ok, hst, k⟩ := h
    refine ⟨_, (pss_cons (ps_if (pt_not (pt_val (pe_cD dT hr (by rfl) (pa_cons (pv 1) (pa_cons (pe_callB (call_lenOwn mL hr) (by rfl) ml PySem.boot_len (pa_cons (pv 0) pa_nil)) pa_nil)))))
         (pss_one (ps_ret pe_bl))
         pss_nil)
      (pss_one (ps_ret (pe_callB (cr_all rfl) (by rfl) mA (by decide +kernel) (pa_cons (pe_lc (own := [("note", 2)]) (g := gName 2) (tt := tYes) rfl kcIs.nd (pi_tup (pv 1)) (blkOk_by (N := ["choir", "thing", "note"]) (sc := defScope P_is_standing) (by decide +kernel)) (fun _ _ _ _ _ => (pg_name (i := 2) kcIs.nd rfl (.inl rfl))) (fun _ _ _ _ _ => pts_nil) (fun _ _ _ _ _ => (pe_cD (sp := spBlw K) (k := 2) (ps := ["thing", "limit"]) dB hr (by rfl) (pa_cons (pv 2) (pa_cons (pe_mD0 (C := C) (m := "notes") (k := 1) (ps := ["self"]) (sp := spFldM (AtC K C) fun P => (P.notes : Int)) (pv 0) cl mN hr) pa_nil))))) pa_nil))))), ?_⟩
    obtain ⟨dx, fs, hxi, hms⟩ := atC_k.ins hat
    have v6 := ok.v6
    refine ⟨_, rfl, _, rfl, x, dx, fs, rfl, g _ _ hxi, G, x, pa, rfl, g, hat, pa.voices.length, rfl, by omega, v, q, pa.voices.length, rfl, hst, by omega, fun H1 s1 => ⟨_, rfl, ?_⟩⟩
    have g1 := g.trans s1
    cases hst with
    | oth h => exact iteT (k _ s1)
    | tup h hl hk =>
      rename_i b xs
      by_cases c : xs.length = pa.voices.length
      rotate_left
      · have k := k _ s1
        rw [show stB pa.voices.length pa.notes (some xs) = false by show (decide (xs.length = pa.voices.length) && _) = false; rw [decide_eq_false c]; rfl] at k
        rw [show tupB pa.voices.length (some xs) = false from decide_eq_false c]
        exact iteT k
      rw [show tupB pa.voices.length (some xs) = true from decide_eq_true c]
      refine iteF ?_
      refine ⟨_, rfl, b, rfl, ⟨_, sqT_same s1 h⟩, fun D nD => ?_⟩
      refine lc_blT (K := K) nD (blw (pa.notes : Int)) (sqT_same s1 h) (by omega) (fun y Hc Z hy s4 kk => ?_) (fun H4 s4 hD => ?_)
      · exact ⟨rfl, _, rfl, _, rfl, x, dx, fs, rfl, (g1.trans s4) _ _ hxi, hms _ (by decide +kernel), G, x, pa, rfl, g1.trans s4, hat, y, (pa.notes : Int), rfl, known_same (s1.trans s4) (hk y hy), kk⟩
      · refine ⟨D, _, rfl, .inl (.of hD), ?_⟩
        have k := k _ (s1.trans s4)
        rw [show stB pa.voices.length pa.notes (some xs) = xs.all (blw (pa.notes : Int)) by show (decide (xs.length = pa.voices.length) && _) = _; rw [decide_eq_true c]; rfl] at k
        rw [List.all_map]
        exact k
end
end P52

namespace P52
open PySem PySem.Spec PyProof.Rows L2 HG HF
def spEqn (K : PySem.W.Frag) : Sp := fun vs H Q _ => ∃ (G : Hp) (v sv : V) (P : Parts) (lim : Nat) (rt : List Nat) (d : Addr) (l : List Nat), vs = [v, sv, .ref d] ∧ Same G H ∧ G d = none ∧ Dp K G v (partsD P) ∧ P.Ok lim ∧ lim ≤ 64 ∧ StOk P rt ∧ TrT G sv rt ∧ H d = some (.dT (wkv P rt l)) ∧ WtL P rt l ∧ ∀ (H' : Hp), Same H H' → Q (.bl true) H'
section
variable {P : Program} {w : World} {K : PySem.W.Frag} {mg : Str → Option Value} {base : Heap}
theorem scEn : FnScope ["parts", "root", "told", "due", "some", "standing", "wait", "rest"] ["parts", "root", "told"] (defScope sEquation) := ⟨rfl, rfl, rfl, by decide +kernel, rfl, by decide +kernel, by decide +kernel⟩
theorem ok_eqn {f : Addr} {fd : FuncData} (F : Fun K "_law_equation" "_law_equation" sEquation f fd) (dL : Df P w K mg base "_law_led" 1 ["parts", "standing", "rest"] (spLed K)) (mr : mg "range" = none) (mi : mg "min" = none) : FnOk P w K mg base CX0 2 f fd ["parts", "root", "told"] (spEqn K) := by
  refine F.ok scEn (fun vs H Q E h => ?_) (fun cdv A outer s H vs Q E hr h => ?_)
  · obtain ⟨G, v, sv, pa, lim, rt, d, l, rfl, _⟩ := h
    rfl
  · obtain ⟨G, v, sv, pa, lim, rt, d, l, rfl, g, gd, hvd, ok, hlim, hrt, htr, hd, hw, kq⟩ := h
    refine ⟨_, (Evl.pss_cut (ps_set (i := 3) scEn.nd rfl (.inl rfl) pe_dnewT)
      (Evl.pss_cut (ps_setLc (i := 4) (own := [("rest", 7)]) (g := gName 7) (tt := tYes) rfl scEn.nd rfl rfl (sw_true rfl rfl rfl (by decide +kernel)) (pi_range2 rfl mr (pa_cons pe_int (pa_cons (pe_ix (r := rIxT K) ix_tup (pv 0) pe_int (fun _ _ => rfl)) pa_nil))) (blkOk_by (N := ["parts", "root", "told", "due", "some", "standing", "wait", "rest"]) (sc := defScope sEquation) (by decide +kernel)) (fun _ _ _ _ _ => (pg_name (i := 7) scEn.nd rfl (.inl rfl))) (fun _ _ _ _ _ => pts_nil) (fun _ _ _ _ _ => (pe_tup (pa_cons (pe_cD dL hr (by rfl) (pa_cons (pv 0) (pa_cons (pv 1) (pa_cons (pv 7) pa_nil)))) (pa_cons (pv 7) pa_nil)))))
      (Evl.pss_cut (ps_lock (ps_for PassesOwn.never rfl (pi_itemsT (pv 2)) (pg_tup rfl (pgs_cons (pg_name (i := 5) scEn.nd rfl (.inr rfl)) (pgs_cons (pg_name (i := 6) scEn.nd rfl (.inr rfl)) pgs_nil)))
         (pss_one (ps_set (i := 4) scEn.nd rfl (.inl rfl) (pe_op op_cat (pv 4) (pe_lc (own := [("rest", 7)]) (g := gName 7) (tt := tYes) rfl scEn.nd (pi_range1 rfl mr (pa_cons (pe_ix (r := rIxT K) ix_tup (pv 0) pe_int (fun _ _ => rfl)) pa_nil)) (blkOk_by (N := ["parts", "root", "told", "due", "some", "standing", "wait", "rest"]) (sc := defScope sEquation) (by decide +kernel)) (fun _ _ _ _ _ => (pg_name (i := 7) scEn.nd rfl (.inl rfl))) (fun _ _ _ _ _ => pts_nil) (fun _ _ _ _ _ => (pe_tup (pa_cons (pe_cD dL hr (by rfl) (pa_cons (pv 0) (pa_cons (pv 5) (pa_cons (pv 7) pa_nil)))) (pa_cons (pe_op op_add (pe_op op_mul (pe_ix (r := rIxT K) ix_tup (pv 0) pe_int (fun _ _ => rfl)) (pv 6)) (pv 7)) pa_nil))))))))))
      (Evl.pss_cut (ps_for PassesOwn.never rfl (pi_list (pv 4)) (pg_tup rfl (pgs_cons (pg_name (i := 5) scEn.nd rfl (.inr rfl)) (pgs_cons (pg_name (i := 6) scEn.nd rfl (.inr rfl)) pgs_nil)))
         (pss_one (ps_dput (hu_of hr) (pv 3) (pv 5) (pe_callB (call_min2 rfl) (by rfl) mi (by decide +kernel) (pa_cons (pv 6) (pa_cons (pe_dget2 (hu_of hr) (pv 3) (pv 5) (pv 6) ⟨rfl, by rfl, rfl, by rfl⟩) pa_nil))) rfl)))
      (pss_one (ps_ret (pe_cmpR (op_eqT (hu_of hr)) (pv 3) (pv 2) (nomark _)))))))), ?_⟩
    have p2 := ok.p2
    have p4 := ok.p4
    obtain ⟨a, vl, xs, rfl, hs, hl, hda⟩ := parts_inv hvd
    have hll := beh_len ok hlim hrt hw.sort fun w h => (hw.mem w).mp h
    refine ⟨fun σ H' => Same H H' ∧ ∃ e : Addr, H e = none ∧ H' e = some (.dT []) ∧ σ = [some (.ref a), some sv, some (.ref d), some (.ref e), none, none, none, none], ?_, ?_⟩
    · exact fun e ne => ⟨same_upd ne, e, ne, upd_same, rfl⟩
    rintro σ H1 ⟨s1, e, ne, he, rfl⟩
    have g1 := g.trans s1
    have hd1 := s1 _ _ hd
    have nde : d ≠ e := ne_of_none hd ne
    refine ⟨fun σ H' => Same H1 H' ∧ ∃ (so : Addr) (ts : List Addr), H1 so = none ∧ H' so = some (.lst (ts.map V.ref)) ∧ RowsS H' H' pa rt ts (List.range' 1 (pa.pace - 1)) ∧ σ = [some (.ref a), some sv, some (.ref d), some (.ref e), some (.ref so), none, none, none], ?_, ?_⟩
    · refine ⟨_, rfl, a, _, 0, _, rfl, rfl, sqT_same g1 hs, rfl, 1, (pa.pace : Int), rfl, ⟨by decide, by decide, by omega, by omega⟩, ?_⟩
      rw [show ((pa.pace : Int) - 1).toNat = pa.pace - 1 by omega]
      intro D nD
      refine lc_range (lo := 1) (n := pa.pace - 1) (fun j H' => Same H1 H' ∧ ∃ ts : List Addr, H' D = some (.lst (ts.map V.ref)) ∧ RowsS H' H' pa rt ts (List.range' 1 j)) ⟨same_upd nD, [], upd_same, .nil⟩ ?_ ?_
      · rintro j H2 hj ⟨s2, ts, hD, hts⟩
        have g2 := g1.trans s2
        have htl := hts.1
        rw [List.length_range'] at htl
        refine ⟨rfl, ?_⟩
        rw [show (1 : Int) + (j : Int) = ((j + 1 : Nat) : Int) by omega]
        refine ⟨_, rfl, _, rfl, _, rfl, H2, .ref a, sv, j + 1, pa, rt, lim, rfl, .refl _, dp_same g2 _ _ hvd, (htr.same g2).dp, ok, hrt, by omega, fun u H3 s3 nu hu => ?_⟩
        rw [← beh_one p2 (by omega) (by omega)] at hu
        have hD3 := s3 _ _ hD
        refine ⟨_, rfl, (by show 2 ≤ sizeLine; decide), fun t nt => ⟨_, same_upd nt _ _ hD3, by rw [List.length_map, htl]; exact small1000 (by omega), same_put ((s2.trans s3).trans (same_upd nt)) nD, ts ++ [t], by rw [upd_same, List.map_append]; rfl, ?_⟩⟩
        have e1 : List.range' 1 (j + 1) = List.range' 1 j ++ [j + 1] := by
          rw [List.range'_concat]
          congr 2
          omega
        rw [e1]
        exact hts.pair s3 hD3 hu nt
      · rintro H2 ⟨s2, ts, hD, hts⟩
        exact ⟨s2, D, ts, nD, hD, hts, rfl⟩
    rintro σ H2 ⟨s2, so, ts, nso, hso, hts, rfl⟩
    have g2 := g1.trans s2
    have hd2 := s2 _ _ hd1
    have he2 : ∀ {o : HO}, H1 e = some o → H2 e = some o := fun q => s2 _ _ q
    let us : Nat → List Nat := fun j => List.range' 1 (pa.pace - 1) ++ (l.take j).flatMap fun w => (List.range pa.pace).map fun r => pa.pace * w + r
    have usl : ∀ j, (us j).length ≤ 260 := fun j => by
      show (List.range' 1 (pa.pace - 1) ++ (l.take j).flatMap fun w => (List.range pa.pace).map fun r => pa.pace * w + r).length ≤ 260
      rw [List.length_append, List.length_range', sums_len, List.length_take]
      have h1 : min j l.length * pa.pace ≤ 64 * 4 := Nat.mul_le_mul (by omega) p4
      omega
    refine ⟨fun σ H' => Same H2 H' ∧ ∃ (so : Addr) (ts : List Addr) (o5 o6 : Option V), H' so = some (.lst (ts.map V.ref)) ∧ RowsS H' H' pa rt ts (sums pa l) ∧ σ = [some (.ref a), some sv, some (.ref d), some (.ref e), some (.ref so), o5, o6, none], ?_, ?_⟩
    · refine ⟨d, _, hd2, trivial, fun od => ?_⟩
      have gl : Same G (upd H2 d (.frz od (.dT (wkv pa rt l)))) := fun b o q => by
        rw [upd_ne fun z => by rw [z, gd] at q; cases q]
        exact g2 _ _ q
      have kl : KeepT H2 (upd H2 d (.frz od (.dT (wkv pa rt l)))) := fun b ys q => by
        rw [upd_ne fun z => by rw [z, hd2] at q; cases q]
        exact q
      have hso0 : (upd H2 d (.frz od (.dT (wkv pa rt l)))) so = some (.lst (ts.map V.ref)) := by
        rw [upd_ne fun z => by rw [z, hd2] at hso; cases hso]
        exact hso
      have hts0 := hts.kt kl
      have hl2 : ∀ b, b ≠ d → (upd H2 d (.frz od (.dT (wkv pa rt l)))) b = H2 b := fun b n => upd_ne n
      have hld : (upd H2 d (.frz od (.dT (wkv pa rt l)))) d = some (.frz od (.dT (wkv pa rt l))) := upd_same
      have nld : ∀ b, (upd H2 d (.frz od (.dT (wkv pa rt l)))) b = none → H2 b = none := fun b n => by
        by_cases c : b = d
        · rw [c, upd_same] at n; cases n
        · rw [upd_ne c] at n; exact n
      clear kl hso hts
      generalize upd H2 d (.frz od (.dT (wkv pa rt l))) = Hl at *
      have hwl : (wkv pa rt l).length = l.length := List.length_map ..
      refine ⟨_, rfl, d, od, _, rfl, hld, for_it walk_itemsT (fun j σ H' => Same Hl H' ∧ ∃ (so : Addr) (ts : List Addr) (o5 o6 : Option V), H' so = some (.lst (ts.map V.ref)) ∧ RowsS H' H' pa rt ts (us j) ∧ σ = [some (.ref a), some sv, some (.ref d), some (.ref e), some (.ref so), o5, o6, none]) ⟨.refl _, so, ts, none, none, hso0, ?_, rfl⟩ (fun j σ H' _ z => z.1 _ _ hld) ?_ ?_⟩
      · show RowsS Hl Hl pa rt ts (List.range' 1 (pa.pace - 1) ++ (l.take 0).flatMap _)
        rw [List.take_zero, List.flatMap_nil, List.append_nil]
        exact hts0
      · rintro j y σ H3 H4 hj ⟨s3, so, ts, o5, o6, hso, hts, rfl⟩ ⟨T, k, vv, q, hkv, rfl, nT, hq, rfl⟩
        obtain ⟨c, hc, hkc⟩ : ∃ c, l[j]? = some c ∧ (keyT (behL pa rt c), V.int (c : Int)) = (k, vv) := by
          unfold wkv at hkv
          rw [List.getElem?_map] at hkv
          cases e : l[j]? with
          | none => rw [e] at hkv; cases hkv
          | some c => rw [e] at hkv; exact ⟨c, rfl, Option.some.inj hkv⟩
        cases hkc
        rw [keyT_v] at hq
        have s4 : Same H3 (upd H3 T (.tup [.ref q, .int (c : Int)])) := same_upd nT
        have hT : (upd H3 T (.tup [.ref q, .int (c : Int)])) T = some (.tup [.ref q, .int (c : Int)]) := upd_same
        have hq4 := s4 _ _ hq
        have hso4 := s4 _ _ hso
        have hts4 := hts.kt (KeepT.same s4)
        generalize upd H3 T (.tup [.ref q, .int (c : Int)]) = H4 at *
        have s34 := s3.trans s4
        have g4 := gl.trans s34
        have hcl := (hw.mem c).mp (List.mem_of_getElem? hc)
        have htl := hts.1
        have hul := usl j
        refine ⟨T, _, rfl, .inl (.inl hT), rfl, _, _, rfl, _, _, rfl, rfl, _, rfl, _, rfl, a, _, 0, _, rfl, rfl, sqT_same g4 hs, rfl, (pa.pace : Int), rfl, by omega, by omega, ?_⟩
        rw [show ((pa.pace : Int)).toNat = pa.pace by omega]
        intro D nD
        refine lc_range (lo := 0) (n := pa.pace) (fun r H' => Same H4 H' ∧ ∃ ws : List Addr, H' D = some (.lst (ws.map V.ref)) ∧ RowsS H' H' pa rt ws ((List.range r).map fun r => pa.pace * c + r)) ⟨same_upd nD, [], upd_same, .nil⟩ ?_ ?_
        · rintro r H5 hr5 ⟨s5, ws, hD, hws⟩
          have g5 := g4.trans s5
          have hwl5 := hws.1
          rw [List.length_map, List.length_range] at hwl5
          refine ⟨rfl, ?_⟩
          rw [Int.zero_add]
          refine ⟨_, rfl, _, rfl, _, rfl, H5, .ref a, .ref q, r, pa, behL pa rt c, lim, rfl, .refl _, dp_same g5 _ _ hvd, dp_tab (s5 _ _ hq4), ok, beh_ok ok hrt c, hr5, fun u H6 s6 nu hu => ?_⟩
          rw [← beh_mul p2 hr5 (by
            have h1 := (lw_iff.mp hcl).1
            have : 1 ≤ pa.pace * c := Nat.mul_pos (by omega) h1
            omega)] at hu
          have hD6 := s6 _ _ hD
          refine ⟨_, rfl, a, _, 0, _, rfl, rfl, sqT_same (g5.trans s6) hs, rfl, _, rfl, _, _, rfl, rfl, .inl ⟨by omega, by omega⟩, _, rfl, _, _, rfl, rfl, (by show 2 ≤ sizeLine; decide), fun t nt => ?_⟩
          have ez : (V.int ((pa.pace : Int) * (c : Int) + (r : Int))) = V.int ((pa.pace * c + r : Nat) : Int) := by
            rw [Int.natCast_add, Int.natCast_mul]
          have e2 : upd H6 t (.tup [.ref u, (fun i j => V.int (i + j)) ((pa.pace : Int) * (c : Int)) (r : Int)]) = upd H6 t (.tup [.ref u, .int ((pa.pace * c + r : Nat) : Int)]) := by
            show upd H6 t (.tup [.ref u, V.int ((pa.pace : Int) * (c : Int) + (r : Int))]) = _
            rw [ez]
          rw [e2]
          refine ⟨_, same_upd nt _ _ hD6, by rw [List.length_map, hwl5]; exact small1000 (by omega), same_put ((s5.trans s6).trans (same_upd nt)) nD, ws ++ [t], by rw [upd_same, List.map_append]; rfl, ?_⟩
          rw [List.range_succ, List.map_append]
          exact hws.pair s6 hD6 hu nt
        · rintro H5 ⟨s5, ws, hD, hws⟩
          have hwl5 := hws.1
          rw [List.length_map, List.length_range] at hwl5
          refine ⟨so, D, _, _, rfl, rfl, s5 _ _ hso4, hD, ?_, fun p np => ?_⟩
          · rw [List.length_map, List.length_map, hwl5, htl]
            exact Nat.le_of_lt (small1000 (by omega))
          · have sp : Same H5 (upd H5 p (.lst (ts.map V.ref ++ ws.map V.ref))) := same_upd np
            refine ⟨s34.trans (s5.trans sp), p, ts ++ ws, _, _, by rw [upd_same, List.map_append], ?_, rfl⟩
            have e1 : us (j + 1) = us j ++ (List.range pa.pace).map fun r => pa.pace * c + r := by
              show List.range' 1 (pa.pace - 1) ++ (l.take (j + 1)).flatMap _ = (List.range' 1 (pa.pace - 1) ++ (l.take j).flatMap _) ++ _
              rw [List.take_add_one, hc, Option.toList_some, List.flatMap_append, List.append_assoc]
              rw [List.flatMap_cons, List.flatMap_nil, List.append_nil]
            rw [e1]
            exact ((hts4.kt (KeepT.same s5)).app hws).kt (KeepT.same sp)
      · rintro σ H3 ⟨s3, so, ts, o5, o6, hso, hts, rfl⟩
        have hH3d := s3 _ _ hld
        have nso : so ≠ d := fun z => by rw [z, hH3d] at hso; cases hso
        have e1 : us (wkv pa rt l).length = sums pa l := by
          show List.range' 1 (pa.pace - 1) ++ (l.take (wkv pa rt l).length).flatMap _ = _
          rw [hwl, List.take_length]
          rfl
        rw [e1] at hts
        refine ⟨hH3d, fun b o q => ?_, so, ts, _, _, by rw [upd_ne nso]; exact hso, hts.kt fun b ys q => by rw [upd_ne fun z => by rw [z, hH3d] at q; cases q]; exact q, rfl⟩
        by_cases c : b = d
        · rw [c] at q ⊢
          rw [upd_same, ← hd2]
          exact q
        · rw [upd_ne c]
          exact s3 _ _ (by rw [hl2 b c]; exact q)
    clear hso hts
    rintro σ H3 ⟨s3, so, ts, o5, o6, hso, hts, rfl⟩
    have he3 := s3 _ _ (s2 _ _ he)
    have s03 : Same H H3 := s1.trans (s2.trans s3)
    have nse : so ≠ e := fun z => by rw [z, he3] at hso; cases hso
    have hsl : (sums pa l).length ≤ 260 := by
      have := usl l.length
      show (List.range' 1 (pa.pace - 1) ++ l.flatMap fun w => (List.range pa.pace).map fun r => pa.pace * w + r).length ≤ 260
      have e1 : us l.length = List.range' 1 (pa.pace - 1) ++ l.flatMap fun w => (List.range pa.pace).map fun r => pa.pace * w + r := by
        show List.range' 1 (pa.pace - 1) ++ (l.take l.length).flatMap _ = _
        rw [List.take_length]
      rwa [e1] at this
    have htl := hts.1
    refine ⟨fun σ H' => Same H H' ∧ ∃ (dvs : List (List Key × V)) (o5 o6 : Option V), H' e = some (.dT dvs) ∧ DueT pa rt dvs (sums pa l) ∧ σ = [some (.ref a), some sv, some (.ref d), some (.ref e), some (.ref so), o5, o6, none], ?_, ?_⟩
    · refine ⟨_, rfl, so, rfl, ⟨_, .inl (.of hso)⟩, for_list (K := K) (a := so) (xs := ts.map V.ref) (fun j σ H' => Same H H' ∧ H' so = some (.lst (ts.map V.ref)) ∧ RowsS H' H' pa rt ts (sums pa l) ∧ ∃ (dvs : List (List Key × V)) (o5 o6 : Option V), H' e = some (.dT dvs) ∧ DueT pa rt dvs ((sums pa l).take j) ∧ σ = [some (.ref a), some sv, some (.ref d), some (.ref e), some (.ref so), o5, o6, none]) ⟨s03, hso, hts, [], o5, o6, he3, .nil, rfl⟩ (fun j σ H' _ z => .inl (.of z.2.1)) ?_ ?_⟩
      · rintro j y σ H4 hy ⟨s4, hso4, hts4, dvs, o5, o6, he4, hdu, rfl⟩
        rw [List.getElem?_map] at hy
        obtain ⟨t, ht, rfl⟩ : ∃ t, ts[j]? = some t ∧ y = V.ref t := by
          cases e : ts[j]? with
          | none => rw [e] at hy; cases hy
          | some t => rw [e] at hy; exact ⟨t, rfl, (Option.some.inj hy).symm⟩
        obtain ⟨u, z, hu, htc, ⟨q, rfl, hq⟩⟩ := hts4.2 j t ht
        have hjl := (List.getElem?_eq_some_iff.mp ht).1
        have hdl := hdu.len
        rw [List.length_take] at hdl
        obtain ⟨m, hm, hput⟩ := hdu.put (u := u) rfl
        have hqk : H4 q = some (.tup ((keyT (behL pa rt u)).map kV)) := by rw [keyT_v]; exact hq
        refine ⟨t, _, rfl, .inl (.inl htc), rfl, _, _, rfl, _, _, rfl, rfl, _, rfl, _, rfl, e, rfl, .inr ⟨dvs, .inl he4⟩, _, rfl, _, rfl, _, DGet.t he4 hqk, (u : Int), (m : Int), by rw [hm], _, rfl, _, rfl, e, _, rfl, DPut.t he4 hqk (small1000 (by omega)), ?_⟩
        have k5 : KeepT H4 (upd H4 e (.dT (putK dvs (keyT (behL pa rt u)) (.int (if (m : Int) < (u : Int) then (m : Int) else (u : Int)))))) := fun b ys q => by
          rw [upd_ne fun z => by rw [z, he4] at q; cases q]
          exact q
        refine ⟨same_put s4 ne, by rw [upd_ne nse]; exact hso4, hts4.kt k5, _, _, _, upd_same, ?_, rfl⟩
        rw [List.take_add_one, hu]
        exact hput
      · rintro σ H4 ⟨s4, hso4, hts4, dvs, o5, o6, he4, hdu, rfl⟩
        rw [List.length_map, htl, List.take_length] at hdu
        exact ⟨s4, dvs, o5, o6, he4, hdu, rfl⟩
    clear hso hts
    rintro σ H4 ⟨s4, dvs, o5, o6, he4, hdu, rfl⟩
    obtain ⟨h1, h2⟩ := hdu.same p2 hw
    exact ⟨_, rfl, _, rfl, e, d, dvs, _, rfl, rfl, he4, s4 _ _ hd, h1, h2, kq H4 s4⟩
end
end P52

namespace P52
open PySem PySem.Spec PyProof.Rows L2 HG HF
def spIsPr (K : PySem.W.Frag) (C : Addr) : Sp := fun vs H Q _ => ∃ (G : Hp) (x t : Addr) (y : V) (P : Parts) (st : List Nat) (w : Nat), vs = [.ref x, .ref t] ∧ Same G H ∧ AtC K C G x P ∧ P.Ok 64 ∧ H t = some (.tup [y, .int (w : Int)]) ∧ TrT H y st ∧ StOk P st ∧ ∀ (H' : Hp), Same H H' → Q (.bl true) H'
def spAreW (K : PySem.W.Frag) (C : Addr) : Sp := fun vs H Q _ => ∃ (G : Hp) (x : Addr) (sv : V) (P : Parts) (rl ll : Addr) (rt : List Nat) (m : Nat) (q : Addr) (ts : List Addr) (l : List Nat), vs = [.ref x, sv, .ref q] ∧ Same G H ∧ G rl = none ∧ AtF K C G x P rl ll ∧ TrT G sv rt ∧ P.Ok 64 ∧ StOk P rt ∧ RchOk H rl P m ∧ m ≤ 900 ∧ H q = some (.lst (ts.map V.ref)) ∧ RowsS H H P rt ts l ∧ WtL P rt l ∧ ∀ (H' : Hp), Kx rl H H' → RchOk H' rl P (m + 1) → Q (.bl true) H'
theorem fine_rows {P : Parts} {lim : Nat} (ok : P.Ok lim) (hlim : lim ≤ 64) {rt l : List Nat} (hrt : StOk P rt) (hw : WtL P rt l) : Fine (.list (l.map (rowD P rt))) := by
  have hll := beh_len ok hlim hrt hw.sort fun w h => (hw.mem w).mp h
  refine (sz_list (b := 2) (n := 277) (m := 64) (fun d hm => ?_) (by rw [List.length_map]; exact hll)).fine (by decide) (by decide)
  obtain ⟨c, hc, rfl⟩ := List.mem_map.mp hm
  refine sz_tup (b := 1) (n := 135) (m := 2) (fun d hd => ?_) (Nat.le_refl _)
  rcases List.mem_cons.mp hd with rfl | hd
  · exact sz_tab (beh_ok ok hrt c).2 ok.n5 (by rw [(beh_ok ok hrt c).1]; exact ok.v6)
  · rw [List.mem_singleton.mp hd]
    exact (sz_natB (Nat.lt_of_lt_of_le (lw_lt ok hlim hrt ((hw.mem c).mp hc)) (Nat.le_trans (Nat.pow_le_pow_left ok.p4 64) (by decide +kernel)))).up (by omega) (by omega)
theorem st_true {pa : Parts} {st : List Nat} (h : StOk pa st) : stB pa.voices.length pa.notes (some (nVs st)) = true := by
  show (decide ((nVs st).length = pa.voices.length) && (nVs st).all (blw (pa.notes : Int))) = true
  rw [decide_eq_true (by rw [nVs_len]; exact h.1), Bool.true_and, List.all_eq_true]
  intro x hx
  obtain ⟨d, hd, rfl⟩ := List.mem_map.mp hx
  have := h.2 d hd
  show (decide ((0 : Int) ≤ (d : Int)) && decide ((d : Int) < (pa.notes : Int))) = true
  rw [decide_eq_true (by omega), decide_eq_true (by omega)]
  rfl
section
variable {P : Program} {w : World} {K : PySem.W.Frag} {mg : Str → Option Value} {base : Heap}
theorem kcIp : FnScope ["choir", "thing"] ["choir", "thing"] (defScope P__is_pair) := ⟨rfl, rfl, rfl, by decide +kernel, rfl, by decide +kernel, by decide +kernel⟩
theorem ok_ispair {f C : Addr} {fd : FuncData} (F : Fun K "_is_pair" "_is_pair" P__is_pair f fd) (dI : Df P w K mg base "is_standing" 4 ["choir", "thing"] (spIsStX K (AtC K C))) (dW : Df P w K mg base "is_whole" 1 ["thing"] (spK K wh)) (mI : mg "isinstance" = none) (mT : mg "tuple" = none) (ml : mg "len" = none) : FnOk P w K mg base CX0 5 f fd ["choir", "thing"] (spIsPr K C) := by
  refine F.ok kcIp (fun vs H Q E h => ?_) (fun cdv A outer s H vs Q E hr h => ?_)
  · obtain ⟨G, x, t, y, pa, st, wt, rfl, _⟩ := h
    rfl
  · obtain ⟨G, x, t, y, pa, st, wt, rfl, g, hat, ok, ht, hy, hst, k⟩ := h
    refine ⟨_, (pss_cons (ps_if (PW.pt (pw_or (pt_not (pt_val (pe_callB (id := "isinstance") (r := rIsi K) call_isi (by rfl) mI (by decide +kernel) (pa_cons (pv 1) (pa_cons (pe_bltn (v := .ty "tuple") (by rfl) mT (by decide +kernel) rfl) pa_nil))))) (pw_or1 (pt_cmpR op_ne (pe_callB call_len_seq (by rfl) ml PySem.boot_len (pa_cons (pv 1) pa_nil)) pe_int (nomark _)))))
         (pss_one (ps_ret pe_bl))
         pss_nil)
      (pss_one (ps_ret (pe_and (pe_cD dI hr (by rfl) (pa_cons (pv 0) (pa_cons (pe_ix (r := rIxT K) ix_tup (pv 1) pe_int (fun _ _ => rfl)) pa_nil))) (pe_one (pe_cD dW hr (by rfl) (pa_cons (pe_ix (r := rIxT K) ix_tup (pv 1) pe_int (fun _ _ => rfl)) pa_nil))))))), ?_⟩
    refine ⟨_, rfl, _, .ty "tuple", .type "tuple", .type "tuple", true, rfl, .ty _, ty_tup (.inl (.inl ht)), kit_tup_t, true, rfl, iteN rfl ?_⟩
    refine ⟨_, rfl, t, _, rfl, .inr (.inl (.inl ht)), rfl, _, rfl, iteF ?_⟩
    obtain ⟨b, rfl, hb⟩ := hy
    have hsl := hst.1
    have v6 := ok.v6
    refine ⟨_, rfl, _, rfl, t, _, 0, _, rfl, rfl, .inl (.inl ht), rfl, G, x, .ref b, pa, some (nVs st), rfl, g, hat, ok, .tup (.inl (.inl hb)) (by rw [nVs_len]; omega) (fun z hz => ?_), fun H1 s1 => ?_⟩
    · obtain ⟨d, _, rfl⟩ := List.mem_map.mp hz
      exact trivial
    rw [st_true hst]
    refine ⟨true, rfl, iteT ?_⟩
    exact ⟨_, rfl, t, _, 1, _, rfl, rfl, .inl (.inl (s1 _ _ ht)), rfl, .int (wt : Int), rfl, trivial, fun H2 s2 => k H2 (s1.trans s2)⟩
theorem kcAw : FnScope ["choir", "root", "thing", "pair"] ["choir", "root", "thing"] (defScope P_are_waits) := ⟨rfl, rfl, rfl, by decide +kernel, rfl, by decide +kernel, by decide +kernel⟩
theorem ok_arew {f C : Addr} {fd : FuncData} (F : Fun K "are_waits" "are_waits" P_are_waits f fd) (dP : Df P w K mg base "_is_pair" 5 ["choir", "thing"] (spIsPr K C)) (dWt : Df P w K mg base "waits" 3 ["choir", "root"] (spWaits K C)) (mI : mg "isinstance" = none) (mLi : mg "list" = none) (mA : mg "all" = none) : FnOk P w K mg base CX0 6 f fd ["choir", "root", "thing"] (spAreW K C) := by
  refine F.ok kcAw (fun vs H Q E h => ?_) (fun cdv A outer s H vs Q E hr h => ?_)
  · obtain ⟨G, x, sv, pa, rl, ll, rt, m, q, ts, l, rfl, _⟩ := h
    rfl
  · obtain ⟨G, x, sv, pa, rl, ll, rt, m, q, ts, l, rfl, g, grl, hat, htr, ok, hrt, hrc, hm, hq, hts, hw, k⟩ := h
    refine ⟨_, (pss_cons (ps_if (PW.pt (pw_or (pt_not (pt_val (pe_callB (id := "isinstance") (r := rIsi K) call_isi (by rfl) mI (by decide +kernel) (pa_cons (pv 2) (pa_cons (pe_bltn (v := .ty "list") (by rfl) mLi (by decide +kernel) rfl) pa_nil))))) (pw_or1 (pt_not (pt_val (pe_callB (cr_all rfl) (by rfl) mA (by decide +kernel) (pa_cons (pe_lc (own := [("pair", 3)]) (g := gName 3) (tt := tYes) rfl kcAw.nd (pi_list (pv 2)) (blkOk_by (N := ["choir", "root", "thing", "pair"]) (sc := defScope P_are_waits) (by decide +kernel)) (fun _ _ _ _ _ => (pg_name (i := 3) kcAw.nd rfl (.inl rfl))) (fun _ _ _ _ _ => pts_nil) (fun _ _ _ _ _ => (pe_cD (sp := spIsPr K C) (k := 5) (ps := ["choir", "thing"]) dP hr (by rfl) (pa_cons (pv 0) (pa_cons (pv 3) pa_nil))))) pa_nil)))))))
         (pss_one (ps_ret pe_bl))
         pss_nil)
      (pss_one (ps_ret (pe_cmpR (op_eqD hr.units) (pv 2) (pe_cD dWt hr (by rfl) (pa_cons (pv 0) (pa_cons (pv 1) pa_nil))) (nomark _))))), ?_⟩
    have hll := beh_len ok (Nat.le_refl _) hrt hw.sort fun w h => (hw.mem w).mp h
    have htl := hts.1
    refine ⟨_, rfl, _, .ty "list", .type "list", .type "list", true, rfl, .ty _, ty_lst (.inl (.of hq)), kit_lst_t, true, rfl, iteN rfl ?_⟩
    refine ⟨_, rfl, q, rfl, ⟨_, .inl (.of hq)⟩, fun D nD => ?_⟩
    refine lc_map nD (fun i y _ => y = V.bl true) (fun _ _ _ _ _ h => h) (.inl (.of hq)) (by rw [List.length_map]; omega) (fun i y Hc Z hx s hDc kz => ?_) (fun H3 ys s3 hD hyl hy => ?_) (fun _ => rfl)
    · rw [List.getElem?_map] at hx
      obtain ⟨t, ht, rfl⟩ : ∃ t, ts[i]? = some t ∧ y = V.ref t := by
        cases e : ts[i]? with
        | none => rw [e] at hx; cases hx
        | some t => rw [e] at hx; exact ⟨t, rfl, (Option.some.inj hx).symm⟩
      obtain ⟨c, z, hc, htc, hz⟩ := hts.2 i t ht
      exact ⟨_, rfl, _, rfl, G, x, t, z, pa, behL pa rt c, c, rfl, g.trans s, hat.1, ok, s _ _ htc, hz.same s, beh_ok ok hrt c, fun H' s' => kz _ H' s' rfl⟩
    have tru : ys = (List.replicate (ts.map V.ref).length true).map V.bl := by
      rw [List.map_replicate]
      refine List.eq_replicate_iff.mpr ⟨hyl, fun y hm => ?_⟩
      obtain ⟨i, hi⟩ := List.getElem?_of_mem hm
      exact hy i y hi
    refine ⟨D, List.replicate (ts.map V.ref).length true, rfl, .inl (.of (by rw [hD, tru])), _, rfl, ?_⟩
    rw [all_rep]
    refine iteF ?_
    have g3 := g.trans s3
    have hrc3 := hrc.same s3
    refine ⟨_, rfl, _, rfl, _, rfl, G, x, sv, pa, 64, rl, ll, rt, m, rfl, g3, grl, hat, htr, ok, Nat.le_refl _, hrt, hrc3, hm, fun q2 ts2 l2 H4 kx hrc4 nq2 _ hq2 hw2 hts2 => ?_⟩
    obtain rfl := wt_uniq hw hw2
    obtain ⟨kv, hrl3, _⟩ := id hrc3
    have hq3 := s3 _ _ hq
    have nq : q ≠ rl := fun z => by rw [z, hrl3] at hq3; cases hq3
    have k34 : KeepT H3 H4 := KeepT.kx kx hrl3
    have g4 := kx.sub g3 grl
    have f := fine_rows ok (Nat.le_refl _) hrt hw
    refine ⟨.list (l2.map (rowD pa rt)), .list (l2.map (rowD pa rt)), .lst (.inl (.of (kx _ _ hq3 nq))) ((hts.kt (KeepT.same s3)).kt k34).dp, .lst (.inl (.of hq2)) (hts2.up (fun _ _ e => e) (fun b xs e => g4 _ _ e)).dp, f.shaped, f.shaped, ?_⟩
    rw [SeqAt.eqv_refl _ f.lay]
    exact k H4 ((Kx.same s3).trans kx) hrc4
end
end P52

namespace HG
open PySem PySem.Spec PyProof.Rows L2
theorem Bag.kx {H H' : Hp} {p x : Addr} {kvs : List (Key × V)} (k : Kx x H H') (hx : H x = some (.dK kvs)) (B : Bag H p) : Bag H' p := let ⟨c, b0, b1, b2, cs, h, g, z⟩ := B; ⟨c, b0, b1, b2, cs, k _ _ h (fun e => by rw [← e, h] at hx; cases hx), k _ _ g (fun e => by rw [← e, g] at hx; cases hx), z⟩
end HG
namespace P52
open PySem PySem.Spec PyProof.Rows L2 HG HF
def spLaw (K : PySem.W.Frag) : Sp := fun vs H Q _ => ∃ (a : Addr) (ns : List Int), vs = [.ref a] ∧ SqL K H a (ns.map V.int) ∧ ns.length ≤ 63 ∧ ∀ H', Q (.bl true) H'
section
variable {P : Program} {w : World} {K : PySem.W.Frag} {mg : Str → Option Value} {base : Heap}
theorem scLw : FnScope ["script", "bag", "k", "parts", "choir", "root", "rows", "told", "turn", "wait", "standing"] ["script"] (defScope sLaw) := ⟨rfl, rfl, rfl, by decide +kernel, rfl, by decide +kernel, by decide +kernel⟩
theorem ok_law {f C : Addr} {fd : FuncData} (cl : Cls K C) (F : Fun K "law" "law" sLaw f fd)
    (dG : Df P w K mg base "_law_bag" 1 ["script"] (spBag K)) (dT : Df P w K mg base "_law_take" 1 ["bag", "many"] spTake2) (dP : Df P w K mg base "_law_parts" 3 ["bag", "limit"] (spParts K)) (dC : Df P w K mg base "_law_choir" 8 ["parts"] (spChoir K (AtN K C))) (dS : Df P w K mg base "_law_standing" 2 ["bag", "parts"] (spStanding K)) (dBt : Df P w K mg base "_law_beat" 2 ["bag", "pace", "far"] spBeat)
    (dWt : Df P w K mg base "waits" 3 ["choir", "root"] (spWaits K C)) (dEq : Df P w K mg base "_law_equation" 2 ["parts", "root", "told"] (spEqn K)) (dAw : Df P w K mg base "are_waits" 6 ["choir", "root", "thing"] (spAreW K C)) (dB : Df P w K mg base "_law_behind" 2 ["parts", "standing", "wait"] (spBehindT K)) (mB : Mf P w K mg base C "behind" 2 ["self", "standing", "wait"] (spBehindM2 K (AtC K C)))
    (mr : mg "range" = none) (mD : mg "dict" = none) : FnOk P w K mg base CX0 9 f fd ["script"] (spLaw K) := by
  refine F.ok scLw (fun vs H Q E h => ?_) (fun cdv A outer s H vs Q E hr h => ?_)
  · obtain ⟨a, ns, rfl, _⟩ := h
    rfl
  · obtain ⟨a, ns, rfl, hS, hl, kq⟩ := h
    have hu2 : (A.deeper (envOfC "law" (defScope sLaw) s.heap.objs.size f cdv)).units + 2 < cLine := by
      have := hr.un
      omega
    refine ⟨_, (Evl.pss_cut (ps_set (i := 1) scLw.nd rfl (.inl rfl) (pe_cD dG hr (by rfl) (pa_cons (pv 0) pa_nil)))
      (pss_cons (ps_for PassesOwn.never rfl (pi_range1 rfl mr (pa_cons pe_int pa_nil)) (pg_name (i := 2) scLw.nd rfl (.inl rfl))
         (Evl.pss_cut (ps_set (i := 3) scLw.nd rfl (.inl rfl) (pe_cD dP hr (by rfl) (pa_cons (pv 1) (pa_cons pe_int pa_nil))))
         (Evl.pss_cut (ps_par (i := 4) (j := 5) (by rfl) scLw.nd rfl rfl (by decide) rfl rfl (pa_cons (pe_cD dC hr (by rfl) (pa_cons (pv 3) pa_nil)) (pa_cons (pe_cD dS hr (by rfl) (pa_cons (pv 1) (pa_cons (pv 3) pa_nil))) pa_nil)) (by rfl))
         (Evl.pss_cut (ps_set (i := 6) scLw.nd rfl (.inl rfl) (pe_cD dWt hr (by rfl) (pa_cons (pv 4) (pa_cons (pv 5) pa_nil))))
         (Evl.pss_cut (ps_set (i := 7) scLw.nd rfl (.inl rfl) (pe_callTy (call_dictT rfl hu2) (by rfl) mD (by decide +kernel) (pa_cons (pv 6) pa_nil)))
         (Evl.pss_cut (ps_if (PW.pt (pw_or (pt_not (pt_val (pe_cD dEq hr (by rfl) (pa_cons (pv 3) (pa_cons (pv 5) (pa_cons (pv 7) pa_nil)))))) (pw_or1 (pt_cmpR op_notBl (pe_cD dAw hr (by rfl) (pa_cons (pv 4) (pa_cons (pv 5) (pa_cons (pv 6) pa_nil)))) pe_bl (nomark _)))))
            (pss_one (ps_ret pe_bl))
            pss_nil)
         (pss_one (ps_for PassesOwn.never rfl (pi_range1 rfl mr (pa_cons pe_int pa_nil)) (pg_name (i := 8) scLw.nd rfl (.inl rfl))
            (Evl.pss_cut (ps_set (i := 9) scLw.nd rfl (.inl rfl) (pe_op op_add pe_int (pe_ix (r := rIxL K) ix_list (pe_lst (pa_cons (pe_cD dBt hr (by rfl) (pa_cons (pv 1) (pa_cons (pe_ix (r := rIxT K) ix_tup (pv 3) pe_int (fun _ _ => rfl)) (pa_cons (pe_op op_pow pe_int pe_int) pa_nil)))) (pa_cons (pe_cD (sp := spTake2) (k := 1) (ps := ["bag", "many"]) dT hr (by rfl) (pa_cons (pv 1) (pa_cons (pe_op op_pow pe_int pe_int) pa_nil))) pa_nil))) (pe_cD (sp := spTake2) (k := 1) (ps := ["bag", "many"]) dT hr (by rfl) (pa_cons (pv 1) (pa_cons pe_int pa_nil))) (fun _ _ => rfl))))
            (Evl.pss_cut (ps_set (i := 10) scLw.nd rfl (.inl rfl) (pe_cD dB hr (by rfl) (pa_cons (pv 3) (pa_cons (pv 5) (pa_cons (pv 9) pa_nil)))))
            (pss_one (ps_if (PW.pt (pw_or (pt_cmp (pc_dnotin (hu_of hr) (pv 10) (pv 7))) (pw_or (pt_cmpR op_gt (pe_dget (hu_of hr) (pv 7) (pv 10) (fun _ _ => rfl)) (pv 9) (nomark _)) (pw_or1 (pt_cmpR (op_neD hr.units) (pe_mD (C := C) (m := "behind") (k := 2) (ps := ["self", "standing", "wait"]) (sp := spBehindM2 K (AtC K C)) (pv 4) cl mB hr (pa_cons (pv 5) (pa_cons (pe_dget (hu_of hr) (pv 7) (pv 10) (fun _ _ => rfl)) pa_nil))) (pv 10) (nomark _))))))
               (pss_one (ps_ret pe_bl))
               pss_nil))))))))))))
      (pss_one (ps_ret pe_bl)))), ?_⟩
    refine ⟨fun σ H' => ∃ p : Addr, Bag H' p ∧ σ = [some (.ref a), some (.ref p), none, none, none, none, none, none, none, none, none], ?_, ?_⟩
    · exact ⟨_, rfl, a, ns, rfl, hS, hl, fun p H1 s1 np hB => ⟨p, hB, rfl⟩⟩
    rintro σ H1 ⟨p, hB, rfl⟩
    refine ⟨4, rfl, by decide, by decide, ?_⟩
    refine for_range (n := 4) (fun i σ H' => Bag H' p ∧ ∃ o2 o3 o4 o5 o6 o7 o8 o9 oa : Option V, σ = [some (.ref a), some (.ref p), o2, o3, o4, o5, o6, o7, o8, o9, oa]) ⟨hB, none, none, none, none, none, none, none, none, none, rfl⟩ ?_ ?_
    rotate_left
    · rintro σ H2 ⟨hB2, o2, o3, o4, o5, o6, o7, o8, o9, oa, rfl⟩
      exact kq _
    clear hB
    clear H1
    rintro t σ H1 ht ⟨hB, o2, o3, o4, o5, o6, o7, o8, o9, oa, rfl⟩
    refine ⟨fun σ H' => Bag H' p ∧ ∃ (pv : V) (pa : Parts), Dp K (off p H') pv (partsD pa) ∧ pa.Ok 64 ∧ σ = [some (.ref a), some (.ref p), some (.int (0 + (t : Int))), some pv, o4, o5, o6, o7, o8, o9, oa], ?_, ?_⟩
    · exact ⟨_, rfl, p, 64, rfl, hB, by decide, by decide, fun v H4 pa st hv hok => ⟨st.bag, v, pa, dp_same (fresh_off hB.here) _ _ hv, hok, rfl⟩⟩
    clear hB
    clear H1
    rintro σ H1 ⟨hB, pv, pa, hvd, ok, rfl⟩
    refine ⟨fun σ H' => Bag H' p ∧ ∃ (cx rl ll sa : Addr) (rt : List Nat), Dp K (off rl (off p H')) pv (partsD pa) ∧ AtF K C (off rl (off p H')) cx pa rl ll ∧ H' rl = some (.dK []) ∧ StOk pa rt ∧ TrT (off rl (off p H')) (.ref sa) rt ∧ σ = [some (.ref a), some (.ref p), some (.int (0 + (t : Int))), some pv, some (.ref cx), some (.ref sa), o6, o7, o8, o9, oa], ?_, ?_⟩
    · refine ⟨_, rfl, off p H1, pv, pa, 64, rfl, off_sub p H1, hvd, ok, Nat.le_refl _, fun x H2 s2 nx hat => ?_⟩
      obtain ⟨rl, ll, hF, hrl, _, _⟩ := atN_k.mono (more_off s2 hB.here) hat
      have hB2 := hB.same s2
      have hvd2 := dp_same (off_same s2) _ _ hvd
      refine ⟨_, rfl, _, rfl, p, pv, pa, 64, rfl, hB2, hvd2, ok, fun q H3 rt s3 nq hq hrt => ?_⟩
      have hrl3 := s3.off _ _ hrl
      have nq1 : q ≠ p := hB2.ne_new nq
      have nq2 : q ≠ rl := fun z => by rw [z, off_sub p _ _ _ hrl] at nq; cases nq
      exact ⟨_, _, rfl, s3.bag, x, rl, ll, q, rt, dp_off hrl3 (dp_same s3.off _ _ hvd2), atF_off ok.v1 hrl3 (hF.same s3.off), off_sub p _ _ _ hrl3, hrt, ⟨q, rfl, by rw [off_ne nq2, off_ne nq1]; exact hq⟩, rfl⟩
    clear hB hvd
    clear H1
    rintro σ H1 ⟨hB, cx, rl, ll, sa, rt, hvd, hat, hrl, hrt, htr, rfl⟩
    have g1 : Same (off rl (off p H1)) H1 := (off_sub rl _).trans (off_sub p _)
    have grl : (off rl (off p H1)) rl = none := by unfold HG.off; rw [if_pos rfl]
    have gp : (off rl (off p H1)) p = none := by
      unfold HG.off
      by_cases c : p = rl
      · rw [if_pos c]
      · rw [if_neg c, if_pos rfl]
    generalize off rl (off p H1) = G0 at *
    refine ⟨fun σ H' => Bag H' p ∧ Same G0 H' ∧ RchOk H' rl pa 1 ∧ ∃ (q : Addr) (ts : List Addr) (l : List Nat), H' q = some (.lst (ts.map V.ref)) ∧ WtL pa rt l ∧ RowsS H' H' pa rt ts l ∧ σ = [some (.ref a), some (.ref p), some (.int (0 + (t : Int))), some pv, some (.ref cx), some (.ref sa), some (.ref q), o7, o8, o9, oa], ?_, ?_⟩
    · refine ⟨_, rfl, _, rfl, G0, cx, .ref sa, pa, 64, rl, ll, rt, 0, rfl, g1, grl, hat, htr, ok, Nat.le_refl _, hrt, ⟨[], hrl, Nat.le_refl _, fun n v e => by cases e⟩, by decide, fun q ts l H2 kx hrc nq _ hq hw hts => ?_⟩
      have g2 := kx.sub g1 grl
      exact ⟨hB.kx kx hrl, g2, hrc, q, ts, l, hq, hw, hts.up (fun _ _ e => e) (fun b xs e => g2 _ _ e), rfl⟩
    clear hB hrl g1
    clear H1
    rintro σ H1 ⟨hB, g1, hrc, q, ts, l, hq, hw, hts, rfl⟩
    have hpd : ∀ {H' : Hp} {kv : List (List Key × V)} {d : Addr}, Bag H' p → H' d = some (.dT kv) → d ≠ p := fun hB h z => by
      obtain ⟨xs, hx⟩ := hB.lst
      rw [z, hx] at h
      cases h
    refine ⟨fun σ H' => Bag H' p ∧ Same G0 H' ∧ RchOk H' rl pa 1 ∧ ∃ (d : Addr), G0 d = none ∧ d ≠ rl ∧ H' d = some (.dT (wkv pa rt l)) ∧ H' q = some (.lst (ts.map V.ref)) ∧ RowsS H' H' pa rt ts l ∧ σ = [some (.ref a), some (.ref p), some (.int (0 + (t : Int))), some pv, some (.ref cx), some (.ref sa), some (.ref q), some (.ref d), o8, o9, oa], ?_, ?_⟩
    · refine ⟨_, rfl, q, ts, wkv pa rt l, rfl, .inl (.of hq), rows_paired hts, fun d nd => ?_⟩
      rw [wkv_merge hw]
      have s2 : Same H1 (upd H1 d (.dT (wkv pa rt l))) := same_upd nd
      have ndl : d ≠ rl := fun z => by
        obtain ⟨kv, h, _⟩ := hrc
        rw [z, h] at nd
        cases nd
      refine ⟨hB.same s2, g1.trans s2, hrc.same s2, d, ?_, ndl, upd_same, s2 _ _ hq, hts.kt (KeepT.same s2), rfl⟩
      cases e : G0 d with
      | none => rfl
      | some o => rw [g1 _ _ e] at nd; cases nd
    clear hB hrc hq hts g1
    clear H1
    rintro σ H1 ⟨hB, g1, hrc, d, gd, ndl, hd, hq, hts, rfl⟩
    refine ⟨fun σ H' => Bag H' p ∧ Same G0 H' ∧ H' d = some (.dT (wkv pa rt l)) ∧ σ = [some (.ref a), some (.ref p), some (.int (0 + (t : Int))), some pv, some (.ref cx), some (.ref sa), some (.ref q), some (.ref d), o8, o9, oa], ?_, ?_⟩
    · refine ⟨_, rfl, _, rfl, _, rfl, G0, pv, .ref sa, pa, 64, rt, d, l, rfl, g1, gd, hvd, ok, Nat.le_refl _, hrt, htr, hd, hw, fun H2 s2 => ?_⟩
      refine ⟨_, rfl, iteF ?_⟩
      refine ⟨_, rfl, _, rfl, _, rfl, G0, cx, .ref sa, pa, rl, ll, rt, 1, q, ts, l, rfl, g1.trans s2, grl, hat, htr, ok, hrt, hrc.same s2, by decide, s2 _ _ hq, hts.kt (KeepT.same s2), hw, fun H3 kx hrc3 => ?_⟩
      obtain ⟨kv, hrl2, _⟩ := hrc.same s2
      exact ⟨true, true, rfl, rfl, _, rfl, iteN rfl ⟨(hB.same s2).kx kx hrl2, kx.sub (g1.trans s2) grl, kx _ _ (s2 _ _ hd) ndl, rfl⟩⟩
    clear hB hrc hq hts g1 hd
    clear H1
    rintro σ H1 ⟨hB, g1, hd, rfl⟩
    refine ⟨12, rfl, by decide, by decide, ?_⟩
    refine for_range (n := 12) (fun i σ H' => Bag H' p ∧ Same G0 H' ∧ H' d = some (.dT (wkv pa rt l)) ∧ ∃ o8 o9 oa : Option V, σ = [some (.ref a), some (.ref p), some (.int (0 + (t : Int))), some pv, some (.ref cx), some (.ref sa), some (.ref q), some (.ref d), o8, o9, oa]) ⟨hB, g1, hd, o8, o9, oa, rfl⟩ ?_ ?_
    rotate_left
    · rintro σ H2 ⟨hB2, _, _, p8, p9, pa', rfl⟩
      exact ⟨hB2, _, _, _, _, _, _, _, _, _, rfl⟩
    clear hB g1 hd
    clear H1
    rintro i σ H1 hi ⟨hB, g1, hd, p8, p9, pb, rfl⟩
    have gst : ∀ {H H' : Hp}, Same G0 H → Stp p H H' → Same G0 H' := fun g s b o e => s.1 _ _ (g _ _ e) fun z => by rw [z, gp] at e; cases e
    refine ⟨fun σ H' => Bag H' p ∧ Same G0 H' ∧ H' d = some (.dT (wkv pa rt l)) ∧ ∃ wt : Nat, 1 ≤ wt ∧ wt < 2 ^ 1000 ∧ σ = [some (.ref a), some (.ref p), some (.int (0 + (t : Int))), some pv, some (.ref cx), some (.ref sa), some (.ref q), some (.ref d), some (.int (0 + (i : Int))), some (.int (wt : Int)), pb], ?_, ?_⟩
    · obtain ⟨a1, vl, xs, rfl, hs, _, _⟩ := parts_inv hvd
      have e18 : ((10 : Int) ^ (18 : Int).toNat) = ((10 ^ 18 : Nat) : Int) := by decide +kernel
      have e30 : ((10 : Int) ^ (30 : Int).toNat) = ((10 ^ 30 : Nat) : Int) := by decide +kernel
      have hdp := hpd hB hd
      refine ⟨_, rfl, _, rfl, a1, _, 0, _, rfl, rfl, sqT_same g1 hs, rfl, _, _, rfl, rfl, ⟨by decide, by decide, by decide⟩, p, pa.pace, 10 ^ 18, ?_, hB, ok.p2, ok.p4, by decide +kernel, fun r1 H2 s2 hr1 => ?_⟩
      · show [V.ref p, V.int (pa.pace : Int), V.int ((10 : Int) ^ (18 : Int).toNat)] = _
        rw [e18]
      refine ⟨_, rfl, _, _, rfl, rfl, ⟨by decide, by decide, by decide⟩, p, (10 ^ 30 : Nat), ?_, s2.bag, by decide, by decide +kernel, fun r2 xs2 r20 r21 hB3 hk3 => ?_⟩
      · show [V.ref p, V.int ((10 : Int) ^ (30 : Int).toNat)] = _
        rw [e30]
      have s3 : Stp p H1 (upd H2 p (.lst xs2)) := s2.trans (.take hB3 hk3)
      generalize upd H2 p (.lst xs2) = H3 at *
      refine ⟨(by show 2 ≤ sizeLine; decide), fun L nL => ?_⟩
      have nLp := s3.bag.ne_new nL
      have s4 := s3.trans (Stp.same s3.bag (same_upd (o := .lst [.int (r1 : Int), .int r2]) nL))
      have hL : (upd H3 L (.lst [.int (r1 : Int), .int r2])) L = some (.lst [.int (r1 : Int), .int r2]) := upd_same
      generalize upd H3 L (.lst [.int (r1 : Int), .int r2]) = H4 at *
      refine ⟨_, rfl, p, 2, rfl, s4.bag, by decide, by decide, fun r3 xs3 r30 r31 hB5 hk5 => ?_⟩
      have s5 : Stp p H1 (upd H4 p (.lst xs3)) := s4.trans (.take hB5 hk5)
      have hL5 : (upd H4 p (.lst xs3)) L = some (.lst [.int (r1 : Int), .int r2]) := by rw [upd_ne nLp]; exact hL
      generalize upd H4 p (.lst xs3) = H5 at *
      obtain ⟨z, hz, hz2⟩ : ∃ z : Nat, atI [V.int (r1 : Int), V.int r2] r3 = some (.int (z : Int)) ∧ z ≤ 10 ^ 30 := by
        obtain ⟨n2, rfl⟩ := Int.eq_ofNat_of_zero_le r20
        have q : r3 = 0 ∨ r3 = 1 := by omega
        rcases q with rfl | rfl
        · exact ⟨r1, rfl, Nat.le_trans hr1 (by decide)⟩
        · exact ⟨n2, rfl, by omega⟩
      refine ⟨L, _, r3, _, rfl, rfl, .inl (.of hL5), hz, _, _, rfl, rfl, s5.bag, gst g1 s5, s5.1 _ _ hd hdp, z + 1, by omega, ?_, ?_⟩
      · have : 10 ^ 30 + 1 < 2 ^ 1000 := by decide +kernel
        omega
      · show [_, _, _, _, _, _, _, _, _, some (V.int (1 + (z : Int))), _] = _
        rw [show (1 : Int) + (z : Int) = ((z + 1 : Nat) : Int) by omega]
    clear hB g1 hd
    clear H1
    rintro σ H1 ⟨hB, g1, hd, wt, hw1, hw2, rfl⟩
    refine ⟨fun σ H' => Bag H' p ∧ Same G0 H' ∧ H' d = some (.dT (wkv pa rt l)) ∧ ∃ st : Addr, H' st = some (.tup (nVs (behL pa rt wt))) ∧ σ = [some (.ref a), some (.ref p), some (.int (0 + (t : Int))), some pv, some (.ref cx), some (.ref sa), some (.ref q), some (.ref d), some (.int (0 + (i : Int))), some (.int (wt : Int)), some (.ref st)], ?_, ?_⟩
    · exact ⟨_, rfl, _, rfl, _, rfl, G0, pv, .ref sa, wt, pa, rt, 64, rfl, g1, hvd, htr.same g1, ok, hrt, hw2, fun x H2 s2 hx => by
        obtain ⟨st, rfl, hst⟩ := hx
        exact ⟨hB.same s2, g1.trans s2, s2 _ _ hd, st, hst, rfl⟩⟩
    clear hB g1 hd
    clear H1
    rintro σ H1 ⟨hB, g1, hd, st, hst, rfl⟩
    obtain ⟨w0, hle, hl0, e0⟩ := lw_least pa rt wt hw1
    have hm0 := (hw.mem w0).mpr hl0
    have hget : DGet H1 d (.ref st) (some (.int (w0 : Int))) := by
      rw [← wkv_get hw hm0, e0]
      exact DGet.t hd (by rw [keyT_v]; exact hst)
    obtain ⟨dx, fs, hx, hms⟩ := atC_k.ins hat.1
    refine ⟨_, rfl, _, rfl, d, _, rfl, hget, _, rfl, iteF ?_⟩
    refine ⟨_, rfl, _, rfl, d, _, rfl, hget, _, rfl, _, _, rfl, rfl, _, rfl, ?_⟩
    rw [decide_eq_false (by omega : ¬ (wt : Int) < (w0 : Int))]
    refine iteF ?_
    have f := (sz_tab (beh_ok ok hrt wt).2 ok.n5 (by rw [(beh_ok ok hrt wt).1]; exact ok.v6)).fine (by decide) (by decide)
    refine ⟨_, rfl, cx, dx, fs, rfl, g1 _ _ hx, hms _ (by decide +kernel), _, rfl, _, rfl, _, rfl, d, _, rfl, hget, G0, cx, .ref sa, w0, pa, rt, 64, rfl, g1, hat.1, htr, ok, hrt, by omega, fun v H2 s2 hv => ?_⟩
    rw [e0] at hv
    refine ⟨_, rfl, tabD (behL pa rt wt), tabD (behL pa rt wt), dp_same (more_sub g1 s2) _ _ hv.dp, dp_tab (s2 _ _ hst), f.shaped, f.shaped, _, rfl, ?_⟩
    rw [SeqAt.eqv_refl _ f.lay]
    exact iteF ⟨hB.same s2, g1.trans s2, s2 _ _ hd, _, _, _, rfl⟩
end
end P52

namespace P52
open PySem PySem.Spec PyProof.Rows L2 HG HF
set_option maxHeartbeats 8000000 in
theorem all_mk {l : PySem.W.OpenLaw} {w : World} {K : PySem.W.Frag} {h : Heap} {mg : Str → Option Value} {fa f1 f2 f3 f4 f5 f6 f7 f8 f9 f10 f11 f12 f13 f14 f15 f16 f17 f18 f19 f20 f21 f22 f23 f24 f25 f26 f27 f28 f29 f30 f31 C1 fx1_1 fx1_2 fx1_3 fx1_4 fx1_5 fx1_6 fx1_7 fx1_8 fx1_9 fx1_10 : Addr} (X : K.In h) (G : h.Ns mainGlobals mg) (hfa : mg "law" = some (.ref fa))
    {od1 an1 : Option Addr} {sl1 : Array (Option Value)} {oc1 kV1 dc1 pm1 cd1 ct1 : Value}
    {od2 an2 : Option Addr} {sl2 : Array (Option Value)} {oc2 kV2 dc2 pm2 cd2 ct2 : Value}
    {od3 an3 : Option Addr} {sl3 : Array (Option Value)} {oc3 kV3 dc3 pm3 cd3 ct3 : Value}
    {od4 an4 : Option Addr} {sl4 : Array (Option Value)} {oc4 kV4 dc4 pm4 cd4 ct4 : Value}
    {od5 an5 : Option Addr} {sl5 : Array (Option Value)} {oc5 kV5 dc5 pm5 cd5 ct5 : Value}
    {od6 an6 : Option Addr} {sl6 : Array (Option Value)} {oc6 kV6 dc6 pm6 cd6 ct6 : Value}
    {od7 an7 : Option Addr} {sl7 : Array (Option Value)} {oc7 kV7 dc7 pm7 cd7 ct7 : Value}
    {od8 an8 : Option Addr} {sl8 : Array (Option Value)} {oc8 kV8 dc8 pm8 cd8 ct8 : Value}
    {od9 an9 : Option Addr} {sl9 : Array (Option Value)} {oc9 kV9 dc9 pm9 cd9 ct9 : Value}
    {od10 an10 : Option Addr} {sl10 : Array (Option Value)} {oc10 kV10 dc10 pm10 cd10 ct10 : Value}
    {od11 an11 : Option Addr} {sl11 : Array (Option Value)} {oc11 kV11 dc11 pm11 cd11 ct11 : Value}
    {od12 an12 : Option Addr} {sl12 : Array (Option Value)} {oc12 kV12 dc12 pm12 cd12 ct12 : Value}
    {od13 an13 : Option Addr} {sl13 : Array (Option Value)} {oc13 kV13 dc13 pm13 cd13 ct13 : Value}
    {od14 an14 : Option Addr} {sl14 : Array (Option Value)} {oc14 kV14 dc14 pm14 cd14 ct14 : Value}
    {od15 an15 : Option Addr} {sl15 : Array (Option Value)} {oc15 kV15 dc15 pm15 cd15 ct15 : Value}
    {od16 an16 : Option Addr} {sl16 : Array (Option Value)} {oc16 kV16 dc16 pm16 cd16 ct16 : Value}
    {od17 an17 : Option Addr} {sl17 : Array (Option Value)} {oc17 kV17 dc17 pm17 cd17 ct17 : Value}
    {od18 an18 : Option Addr} {sl18 : Array (Option Value)} {oc18 kV18 dc18 pm18 cd18 ct18 : Value}
    {od19 an19 : Option Addr} {sl19 : Array (Option Value)} {oc19 kV19 dc19 pm19 cd19 ct19 : Value}
    {od20 an20 : Option Addr} {sl20 : Array (Option Value)} {oc20 kV20 dc20 pm20 cd20 ct20 : Value}
    {od21 an21 : Option Addr} {sl21 : Array (Option Value)} {oc21 kV21 dc21 pm21 cd21 ct21 : Value}
    {od22 an22 : Option Addr} {sl22 : Array (Option Value)} {oc22 kV22 dc22 pm22 cd22 ct22 : Value}
    {od23 an23 : Option Addr} {sl23 : Array (Option Value)} {oc23 kV23 dc23 pm23 cd23 ct23 : Value}
    {od24 an24 : Option Addr} {sl24 : Array (Option Value)} {oc24 kV24 dc24 pm24 cd24 ct24 : Value}
    {od25 an25 : Option Addr} {sl25 : Array (Option Value)} {oc25 kV25 dc25 pm25 cd25 ct25 : Value}
    {od26 an26 : Option Addr} {sl26 : Array (Option Value)} {oc26 kV26 dc26 pm26 cd26 ct26 : Value}
    {od27 an27 : Option Addr} {sl27 : Array (Option Value)} {oc27 kV27 dc27 pm27 cd27 ct27 : Value}
    {od28 an28 : Option Addr} {sl28 : Array (Option Value)} {oc28 kV28 dc28 pm28 cd28 ct28 : Value}
    {od29 an29 : Option Addr} {sl29 : Array (Option Value)} {oc29 kV29 dc29 pm29 cd29 ct29 : Value}
    {od30 an30 : Option Addr} {sl30 : Array (Option Value)} {oc30 kV30 dc30 pm30 cd30 ct30 : Value}
    {od31 an31 : Option Addr} {sl31 : Array (Option Value)} {oc31 kV31 dc31 pm31 cd31 ct31 : Value}
    {odx1_1 anx1_1 : Option Addr} {slx1_1 : Array (Option Value)} {ocx1_1 kVx1_1 dcx1_1 pmx1_1 cdx1_1 ctx1_1 : Value}
    {odx1_2 anx1_2 : Option Addr} {slx1_2 : Array (Option Value)} {ocx1_2 kVx1_2 dcx1_2 pmx1_2 cdx1_2 ctx1_2 : Value}
    {odx1_3 anx1_3 : Option Addr} {slx1_3 : Array (Option Value)} {ocx1_3 kVx1_3 dcx1_3 pmx1_3 cdx1_3 ctx1_3 : Value}
    {odx1_4 anx1_4 : Option Addr} {slx1_4 : Array (Option Value)} {ocx1_4 kVx1_4 dcx1_4 pmx1_4 cdx1_4 ctx1_4 : Value}
    {odx1_5 anx1_5 : Option Addr} {slx1_5 : Array (Option Value)} {ocx1_5 kVx1_5 dcx1_5 pmx1_5 cdx1_5 ctx1_5 : Value}
    {odx1_6 anx1_6 : Option Addr} {slx1_6 : Array (Option Value)} {ocx1_6 kVx1_6 dcx1_6 pmx1_6 cdx1_6 ctx1_6 : Value}
    {odx1_7 anx1_7 : Option Addr} {slx1_7 : Array (Option Value)} {ocx1_7 kVx1_7 dcx1_7 pmx1_7 cdx1_7 ctx1_7 : Value}
    {odx1_8 anx1_8 : Option Addr} {slx1_8 : Array (Option Value)} {ocx1_8 kVx1_8 dcx1_8 pmx1_8 cdx1_8 ctx1_8 : Value}
    {odx1_9 anx1_9 : Option Addr} {slx1_9 : Array (Option Value)} {ocx1_9 kVx1_9 dcx1_9 pmx1_9 cdx1_9 ctx1_9 : Value}
    {odx1_10 anx1_10 : Option Addr} {slx1_10 : Array (Option Value)} {ocx1_10 kVx1_10 dcx1_10 pmx1_10 cdx1_10 ctx1_10 : Value}
    {tq1 : Tok} {tq2 : Tok} {tq3 : Tok} {tq4 : Tok} {tq5 : Tok} {tq6 : Tok} {tq7 : Tok} 
    (a1 : PySem.W.nsIn K mainGlobals "figures_of" = some (some (.ref f1)))
    (l1 : K.lookup f1 = some ⟨oc1, od1, .func (PySem.W.fnOf "figures_of" "figures_of" (defArgs P_figures_of) (defBody P_figures_of) (defScope P_figures_of) .none kV1 dc1 pm1 an1 cd1 ct1), sl1⟩)
    (c1 : PySem.W.codeIn K cd1 "figures_of" = true)
    (k1 : PySem.W.keepIn K (.ref f1) = true)
    (a2 : PySem.W.nsIn K mainGlobals "is_whole" = some (some (.ref f2)))
    (l2 : K.lookup f2 = some ⟨oc2, od2, .func (PySem.W.fnOf "is_whole" "is_whole" (defArgs P_is_whole) (defBody P_is_whole) (defScope P_is_whole) .none kV2 dc2 pm2 an2 cd2 ct2), sl2⟩)
    (c2 : PySem.W.codeIn K cd2 "is_whole" = true)
    (k2 : PySem.W.keepIn K (.ref f2) = true)
    (a3 : PySem.W.nsIn K mainGlobals "is_below" = some (some (.ref f3)))
    (l3 : K.lookup f3 = some ⟨oc3, od3, .func (PySem.W.fnOf "is_below" "is_below" (defArgs P_is_below) (defBody P_is_below) (defScope P_is_below) .none kV3 dc3 pm3 an3 cd3 ct3), sl3⟩)
    (c3 : PySem.W.codeIn K cd3 "is_below" = true)
    (k3 : PySem.W.keepIn K (.ref f3) = true)
    (a4 : PySem.W.nsIn K mainGlobals "_is_small" = some (some (.ref f4)))
    (l4 : K.lookup f4 = some ⟨oc4, od4, .func (PySem.W.fnOf "_is_small" "_is_small" (defArgs P__is_small) (defBody P__is_small) (defScope P__is_small) .none kV4 dc4 pm4 an4 cd4 ct4), sl4⟩)
    (c4 : PySem.W.codeIn K cd4 "_is_small" = true)
    (k4 : PySem.W.keepIn K (.ref f4) = true)
    (a5 : PySem.W.nsIn K mainGlobals "is_name" = some (some (.ref f5)))
    (l5 : K.lookup f5 = some ⟨oc5, od5, .func (PySem.W.fnOf "is_name" "is_name" (defArgs P_is_name) (defBody P_is_name) (defScope P_is_name) .none kV5 dc5 pm5 an5 cd5 ct5), sl5⟩)
    (c5 : PySem.W.codeIn K cd5 "is_name" = true)
    (k5 : PySem.W.keepIn K (.ref f5) = true)
    (a6 : PySem.W.nsIn K mainGlobals "is_pace" = some (some (.ref f6)))
    (l6 : K.lookup f6 = some ⟨oc6, od6, .func (PySem.W.fnOf "is_pace" "is_pace" (defArgs P_is_pace) (defBody P_is_pace) (defScope P_is_pace) .none kV6 dc6 pm6 an6 cd6 ct6), sl6⟩)
    (c6 : PySem.W.codeIn K cd6 "is_pace" = true)
    (k6 : PySem.W.keepIn K (.ref f6) = true)
    (a7 : PySem.W.nsIn K mainGlobals "_is_tuple_of" = some (some (.ref f7)))
    (l7 : K.lookup f7 = some ⟨oc7, od7, .func (PySem.W.fnOf "_is_tuple_of" "_is_tuple_of" (defArgs P__is_tuple_of) (defBody P__is_tuple_of) (defScope P__is_tuple_of) .none kV7 dc7 pm7 an7 cd7 ct7), sl7⟩)
    (c7 : PySem.W.codeIn K cd7 "_is_tuple_of" = true)
    (k7 : PySem.W.keepIn K (.ref f7) = true)
    (a8 : PySem.W.nsIn K mainGlobals "_is_table" = some (some (.ref f8)))
    (l8 : K.lookup f8 = some ⟨oc8, od8, .func (PySem.W.fnOf "_is_table" "_is_table" (defArgs P__is_table) (defBody P__is_table) (defScope P__is_table) .none kV8 dc8 pm8 an8 cd8 ct8), sl8⟩)
    (c8 : PySem.W.codeIn K cd8 "_is_table" = true)
    (k8 : PySem.W.keepIn K (.ref f8) = true)
    (a9 : PySem.W.nsIn K mainGlobals "_is_voice" = some (some (.ref f9)))
    (l9 : K.lookup f9 = some ⟨oc9, od9, .func (PySem.W.fnOf "_is_voice" "_is_voice" (defArgs P__is_voice) (defBody P__is_voice) (defScope P__is_voice) .none kV9 dc9 pm9 an9 cd9 ct9), sl9⟩)
    (c9 : PySem.W.codeIn K cd9 "_is_voice" = true)
    (k9 : PySem.W.keepIn K (.ref f9) = true)
    (a10 : PySem.W.nsIn K mainGlobals "_are_few" = some (some (.ref f10)))
    (l10 : K.lookup f10 = some ⟨oc10, od10, .func (PySem.W.fnOf "_are_few" "_are_few" (defArgs P__are_few) (defBody P__are_few) (defScope P__are_few) .none kV10 dc10 pm10 an10 cd10 ct10), sl10⟩)
    (c10 : PySem.W.codeIn K cd10 "_are_few" = true)
    (k10 : PySem.W.keepIn K (.ref f10) = true)
    (a11 : PySem.W.nsIn K mainGlobals "_refuse_wrong" = some (some (.ref f11)))
    (l11 : K.lookup f11 = some ⟨oc11, od11, .func (PySem.W.fnOf "_refuse_wrong" "_refuse_wrong" (defArgs P__refuse_wrong) (defBody P__refuse_wrong) (defScope P__refuse_wrong) .none kV11 dc11 pm11 an11 cd11 ct11), sl11⟩)
    (c11 : PySem.W.codeIn K cd11 "_refuse_wrong" = true)
    (k11 : PySem.W.keepIn K (.ref f11) = true)
    (a12 : PySem.W.nsIn K mainGlobals "_refuse_bad_voices" = some (some (.ref f12)))
    (l12 : K.lookup f12 = some ⟨oc12, od12, .func (PySem.W.fnOf "_refuse_bad_voices" "_refuse_bad_voices" (defArgs P__refuse_bad_voices) (defBody P__refuse_bad_voices) (defScope P__refuse_bad_voices) .none kV12 dc12 pm12 an12 cd12 ct12), sl12⟩)
    (c12 : PySem.W.codeIn K cd12 "_refuse_bad_voices" = true)
    (k12 : PySem.W.keepIn K (.ref f12) = true)
    (a13 : PySem.W.nsIn K mainGlobals "_rows" = some (some (.ref f13)))
    (l13 : K.lookup f13 = some ⟨oc13, od13, .func (PySem.W.fnOf "_rows" "_rows" (defArgs P__rows) (defBody P__rows) (defScope P__rows) .none kV13 dc13 pm13 an13 cd13 ct13), sl13⟩)
    (c13 : PySem.W.codeIn K cd13 "_rows" = true)
    (k13 : PySem.W.keepIn K (.ref f13) = true)
    (a14 : PySem.W.nsIn K mainGlobals "_law_bag" = some (some (.ref f14)))
    (l14 : K.lookup f14 = some ⟨oc14, od14, .func (PySem.W.fnOf "_law_bag" "_law_bag" (defArgs sBag) (defBody sBag) (defScope sBag) .none kV14 dc14 pm14 an14 cd14 ct14), sl14⟩)
    (c14 : PySem.W.codeIn K cd14 "_law_bag" = true)
    (k14 : PySem.W.keepIn K (.ref f14) = true)
    (a15 : PySem.W.nsIn K mainGlobals "_law_take" = some (some (.ref f15)))
    (l15 : K.lookup f15 = some ⟨oc15, od15, .func (PySem.W.fnOf "_law_take" "_law_take" (defArgs sTake) (defBody sTake) (defScope sTake) .none kV15 dc15 pm15 an15 cd15 ct15), sl15⟩)
    (c15 : PySem.W.codeIn K cd15 "_law_take" = true)
    (k15 : PySem.W.keepIn K (.ref f15) = true)
    (a16 : PySem.W.nsIn K mainGlobals "_law_parts" = some (some (.ref f16)))
    (l16 : K.lookup f16 = some ⟨oc16, od16, .func (PySem.W.fnOf "_law_parts" "_law_parts" (defArgs sParts) (defBody sParts) (defScope sParts) .none kV16 dc16 pm16 an16 cd16 ct16), sl16⟩)
    (c16 : PySem.W.codeIn K cd16 "_law_parts" = true)
    (k16 : PySem.W.keepIn K (.ref f16) = true)
    (a17 : PySem.W.nsIn K mainGlobals "_law_names" = some (some (.ref f17)))
    (l17 : K.lookup f17 = some ⟨oc17, od17, .func (PySem.W.fnOf "_law_names" "_law_names" (defArgs sNames) (defBody sNames) (defScope sNames) .none kV17 dc17 pm17 an17 cd17 ct17), sl17⟩)
    (c17 : PySem.W.codeIn K cd17 "_law_names" = true)
    (k17 : PySem.W.keepIn K (.ref f17) = true)
    (a18 : PySem.W.nsIn K mainGlobals "_law_table" = some (some (.ref f18)))
    (l18 : K.lookup f18 = some ⟨oc18, od18, .func (PySem.W.fnOf "_law_table" "_law_table" (defArgs sTable) (defBody sTable) (defScope sTable) .none kV18 dc18 pm18 an18 cd18 ct18), sl18⟩)
    (c18 : PySem.W.codeIn K cd18 "_law_table" = true)
    (k18 : PySem.W.keepIn K (.ref f18) = true)
    (a19 : PySem.W.nsIn K mainGlobals "_law_standing" = some (some (.ref f19)))
    (l19 : K.lookup f19 = some ⟨oc19, od19, .func (PySem.W.fnOf "_law_standing" "_law_standing" (defArgs sStanding) (defBody sStanding) (defScope sStanding) .none kV19 dc19 pm19 an19 cd19 ct19), sl19⟩)
    (c19 : PySem.W.codeIn K cd19 "_law_standing" = true)
    (k19 : PySem.W.keepIn K (.ref f19) = true)
    (a20 : PySem.W.nsIn K mainGlobals "_law_beat" = some (some (.ref f20)))
    (l20 : K.lookup f20 = some ⟨oc20, od20, .func (PySem.W.fnOf "_law_beat" "_law_beat" (defArgs sBeat) (defBody sBeat) (defScope sBeat) .none kV20 dc20 pm20 an20 cd20 ct20), sl20⟩)
    (c20 : PySem.W.codeIn K cd20 "_law_beat" = true)
    (k20 : PySem.W.keepIn K (.ref f20) = true)
    (a21 : PySem.W.nsIn K mainGlobals "_law_choir" = some (some (.ref f21)))
    (l21 : K.lookup f21 = some ⟨oc21, od21, .func (PySem.W.fnOf "_law_choir" "_law_choir" (defArgs sChoir) (defBody sChoir) (defScope sChoir) .none kV21 dc21 pm21 an21 cd21 ct21), sl21⟩)
    (c21 : PySem.W.codeIn K cd21 "_law_choir" = true)
    (k21 : PySem.W.keepIn K (.ref f21) = true)
    (a22 : PySem.W.nsIn K mainGlobals "reached_reach" = some (some (.ref f22)))
    (l22 : K.lookup f22 = some ⟨oc22, od22, .func (PySem.W.fnOf "reached" "reached" (defArgs P_reached_reach) (defBody P_reached_reach) (defScope P_reached_reach) .none kV22 dc22 pm22 an22 cd22 ct22), sl22⟩)
    (c22 : PySem.W.codeIn K cd22 "reached" = true)
    (k22 : PySem.W.keepIn K (.ref f22) = true)
    (a23 : PySem.W.nsIn K mainGlobals "standings" = some (some (.ref f23)))
    (l23 : K.lookup f23 = some ⟨oc23, od23, .func (PySem.W.fnOf "standings" "standings" (defArgs P_standings) (defBody P_standings) (defScope P_standings) .none kV23 dc23 pm23 an23 cd23 ct23), sl23⟩)
    (c23 : PySem.W.codeIn K cd23 "standings" = true)
    (k23 : PySem.W.keepIn K (.ref f23) = true)
    (a24 : PySem.W.nsIn K mainGlobals "waits" = some (some (.ref f24)))
    (l24 : K.lookup f24 = some ⟨oc24, od24, .func (PySem.W.fnOf "waits" "waits" (defArgs P_waits) (defBody P_waits) (defScope P_waits) .none kV24 dc24 pm24 an24 cd24 ct24), sl24⟩)
    (c24 : PySem.W.codeIn K cd24 "waits" = true)
    (k24 : PySem.W.keepIn K (.ref f24) = true)
    (a25 : PySem.W.nsIn K mainGlobals "_law_led" = some (some (.ref f25)))
    (l25 : K.lookup f25 = some ⟨oc25, od25, .func (PySem.W.fnOf "_law_led" "_law_led" (defArgs sLed) (defBody sLed) (defScope sLed) .none kV25 dc25 pm25 an25 cd25 ct25), sl25⟩)
    (c25 : PySem.W.codeIn K cd25 "_law_led" = true)
    (k25 : PySem.W.keepIn K (.ref f25) = true)
    (a26 : PySem.W.nsIn K mainGlobals "_law_behind" = some (some (.ref f26)))
    (l26 : K.lookup f26 = some ⟨oc26, od26, .func (PySem.W.fnOf "_law_behind" "_law_behind" (defArgs sBehind) (defBody sBehind) (defScope sBehind) .none kV26 dc26 pm26 an26 cd26 ct26), sl26⟩)
    (c26 : PySem.W.codeIn K cd26 "_law_behind" = true)
    (k26 : PySem.W.keepIn K (.ref f26) = true)
    (a27 : PySem.W.nsIn K mainGlobals "_law_equation" = some (some (.ref f27)))
    (l27 : K.lookup f27 = some ⟨oc27, od27, .func (PySem.W.fnOf "_law_equation" "_law_equation" (defArgs sEquation) (defBody sEquation) (defScope sEquation) .none kV27 dc27 pm27 an27 cd27 ct27), sl27⟩)
    (c27 : PySem.W.codeIn K cd27 "_law_equation" = true)
    (k27 : PySem.W.keepIn K (.ref f27) = true)
    (a28 : PySem.W.nsIn K mainGlobals "is_standing" = some (some (.ref f28)))
    (l28 : K.lookup f28 = some ⟨oc28, od28, .func (PySem.W.fnOf "is_standing" "is_standing" (defArgs P_is_standing) (defBody P_is_standing) (defScope P_is_standing) .none kV28 dc28 pm28 an28 cd28 ct28), sl28⟩)
    (c28 : PySem.W.codeIn K cd28 "is_standing" = true)
    (k28 : PySem.W.keepIn K (.ref f28) = true)
    (a29 : PySem.W.nsIn K mainGlobals "_is_pair" = some (some (.ref f29)))
    (l29 : K.lookup f29 = some ⟨oc29, od29, .func (PySem.W.fnOf "_is_pair" "_is_pair" (defArgs P__is_pair) (defBody P__is_pair) (defScope P__is_pair) .none kV29 dc29 pm29 an29 cd29 ct29), sl29⟩)
    (c29 : PySem.W.codeIn K cd29 "_is_pair" = true)
    (k29 : PySem.W.keepIn K (.ref f29) = true)
    (a30 : PySem.W.nsIn K mainGlobals "are_waits" = some (some (.ref f30)))
    (l30 : K.lookup f30 = some ⟨oc30, od30, .func (PySem.W.fnOf "are_waits" "are_waits" (defArgs P_are_waits) (defBody P_are_waits) (defScope P_are_waits) .none kV30 dc30 pm30 an30 cd30 ct30), sl30⟩)
    (c30 : PySem.W.codeIn K cd30 "are_waits" = true)
    (k30 : PySem.W.keepIn K (.ref f30) = true)
    (a31 : PySem.W.nsIn K mainGlobals "law" = some (some (.ref f31)))
    (l31 : K.lookup f31 = some ⟨oc31, od31, .func (PySem.W.fnOf "law" "law" (defArgs sLaw) (defBody sLaw) (defScope sLaw) .none kV31 dc31 pm31 an31 cd31 ct31), sl31⟩)
    (c31 : PySem.W.codeIn K cd31 "law" = true)
    (k31 : PySem.W.keepIn K (.ref f31) = true)
    (aC1 : PySem.W.nsIn K mainGlobals "Choir" = some (some (.ref C1)))
    (pg1 : PySem.W.plainGet K C1 Str.empty = true)
    (hd1 : PySem.W.hasDictIn K C1 = true)
    (po1 : PySem.W.plainOver K C1 = true)
    (sa1 : PySem.W.findIn K (.ref C1) "__setattr__" = some (some (.builtin "object.__setattr__")))
    (mk1 : PySem.W.makesIn K C1 = true)
    (kc1 : PySem.W.keepIn K (.ref C1) = true)
    (ax1_1 : PySem.W.findIn K (.ref C1) "_way" = some (some (.ref fx1_1)))
    (ix1_1 : PySem.W.isFn K (.ref fx1_1) = true)
    (lx1_1 : K.lookup fx1_1 = some ⟨ocx1_1, odx1_1, .func (PySem.W.fnOf "_way" "Choir._way" (defArgs C_Choir_way) (defBody C_Choir_way) (defScope C_Choir_way) .none kVx1_1 dcx1_1 pmx1_1 anx1_1 cdx1_1 ctx1_1), slx1_1⟩)
    (cx1_1 : PySem.W.codeIn K cdx1_1 "Choir._way" = true)
    (kx1_1 : PySem.W.keepIn K (.ref fx1_1) = true)
    (ax1_2 : PySem.W.findIn K (.ref C1) "_ways_of" = some (some (.ref fx1_2)))
    (ix1_2 : PySem.W.isFn K (.ref fx1_2) = true)
    (lx1_2 : K.lookup fx1_2 = some ⟨ocx1_2, odx1_2, .func (PySem.W.fnOf "_ways_of" "Choir._ways_of" (defArgs C_Choir_ways_of) (defBody C_Choir_ways_of) (defScope C_Choir_ways_of) .none kVx1_2 dcx1_2 pmx1_2 anx1_2 cdx1_2 ctx1_2), slx1_2⟩)
    (cx1_2 : PySem.W.codeIn K cdx1_2 "Choir._ways_of" = true)
    (kx1_2 : PySem.W.keepIn K (.ref fx1_2) = true)
    (ax1_3 : PySem.W.findIn K (.ref C1) "_numbered" = some (some (.ref fx1_3)))
    (ix1_3 : PySem.W.isFn K (.ref fx1_3) = true)
    (lx1_3 : K.lookup fx1_3 = some ⟨ocx1_3, odx1_3, .func (PySem.W.fnOf "_numbered" "Choir._numbered" (defArgs C_Choir_numbered) (defBody C_Choir_numbered) (defScope C_Choir_numbered) .none kVx1_3 dcx1_3 pmx1_3 anx1_3 cdx1_3 ctx1_3), slx1_3⟩)
    (cx1_3 : PySem.W.codeIn K cdx1_3 "Choir._numbered" = true)
    (kx1_3 : PySem.W.keepIn K (.ref fx1_3) = true)
    (ax1_4 : PySem.W.findIn K (.ref C1) "_fill" = some (some (.ref fx1_4)))
    (ix1_4 : PySem.W.isFn K (.ref fx1_4) = true)
    (lx1_4 : K.lookup fx1_4 = some ⟨ocx1_4, odx1_4, .func (PySem.W.fnOf "_fill" "Choir._fill" (defArgs C_Choir_fill) (defBody C_Choir_fill) (defScope C_Choir_fill) .none kVx1_4 dcx1_4 pmx1_4 anx1_4 cdx1_4 ctx1_4), slx1_4⟩)
    (cx1_4 : PySem.W.codeIn K cdx1_4 "Choir._fill" = true)
    (kx1_4 : PySem.W.keepIn K (.ref fx1_4) = true)
    (ax1_5 : PySem.W.findIn K (.ref C1) "__init__" = some (some (.ref fx1_5)))
    (ix1_5 : PySem.W.isFn K (.ref fx1_5) = true)
    (lx1_5 : K.lookup fx1_5 = some ⟨ocx1_5, odx1_5, .func (PySem.W.fnOf "__init__" "Choir.__init__" (defArgs C_Choir_init) (defBody C_Choir_init) (defScope C_Choir_init) .none kVx1_5 dcx1_5 pmx1_5 anx1_5 cdx1_5 ctx1_5), slx1_5⟩)
    (cx1_5 : PySem.W.codeIn K cdx1_5 "Choir.__init__" = true)
    (kx1_5 : PySem.W.keepIn K (.ref fx1_5) = true)
    (ax1_6 : PySem.W.findIn K (.ref C1) "notes" = some (some (.ref fx1_6)))
    (ix1_6 : PySem.W.isFn K (.ref fx1_6) = true)
    (lx1_6 : K.lookup fx1_6 = some ⟨ocx1_6, odx1_6, .func (PySem.W.fnOf "notes" "Choir.notes" (defArgs C_Choir_notes) (defBody C_Choir_notes) (defScope C_Choir_notes) .none kVx1_6 dcx1_6 pmx1_6 anx1_6 cdx1_6 ctx1_6), slx1_6⟩)
    (cx1_6 : PySem.W.codeIn K cdx1_6 "Choir.notes" = true)
    (kx1_6 : PySem.W.keepIn K (.ref fx1_6) = true)
    (ax1_7 : PySem.W.findIn K (.ref C1) "__len__" = some (some (.ref fx1_7)))
    (ix1_7 : PySem.W.isFn K (.ref fx1_7) = true)
    (lx1_7 : K.lookup fx1_7 = some ⟨ocx1_7, odx1_7, .func (PySem.W.fnOf "__len__" "Choir.__len__" (defArgs C_Choir_len) (defBody C_Choir_len) (defScope C_Choir_len) .none kVx1_7 dcx1_7 pmx1_7 anx1_7 cdx1_7 ctx1_7), slx1_7⟩)
    (cx1_7 : PySem.W.codeIn K cdx1_7 "Choir.__len__" = true)
    (kx1_7 : PySem.W.keepIn K (.ref fx1_7) = true)
    (ax1_8 : PySem.W.findIn K (.ref C1) "behind" = some (some (.ref fx1_8)))
    (ix1_8 : PySem.W.isFn K (.ref fx1_8) = true)
    (lx1_8 : K.lookup fx1_8 = some ⟨ocx1_8, odx1_8, .func (PySem.W.fnOf "behind" "Choir.behind" (defArgs C_Choir_behind) (defBody C_Choir_behind) (defScope C_Choir_behind) .none kVx1_8 dcx1_8 pmx1_8 anx1_8 cdx1_8 ctx1_8), slx1_8⟩)
    (cx1_8 : PySem.W.codeIn K cdx1_8 "Choir.behind" = true)
    (kx1_8 : PySem.W.keepIn K (.ref fx1_8) = true)
    (ax1_9 : PySem.W.findIn K (.ref C1) "number" = some (some (.ref fx1_9)))
    (ix1_9 : PySem.W.isFn K (.ref fx1_9) = true)
    (lx1_9 : K.lookup fx1_9 = some ⟨ocx1_9, odx1_9, .func (PySem.W.fnOf "number" "Choir.number" (defArgs C_Choir_number) (defBody C_Choir_number) (defScope C_Choir_number) .none kVx1_9 dcx1_9 pmx1_9 anx1_9 cdx1_9 ctx1_9), slx1_9⟩)
    (cx1_9 : PySem.W.codeIn K cdx1_9 "Choir.number" = true)
    (kx1_9 : PySem.W.keepIn K (.ref fx1_9) = true)
    (ax1_10 : PySem.W.findIn K (.ref C1) "reached" = some (some (.ref fx1_10)))
    (ix1_10 : PySem.W.isFn K (.ref fx1_10) = true)
    (lx1_10 : K.lookup fx1_10 = some ⟨ocx1_10, odx1_10, .func (PySem.W.fnOf "reached" "Choir.reached" (defArgs C_Choir_reached) (defBody C_Choir_reached) (defScope C_Choir_reached) .none kVx1_10 dcx1_10 pmx1_10 anx1_10 cdx1_10 ctx1_10), slx1_10⟩)
    (cx1_10 : PySem.W.codeIn K cdx1_10 "Choir.reached" = true)
    (kx1_10 : PySem.W.keepIn K (.ref fx1_10) = true)
    (n1 : PySem.W.findIn K (.ref C1) "_voices" = some none)
    (n2 : PySem.W.findIn K (.ref C1) "_places" = some none)
    (n3 : PySem.W.findIn K (.ref C1) "_pace" = some none)
    (n4 : PySem.W.findIn K (.ref C1) "_numbers" = some none)
    (n5 : PySem.W.findIn K (.ref C1) "_notes" = some none)
    (n6 : PySem.W.findIn K (.ref C1) "_names" = some none)
    (n7 : PySem.W.findIn K (.ref C1) "_ways" = some none)
    (n8 : PySem.W.findIn K (.ref C1) "_standings" = some none)
    (n9 : PySem.W.findIn K (.ref C1) "_steps" = some none)
    (n10 : PySem.W.findIn K (.ref C1) "_reached" = some none)
    (n11 : PySem.W.findIn K (.ref C1) "_levels" = some none)
    (q1 : PySem.W.nsIn K mainGlobals "LONGEST_NAME" = some (some (.int (8) tq1)))
    (q2 : PySem.W.nsIn K mainGlobals "LEAST_PACE" = some (some (.int (2) tq2)))
    (q3 : PySem.W.nsIn K mainGlobals "GREATEST_PACE" = some (some (.int (4) tq3)))
    (q4 : PySem.W.nsIn K mainGlobals "MOST_STANDINGS" = some (some (.int (64) tq4)))
    (q5 : PySem.W.nsIn K mainGlobals "FEWEST_NOTES" = some (some (.int (2) tq5)))
    (q6 : PySem.W.nsIn K mainGlobals "MOST_NOTES" = some (some (.int (5) tq6)))
    (q7 : PySem.W.nsIn K mainGlobals "MOST_VOICES" = some (some (.int (6) tq7)))
    (z1 : PySem.W.nsIn K mainGlobals "divmod" = some none)
    (z2 : PySem.W.nsIn K mainGlobals "isinstance" = some none)
    (z3 : PySem.W.nsIn K mainGlobals "int" = some none)
    (z4 : PySem.W.nsIn K mainGlobals "bool" = some none)
    (z5 : PySem.W.nsIn K mainGlobals "all" = some none)
    (z6 : PySem.W.nsIn K mainGlobals "str" = some none)
    (z7 : PySem.W.nsIn K mainGlobals "len" = some none)
    (z8 : PySem.W.nsIn K mainGlobals "tuple" = some none)
    (z9 : PySem.W.nsIn K mainGlobals "range" = some none)
    (z10 : PySem.W.nsIn K mainGlobals "list" = some none)
    (z11 : PySem.W.nsIn K mainGlobals "enumerate" = some none)
    (z12 : PySem.W.nsIn K mainGlobals "sorted" = some none)
    (z13 : PySem.W.nsIn K mainGlobals "abs" = some none)
    (z14 : PySem.W.nsIn K mainGlobals "min" = some none)
    (z15 : PySem.W.nsIn K mainGlobals "max" = some none)
    (z16 : PySem.W.nsIn K mainGlobals "dict" = some none)
    :
    ∃ fd : FuncData, (∀ (s : Shared) (v : Value), BindsTo s fd ⟨[v], []⟩ [("script", v)]) ∧ ∀ base : Heap, K.In base → base.Ns mainGlobals mg → FnOk l.prog w K mg base CX0 9 fa fd ["script"] (spLaw K) := by
  have e := hfa.symm.trans (PySem.W.mg_of X G a31)
  cases e
  have F1 := fun_mk (st := P_figures_of) l1 c1 k1
  have b1 := F1.binds (ps := ["number", "pace"]) fun _ _ _ _ _ _ us hl => match us, hl with | [_, _], _ => rfl
  have F2 := fun_mk (st := P_is_whole) l2 c2 k2
  have b2 := F2.binds (ps := ["thing"]) fun _ _ _ _ _ _ us hl => match us, hl with | [_], _ => rfl
  have F3 := fun_mk (st := P_is_below) l3 c3 k3
  have b3 := F3.binds (ps := ["thing", "limit"]) fun _ _ _ _ _ _ us hl => match us, hl with | [_, _], _ => rfl
  have F4 := fun_mk (st := P__is_small) l4 c4 k4
  have b4 := F4.binds (ps := ["text"]) fun _ _ _ _ _ _ us hl => match us, hl with | [_], _ => rfl
  have F5 := fun_mk (st := P_is_name) l5 c5 k5
  have b5 := F5.binds (ps := ["thing"]) fun _ _ _ _ _ _ us hl => match us, hl with | [_], _ => rfl
  have F6 := fun_mk (st := P_is_pace) l6 c6 k6
  have b6 := F6.binds (ps := ["thing"]) fun _ _ _ _ _ _ us hl => match us, hl with | [_], _ => rfl
  have F7 := fun_mk (st := P__is_tuple_of) l7 c7 k7
  have b7 := F7.binds (ps := ["thing", "many"]) fun _ _ _ _ _ _ us hl => match us, hl with | [_, _], _ => rfl
  have F8 := fun_mk (st := P__is_table) l8 c8 k8
  have b8 := F8.binds (ps := ["notes", "thing"]) fun _ _ _ _ _ _ us hl => match us, hl with | [_, _], _ => rfl
  have F9 := fun_mk (st := P__is_voice) l9 c9 k9
  have b9 := F9.binds (ps := ["pace", "notes", "thing"]) fun _ _ _ _ _ _ us hl => match us, hl with | [_, _, _], _ => rfl
  have F10 := fun_mk (st := P__are_few) l10 c10 k10
  have b10 := F10.binds (ps := ["notes", "voices"]) fun _ _ _ _ _ _ us hl => match us, hl with | [_, _], _ => rfl
  have F11 := fun_mk (st := P__refuse_wrong) l11 c11 k11
  have b11 := F11.binds (ps := ["pace", "notes", "voices"]) fun _ _ _ _ _ _ us hl => match us, hl with | [_, _, _], _ => rfl
  have F12 := fun_mk (st := P__refuse_bad_voices) l12 c12 k12
  have b12 := F12.binds (ps := ["pace", "notes", "voices"]) fun _ _ _ _ _ _ us hl => match us, hl with | [_, _, _], _ => rfl
  have F13 := fun_mk (st := P__rows) l13 c13 k13
  have b13 := F13.binds (ps := ["notes", "many"]) fun _ _ _ _ _ _ us hl => match us, hl with | [_, _], _ => rfl
  have F14 := fun_mk (st := sBag) l14 c14 k14
  have b14 := F14.binds (ps := ["script"]) fun _ _ _ _ _ _ us hl => match us, hl with | [_], _ => rfl
  have F15 := fun_mk (st := sTake) l15 c15 k15
  have b15 := F15.binds (ps := ["bag", "many"]) fun _ _ _ _ _ _ us hl => match us, hl with | [_, _], _ => rfl
  have F16 := fun_mk (st := sParts) l16 c16 k16
  have b16 := F16.binds (ps := ["bag", "limit"]) fun _ _ _ _ _ _ us hl => match us, hl with | [_, _], _ => rfl
  have F17 := fun_mk (st := sNames) l17 c17 k17
  have b17 := F17.binds (ps := ["bag", "many"]) fun _ _ _ _ _ _ us hl => match us, hl with | [_, _], _ => rfl
  have F18 := fun_mk (st := sTable) l18 c18 k18
  have b18 := F18.binds (ps := ["bag", "notes"]) fun _ _ _ _ _ _ us hl => match us, hl with | [_, _], _ => rfl
  have F19 := fun_mk (st := sStanding) l19 c19 k19
  have b19 := F19.binds (ps := ["bag", "parts"]) fun _ _ _ _ _ _ us hl => match us, hl with | [_, _], _ => rfl
  have F20 := fun_mk (st := sBeat) l20 c20 k20
  have b20 := F20.binds (ps := ["bag", "pace", "far"]) fun _ _ _ _ _ _ us hl => match us, hl with | [_, _, _], _ => rfl
  have F21 := fun_mk (st := sChoir) l21 c21 k21
  have b21 := F21.binds (ps := ["parts"]) fun _ _ _ _ _ _ us hl => match us, hl with | [_], _ => rfl
  have F22 := fun_mk (st := P_reached_reach) l22 c22 k22
  have b22 := F22.binds (ps := ["ways", "root"]) fun _ _ _ _ _ _ us hl => match us, hl with | [_, _], _ => rfl
  have F23 := fun_mk (st := P_standings) l23 c23 k23
  have b23 := F23.binds (ps := ["choir"]) fun _ _ _ _ _ _ us hl => match us, hl with | [_], _ => rfl
  have F24 := fun_mk (st := P_waits) l24 c24 k24
  have b24 := F24.binds (ps := ["choir", "root"]) fun _ _ _ _ _ _ us hl => match us, hl with | [_, _], _ => rfl
  have F25 := fun_mk (st := sLed) l25 c25 k25
  have b25 := F25.binds (ps := ["parts", "standing", "rest"]) fun _ _ _ _ _ _ us hl => match us, hl with | [_, _, _], _ => rfl
  have F26 := fun_mk (st := sBehind) l26 c26 k26
  have b26 := F26.binds (ps := ["parts", "standing", "wait"]) fun _ _ _ _ _ _ us hl => match us, hl with | [_, _, _], _ => rfl
  have F27 := fun_mk (st := sEquation) l27 c27 k27
  have b27 := F27.binds (ps := ["parts", "root", "told"]) fun _ _ _ _ _ _ us hl => match us, hl with | [_, _, _], _ => rfl
  have F28 := fun_mk (st := P_is_standing) l28 c28 k28
  have b28 := F28.binds (ps := ["choir", "thing"]) fun _ _ _ _ _ _ us hl => match us, hl with | [_, _], _ => rfl
  have F29 := fun_mk (st := P__is_pair) l29 c29 k29
  have b29 := F29.binds (ps := ["choir", "thing"]) fun _ _ _ _ _ _ us hl => match us, hl with | [_, _], _ => rfl
  have F30 := fun_mk (st := P_are_waits) l30 c30 k30
  have b30 := F30.binds (ps := ["choir", "root", "thing"]) fun _ _ _ _ _ _ us hl => match us, hl with | [_, _, _], _ => rfl
  have F31 := fun_mk (st := sLaw) l31 c31 k31
  have Fx1_1 := fun_mk (st := C_Choir_way) lx1_1 cx1_1 kx1_1
  have bx1_1 := Fx1_1.binds (ps := ["self", "standing", "rest"]) fun _ _ _ _ _ _ us hl => match us, hl with | [_, _, _], _ => rfl
  have Fx1_2 := fun_mk (st := C_Choir_ways_of) lx1_2 cx1_2 kx1_2
  have bx1_2 := Fx1_2.binds (ps := ["self", "standing"]) fun _ _ _ _ _ _ us hl => match us, hl with | [_, _], _ => rfl
  have Fx1_3 := fun_mk (st := C_Choir_numbered) lx1_3 cx1_3 kx1_3
  have bx1_3 := Fx1_3.binds (ps := ["self", "ways"]) fun _ _ _ _ _ _ us hl => match us, hl with | [_, _], _ => rfl
  have Fx1_4 := fun_mk (st := C_Choir_fill) lx1_4 cx1_4 kx1_4
  have bx1_4 := Fx1_4.binds (ps := ["self", "pace", "notes", "voices"]) fun _ _ _ _ _ _ us hl => match us, hl with | [_, _, _, _], _ => rfl
  have Fx1_5 := fun_mk (st := C_Choir_init) lx1_5 cx1_5 kx1_5
  have bx1_5 := Fx1_5.binds (ps := ["self", "pace", "notes", "voices"]) fun _ _ _ _ _ _ us hl => match us, hl with | [_, _, _, _], _ => rfl
  have Fx1_6 := fun_mk (st := C_Choir_notes) lx1_6 cx1_6 kx1_6
  have bx1_6 := Fx1_6.binds (ps := ["self"]) fun _ _ _ _ _ _ us hl => match us, hl with | [_], _ => rfl
  have Fx1_7 := fun_mk (st := C_Choir_len) lx1_7 cx1_7 kx1_7
  have bx1_7 := Fx1_7.binds (ps := ["self"]) fun _ _ _ _ _ _ us hl => match us, hl with | [_], _ => rfl
  have Fx1_8 := fun_mk (st := C_Choir_behind) lx1_8 cx1_8 kx1_8
  have bx1_8 := Fx1_8.binds (ps := ["self", "standing", "wait"]) fun _ _ _ _ _ _ us hl => match us, hl with | [_, _, _], _ => rfl
  have Fx1_9 := fun_mk (st := C_Choir_number) lx1_9 cx1_9 kx1_9
  have bx1_9 := Fx1_9.binds (ps := ["self", "standing"]) fun _ _ _ _ _ _ us hl => match us, hl with | [_, _], _ => rfl
  have Fx1_10 := fun_mk (st := C_Choir_reached) lx1_10 cx1_10 kx1_10
  have bx1_10 := Fx1_10.binds (ps := ["self", "number"]) fun _ _ _ _ _ _ us hl => match us, hl with | [_, _], _ => rfl
  refine ⟨PySem.W.fnOf "law" "law" (defArgs sLaw) (defBody sLaw) (defScope sLaw) .none kV31 dc31 pm31 an31 cd31 ct31, fun s v => .of_eq rfl, fun base _ _ => ?_⟩
  have dFg : Df l.prog w K mg base "figures_of" 1 ["number", "pace"] spFigsN := ⟨f1, _, (PySem.W.mg_of X G a1), F1.kp, b1, ok_figs F1 (PySem.W.mg_none_of X G z1)⟩
  have dWh : Df l.prog w K mg base "is_whole" 1 ["thing"] (spK K wh) := ⟨f2, _, (PySem.W.mg_of X G a2), F2.kp, b2, ok_whole F2 (PySem.W.mg_none_of X G z2) (PySem.W.mg_none_of X G z3) (PySem.W.mg_none_of X G z4)⟩
  have dBe : Df l.prog w K mg base "is_below" 2 ["thing", "limit"] (spBlw K) := ⟨f3, _, (PySem.W.mg_of X G a3), F3.kp, b3, ok_below F3 dWh⟩
  have dSm : Df l.prog w K mg base "_is_small" 1 ["text"] (spS small) := ⟨f4, _, (PySem.W.mg_of X G a4), F4.kp, b4, ok_small F4 (PySem.W.mg_none_of X G z5)⟩
  have dNm : Df l.prog w K mg base "is_name" 2 ["thing"] (spK K nm) := ⟨f5, _, (PySem.W.mg_of X G a5), F5.kp, b5, ok_name F5 dSm (PySem.W.mg_of X G q1) (PySem.W.mg_none_of X G z2) (PySem.W.mg_none_of X G z6) (PySem.W.mg_none_of X G z7) (PySem.W.mg_none_of X G z5)⟩
  have dPc : Df l.prog w K mg base "is_pace" 2 ["thing"] (spK K HG.pc) := ⟨f6, _, (PySem.W.mg_of X G a6), F6.kp, b6, ok_pace F6 dWh (PySem.W.mg_of X G q2) (PySem.W.mg_of X G q3)⟩
  have dTo : Df l.prog w K mg base "_is_tuple_of" 1 ["thing", "many"] (spTupOf K) := ⟨f7, _, (PySem.W.mg_of X G a7), F7.kp, b7, ok_tupof F7 (PySem.W.mg_none_of X G z2) (PySem.W.mg_none_of X G z8) (PySem.W.mg_none_of X G z7)⟩
  have dTb : Df l.prog w K mg base "_is_table" 3 ["notes", "thing"] (spTableG K) := ⟨f8, _, (PySem.W.mg_of X G a8), F8.kp, b8, ok_istable F8 dTo dBe (PySem.W.mg_none_of X G z5)⟩
  have dVo : Df l.prog w K mg base "_is_voice" 4 ["pace", "notes", "thing"] (spVoiceG K) := ⟨f9, _, (PySem.W.mg_of X G a9), F9.kp, b9, ok_isvoice F9 dTo dNm dTb (PySem.W.mg_none_of X G z2) (PySem.W.mg_none_of X G z8) (PySem.W.mg_none_of X G z7) (PySem.W.mg_none_of X G z5)⟩
  have dFe : Df l.prog w K mg base "_are_few" 1 ["notes", "voices"] spFew := ⟨f10, _, (PySem.W.mg_of X G a10), F10.kp, b10, ok_few F10 (PySem.W.mg_none_of X G z9) (PySem.W.mg_of X G q4)⟩
  have dRw : Df l.prog w K mg base "_refuse_wrong" 3 ["pace", "notes", "voices"] (spGood K) := ⟨f11, _, (PySem.W.mg_of X G a11), F11.kp, b11, ok_rwrong F11 dPc dWh dFe (PySem.W.mg_none_of X G z2) (PySem.W.mg_none_of X G z10) (PySem.W.mg_none_of X G z7) (PySem.W.mg_of X G q5) (PySem.W.mg_of X G q6) (PySem.W.mg_of X G q7)⟩
  have dRb : Df l.prog w K mg base "_refuse_bad_voices" 5 ["pace", "notes", "voices"] (spGood K) := ⟨f12, _, (PySem.W.mg_of X G a12), F12.kp, b12, ok_rbad F12 dVo (PySem.W.mg_none_of X G z11) (PySem.W.mg_none_of X G z5)⟩
  have dRo : Df l.prog w K mg base "_rows" 1 ["notes", "many"] (spRowsN) := ⟨f13, _, (PySem.W.mg_of X G a13), F13.kp, b13, ok_rowsN F13 (PySem.W.mg_none_of X G z9)⟩
  have cl : Cls K C1 := ⟨pg1, hd1, po1, sa1⟩
  have mway : Mf l.prog w K mg base C1 "_way" 1 ["self", "standing", "rest"] (spWay K C1) := ⟨fx1_1, _, ⟨ax1_1, ix1_1, kx1_1⟩, bx1_1, ok_way Fx1_1 cl n1 n2 (PySem.W.mg_none_of X G z8)⟩
  have mwaysof : Mf l.prog w K mg base C1 "_ways_of" 2 ["self", "standing"] (spWaysOf K C1) := ⟨fx1_2, _, ⟨ax1_2, ix1_2, kx1_2⟩, bx1_2, ok_waysof Fx1_2 cl n3 mway (PySem.W.mg_none_of X G z8) (PySem.W.mg_none_of X G z9)⟩
  have mnumbered : Mf l.prog w K mg base C1 "_numbered" 1 ["self", "ways"] (spNumbered K C1) := ⟨fx1_3, _, ⟨ax1_3, ix1_3, kx1_3⟩, bx1_3, ok_numbered Fx1_3 cl n4 (PySem.W.mg_none_of X G z8)⟩
  have mfill : Mf l.prog w K mg base C1 "_fill" 3 ["self", "pace", "notes", "voices"] (spFill2 K C1 (AtN K C1)) := ⟨fx1_4, _, ⟨ax1_4, ix1_4, kx1_4⟩, bx1_4, ok_fill Fx1_4 cl n3 n5 n1 n6 n2 n7 n8 n4 n9 n10 n11 mwaysof mnumbered dRo (PySem.W.mg_none_of X G z12) (PySem.W.mg_none_of X G z11) (PySem.W.mg_none_of X G z7) (PySem.W.mg_none_of X G z8)⟩
  have kCh4 : Kf l.prog w K mg base "Choir" C1 6 ["self", "pace", "notes", "voices"] (spMake4 K C1 (AtN K C1)) := ⟨fx1_5, _, (PySem.W.mg_of X G aC1), ⟨mk1, ax1_5, ix1_5, kc1⟩, bx1_5, ok_init Fx1_5 cl dRw dRb mfill⟩
  have kCh : Kf l.prog w K mg base "Choir" C1 6 ["self", "pace", "notes", "voices"] (spMakeC K C1 (AtN K C1)) := let ⟨a, b, c, d, e, q⟩ := kCh4; ⟨a, b, c, d, e, q.imp (make4_imp K C1 (AtN K C1))⟩
  have mnotes : Mf l.prog w K mg base C1 "notes" 1 ["self"] (spFldM (AtC K C1) fun P => (P.notes : Int)) := ⟨fx1_6, _, ⟨ax1_6, ix1_6, kx1_6⟩, bx1_6, ok_notesM Fx1_6 cl n5⟩
  have mlen : Mf l.prog w K mg base C1 "__len__" 1 ["self"] (spFldM (AtC K C1) fun P => (P.voices.length : Int)) := ⟨fx1_7, _, ⟨ax1_7, ix1_7, kx1_7⟩, bx1_7, ok_lenM Fx1_7 cl n6 (PySem.W.mg_none_of X G z7)⟩
  have mbehind : Mf l.prog w K mg base C1 "behind" 2 ["self", "standing", "wait"] (spBehindM2 K (AtC K C1)) := ⟨fx1_8, _, ⟨ax1_8, ix1_8, kx1_8⟩, bx1_8, ok_behindM Fx1_8 cl n3 n7 dFg⟩
  have dG : Df l.prog w K mg base "_law_bag" 1 ["script"] (spBag K) := ⟨f14, _, (PySem.W.mg_of X G a14), F14.kp, b14, ok_bag F14 (PySem.W.mg_none_of X G z13)⟩
  have dT : Df l.prog w K mg base "_law_take" 1 ["bag", "many"] spTake2 := ⟨f15, _, (PySem.W.mg_of X G a15), F15.kp, b15, ok_take2 F15 (PySem.W.mg_none_of X G z7)⟩
  have dP : Df l.prog w K mg base "_law_parts" 3 ["bag", "limit"] (spParts K) := ⟨f16, _, (PySem.W.mg_of X G a16), F16.kp, b16, ok_parts F16 F15 b15 (PySem.W.mg_of X G a15) F17 b17 (PySem.W.mg_of X G a17) F18 b18 (PySem.W.mg_of X G a18) (PySem.W.mg_none_of X G z7) (PySem.W.mg_none_of X G z9) (PySem.W.mg_none_of X G z10) (PySem.W.mg_none_of X G z8) (PySem.W.mg_none_of X G z3) (PySem.W.mg_none_of X G z12)⟩
  have dS : Df l.prog w K mg base "_law_standing" 2 ["bag", "parts"] (spStanding K) := ⟨f19, _, (PySem.W.mg_of X G a19), F19.kp, b19, ok_standing F19 F15 b15 (PySem.W.mg_of X G a15) (PySem.W.mg_none_of X G z7) (PySem.W.mg_none_of X G z8)⟩
  have dB : Df l.prog w K mg base "_law_beat" 2 ["bag", "pace", "far"] spBeat := ⟨f20, _, (PySem.W.mg_of X G a20), F20.kp, b20, ok_beat F20 F15 b15 (PySem.W.mg_of X G a15) (PySem.W.mg_none_of X G z7) (PySem.W.mg_none_of X G z9) (PySem.W.mg_none_of X G z14) (PySem.W.mg_none_of X G z15)⟩
  obtain ⟨gI, gdI, mC, MI, bI, GI⟩ := kCh
  have dC : Df l.prog w K mg base "_law_choir" 8 ["parts"] (spChoir K (AtN K C1)) := ⟨f21, _, (PySem.W.mg_of X G a21), F21.kp, b21, ok_choir (n := 6) atN_k MI GI bI mC F21⟩
  have dBf : Df l.prog w K mg base "reached_reach" 1 ["ways", "root"] (spBfs) := ⟨f22, _, (PySem.W.mg_of X G a22), F22.kp, b22, ok_bfs F22 (PySem.W.mg_none_of X G z7) (PySem.W.mg_none_of X G z9) (PySem.W.mg_none_of X G z11) (PySem.W.mg_none_of X G z10)⟩
  have mnumber : Mf l.prog w K mg base C1 "number" 1 ["self", "standing"] (spNumM K C1) := ⟨fx1_9, _, ⟨ax1_9, ix1_9, kx1_9⟩, bx1_9, ok_numM Fx1_9 cl n4⟩
  have mreached : Mf l.prog w K mg base C1 "reached" 2 ["self", "number"] (spReach K C1) := ⟨fx1_10, _, ⟨ax1_10, ix1_10, kx1_10⟩, bx1_10, ok_reachM Fx1_10 cl n10 n9 dBf (PySem.W.mg_none_of X G z8)⟩
  have dSd : Df l.prog w K mg base "standings" 1 ["choir"] (spStds K C1) := ⟨f23, _, (PySem.W.mg_of X G a23), F23.kp, b23, ok_stds F23 cl n8 (PySem.W.mg_none_of X G z10)⟩
  have dWt : Df l.prog w K mg base "waits" 3 ["choir", "root"] (spWaits K C1) := ⟨f24, _, (PySem.W.mg_of X G a24), F24.kp, b24, ok_waits F24 cl dSd mnumber mreached⟩
  have dL : Df l.prog w K mg base "_law_led" 1 ["parts", "standing", "rest"] (spLed K) := ⟨f25, _, (PySem.W.mg_of X G a25), F25.kp, b25, ok_led F25 (PySem.W.mg_none_of X G z8)⟩
  have dBh : Df l.prog w K mg base "_law_behind" 2 ["parts", "standing", "wait"] (spBehindT K) := ⟨f26, _, (PySem.W.mg_of X G a26), F26.kp, b26, ok_behindT F26 F25 b25 (PySem.W.mg_of X G a25) (PySem.W.mg_none_of X G z8)⟩
  have dEq : Df l.prog w K mg base "_law_equation" 2 ["parts", "root", "told"] (spEqn K) := ⟨f27, _, (PySem.W.mg_of X G a27), F27.kp, b27, ok_eqn F27 dL (PySem.W.mg_none_of X G z9) (PySem.W.mg_none_of X G z14)⟩
  have dTX : Df l.prog w K mg base "_is_tuple_of" 1 ["thing", "many"] (spTupX K) := ⟨f7, _, (PySem.W.mg_of X G a7), F7.kp, b7, ok_tupofX F7 (PySem.W.mg_none_of X G z2) (PySem.W.mg_none_of X G z8) (PySem.W.mg_none_of X G z7)⟩
  have dI : Df l.prog w K mg base "is_standing" 4 ["choir", "thing"] (spIsStX K (AtC K C1)) := ⟨f28, _, (PySem.W.mg_of X G a28), F28.kp, b28, ok_isst F28 cl dTX dBe mlen mnotes (PySem.W.mg_none_of X G z7) (PySem.W.mg_none_of X G z5)⟩
  have dPr : Df l.prog w K mg base "_is_pair" 5 ["choir", "thing"] (spIsPr K C1) := ⟨f29, _, (PySem.W.mg_of X G a29), F29.kp, b29, ok_ispair F29 dI dWh (PySem.W.mg_none_of X G z2) (PySem.W.mg_none_of X G z8) (PySem.W.mg_none_of X G z7)⟩
  have dAw : Df l.prog w K mg base "are_waits" 6 ["choir", "root", "thing"] (spAreW K C1) := ⟨f30, _, (PySem.W.mg_of X G a30), F30.kp, b30, ok_arew F30 dPr dWt (PySem.W.mg_none_of X G z2) (PySem.W.mg_none_of X G z10) (PySem.W.mg_none_of X G z5)⟩
  exact ok_law cl F31 dG dT dP dC dS dB dWt dEq dAw dBh mbehind (PySem.W.mg_none_of X G z9) (PySem.W.mg_none_of X G z16)
end P52
open PySem PySem.W PyProof.Rows
set_option maxHeartbeats 0 in
theorem PySem.Challenge.cw_halfpace_k52_whole_no_sooner_holds : PySem.Challenge.rw_halfpace_k52_whole_no_sooner.Holds := by
  w_on; o_law; k_head; (case hw => w_witness2)
  k_fill
  refine L2.walk_of (l := PySem.Challenge.rw_halfpace_k52_whole_no_sooner) (n := 63) (k := 9) (x := "script") (CX := fun _ => L2.CX0) (sp := fun w => P52.spLaw _) rfl (by decide) rfl ⟨rfl, by decide, by decide⟩ (fun w h Y => PySem.W.kIn_of Y) ?F (fun _ _ a ns hl _ hS => ⟨a, ns, rfl, hS, hl, fun _ => rfl⟩) (fun _ _ _ _ _ h => h)
  case F =>
    intro w mg fa h KX G hmg
    refine' P52.all_mk KX G hmg ?a1 ?l1 ?c1 ?k1 ?a2 ?l2 ?c2 ?k2 ?a3 ?l3 ?c3 ?k3 ?a4 ?l4 ?c4 ?k4 ?a5 ?l5 ?c5 ?k5 ?a6 ?l6 ?c6 ?k6 ?a7 ?l7 ?c7 ?k7 ?a8 ?l8 ?c8 ?k8 ?a9 ?l9 ?c9 ?k9 ?a10 ?l10 ?c10 ?k10 ?a11 ?l11 ?c11 ?k11 ?a12 ?l12 ?c12 ?k12 ?a13 ?l13 ?c13 ?k13 ?a14 ?l14 ?c14 ?k14 ?a15 ?l15 ?c15 ?k15 ?a16 ?l16 ?c16 ?k16 ?a17 ?l17 ?c17 ?k17 ?a18 ?l18 ?c18 ?k18 ?a19 ?l19 ?c19 ?k19 ?a20 ?l20 ?c20 ?k20 ?a21 ?l21 ?c21 ?k21 ?a22 ?l22 ?c22 ?k22 ?a23 ?l23 ?c23 ?k23 ?a24 ?l24 ?c24 ?k24 ?a25 ?l25 ?c25 ?k25 ?a26 ?l26 ?c26 ?k26 ?a27 ?l27 ?c27 ?k27 ?a28 ?l28 ?c28 ?k28 ?a29 ?l29 ?c29 ?k29 ?a30 ?l30 ?c30 ?k30 ?a31 ?l31 ?c31 ?k31 ?aC1 ?pg1 ?hd1 ?po1 ?sa1 ?mk1 ?kc1 ?ax1_1 ?ix1_1 ?lx1_1 ?cx1_1 ?kx1_1 ?ax1_2 ?ix1_2 ?lx1_2 ?cx1_2 ?kx1_2 ?ax1_3 ?ix1_3 ?lx1_3 ?cx1_3 ?kx1_3 ?ax1_4 ?ix1_4 ?lx1_4 ?cx1_4 ?kx1_4 ?ax1_5 ?ix1_5 ?lx1_5 ?cx1_5 ?kx1_5 ?ax1_6 ?ix1_6 ?lx1_6 ?cx1_6 ?kx1_6 ?ax1_7 ?ix1_7 ?lx1_7 ?cx1_7 ?kx1_7 ?ax1_8 ?ix1_8 ?lx1_8 ?cx1_8 ?kx1_8 ?ax1_9 ?ix1_9 ?lx1_9 ?cx1_9 ?kx1_9 ?ax1_10 ?ix1_10 ?lx1_10 ?cx1_10 ?kx1_10 ?n1 ?n2 ?n3 ?n4 ?n5 ?n6 ?n7 ?n8 ?n9 ?n10 ?n11 ?q1 ?q2 ?q3 ?q4 ?q5 ?q6 ?q7 ?z1 ?z2 ?z3 ?z4 ?z5 ?z6 ?z7 ?z8 ?z9 ?z10 ?z11 ?z12 ?z13 ?z14 ?z15 ?z16
    (case a1 => k_is)
    (case l1 => k_is)
    (case c1 => k_is)
    (case k1 => k_is)
    (case a2 => k_is)
    (case l2 => k_is)
    (case c2 => k_is)
    (case k2 => k_is)
    (case a3 => k_is)
    (case l3 => k_is)
    (case c3 => k_is)
    (case k3 => k_is)
    (case a4 => k_is)
    (case l4 => k_is)
    (case c4 => k_is)
    (case k4 => k_is)
    (case a5 => k_is)
    (case l5 => k_is)
    (case c5 => k_is)
    (case k5 => k_is)
    (case a6 => k_is)
    (case l6 => k_is)
    (case c6 => k_is)
    (case k6 => k_is)
    (case a7 => k_is)
    (case l7 => k_is)
    (case c7 => k_is)
    (case k7 => k_is)
    (case a8 => k_is)
    (case l8 => k_is)
    (case c8 => k_is)
    (case k8 => k_is)
    (case a9 => k_is)
    (case l9 => k_is)
    (case c9 => k_is)
    (case k9 => k_is)
    (case a10 => k_is)
    (case l10 => k_is)
    (case c10 => k_is)
    (case k10 => k_is)
    (case a11 => k_is)
    (case l11 => k_is)
    (case c11 => k_is)
    (case k11 => k_is)
    (case a12 => k_is)
    (case l12 => k_is)
    (case c12 => k_is)
    (case k12 => k_is)
    (case a13 => k_is)
    (case l13 => k_is)
    (case c13 => k_is)
    (case k13 => k_is)
    (case a14 => k_is)
    (case l14 => k_is)
    (case c14 => k_is)
    (case k14 => k_is)
    (case a15 => k_is)
    (case l15 => k_is)
    (case c15 => k_is)
    (case k15 => k_is)
    (case a16 => k_is)
    (case l16 => k_is)
    (case c16 => k_is)
    (case k16 => k_is)
    (case a17 => k_is)
    (case l17 => k_is)
    (case c17 => k_is)
    (case k17 => k_is)
    (case a18 => k_is)
    (case l18 => k_is)
    (case c18 => k_is)
    (case k18 => k_is)
    (case a19 => k_is)
    (case l19 => k_is)
    (case c19 => k_is)
    (case k19 => k_is)
    (case a20 => k_is)
    (case l20 => k_is)
    (case c20 => k_is)
    (case k20 => k_is)
    (case a21 => k_is)
    (case l21 => k_is)
    (case c21 => k_is)
    (case k21 => k_is)
    (case a22 => k_is)
    (case l22 => k_is)
    (case c22 => k_is)
    (case k22 => k_is)
    (case a23 => k_is)
    (case l23 => k_is)
    (case c23 => k_is)
    (case k23 => k_is)
    (case a24 => k_is)
    (case l24 => k_is)
    (case c24 => k_is)
    (case k24 => k_is)
    (case a25 => k_is)
    (case l25 => k_is)
    (case c25 => k_is)
    (case k25 => k_is)
    (case a26 => k_is)
    (case l26 => k_is)
    (case c26 => k_is)
    (case k26 => k_is)
    (case a27 => k_is)
    (case l27 => k_is)
    (case c27 => k_is)
    (case k27 => k_is)
    (case a28 => k_is)
    (case l28 => k_is)
    (case c28 => k_is)
    (case k28 => k_is)
    (case a29 => k_is)
    (case l29 => k_is)
    (case c29 => k_is)
    (case k29 => k_is)
    (case a30 => k_is)
    (case l30 => k_is)
    (case c30 => k_is)
    (case k30 => k_is)
    (case a31 => k_is)
    (case l31 => k_is)
    (case c31 => k_is)
    (case k31 => k_is)
    (case aC1 => k_is)
    (case pg1 => k_is)
    (case hd1 => k_is)
    (case po1 => k_is)
    (case sa1 => k_is)
    (case mk1 => k_is)
    (case kc1 => k_is)
    (case ax1_1 => k_is)
    (case ix1_1 => k_is)
    (case lx1_1 => k_is)
    (case cx1_1 => k_is)
    (case kx1_1 => k_is)
    (case ax1_2 => k_is)
    (case ix1_2 => k_is)
    (case lx1_2 => k_is)
    (case cx1_2 => k_is)
    (case kx1_2 => k_is)
    (case ax1_3 => k_is)
    (case ix1_3 => k_is)
    (case lx1_3 => k_is)
    (case cx1_3 => k_is)
    (case kx1_3 => k_is)
    (case ax1_4 => k_is)
    (case ix1_4 => k_is)
    (case lx1_4 => k_is)
    (case cx1_4 => k_is)
    (case kx1_4 => k_is)
    (case ax1_5 => k_is)
    (case ix1_5 => k_is)
    (case lx1_5 => k_is)
    (case cx1_5 => k_is)
    (case kx1_5 => k_is)
    (case ax1_6 => k_is)
    (case ix1_6 => k_is)
    (case lx1_6 => k_is)
    (case cx1_6 => k_is)
    (case kx1_6 => k_is)
    (case ax1_7 => k_is)
    (case ix1_7 => k_is)
    (case lx1_7 => k_is)
    (case cx1_7 => k_is)
    (case kx1_7 => k_is)
    (case ax1_8 => k_is)
    (case ix1_8 => k_is)
    (case lx1_8 => k_is)
    (case cx1_8 => k_is)
    (case kx1_8 => k_is)
    (case ax1_9 => k_is)
    (case ix1_9 => k_is)
    (case lx1_9 => k_is)
    (case cx1_9 => k_is)
    (case kx1_9 => k_is)
    (case ax1_10 => k_is)
    (case ix1_10 => k_is)
    (case lx1_10 => k_is)
    (case cx1_10 => k_is)
    (case kx1_10 => k_is)
    (case n1 => k_is)
    (case n2 => k_is)
    (case n3 => k_is)
    (case n4 => k_is)
    (case n5 => k_is)
    (case n6 => k_is)
    (case n7 => k_is)
    (case n8 => k_is)
    (case n9 => k_is)
    (case n10 => k_is)
    (case n11 => k_is)
    (case q1 => k_is)
    (case q2 => k_is)
    (case q3 => k_is)
    (case q4 => k_is)
    (case q5 => k_is)
    (case q6 => k_is)
    (case q7 => k_is)
    (case z1 => k_is)
    (case z2 => k_is)
    (case z3 => k_is)
    (case z4 => k_is)
    (case z5 => k_is)
    (case z6 => k_is)
    (case z7 => k_is)
    (case z8 => k_is)
    (case z9 => k_is)
    (case z10 => k_is)
    (case z11 => k_is)
    (case z12 => k_is)
    (case z13 => k_is)
    (case z14 => k_is)
    (case z15 => k_is)
    (case z16 => k_is)

