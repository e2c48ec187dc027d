import PyProof.Rows.All
import Wide.All
import OpenK.AllK
import Wide.FinOn
import PyProof.Rows.NestFoldShow
import HandS.Base
import HandS.Call
import HandS.List
import HandS.Comp
import HandS.Dict
import HandS.Iter
import HandS.Ends
import HandS.Words
import HandS.WordsList
import HandS.Walk
import HandS.Set
import HandS.SetFor
import HandS.Strs
import HandS.DictComp
import HandS.Style
import HandS.SortInts
import HandS.TupLe
import PyProof.ReprBulk
import HandS.Gcd
import PySem.Challenge.RW_unfooled_k48_safe_rounds_by_trying
set_option linter.all false
namespace Nm
def flt (n : Nat) (f : Nat → Bool) : List Nat := (List.range n).filter f
def Per (s : Nat → Bool) (t p : Nat) : Prop := ∀ n, t ≤ n → s (n + p) = s n
/-- the one quadruple for a sequence -/
structure Canon (s : Nat → Bool) (b : List Nat) (t p : Nat) (r : List Nat) : Prop where
  pos : 0 < p
  per : Per s t p
  least : ∀ q N, 0 < q → Per s N q → p ≤ q
  low : t = 0 ∨ s (t - 1 + p) ≠ s (t - 1)
  be : b = flt t s
  re : r = flt p (fun x => s (t + x))
theorem Canon.uniq {s : Nat → Bool} {b b' : List Nat} {t t' p p' : Nat} {r r' : List Nat} (c : Canon s b t p r) (d : Canon s b' t' p' r') : b = b' ∧ t = t' ∧ p = p' ∧ r = r' := by
  have e : p = p' := Nat.le_antisymm (c.least _ _ d.pos d.per) (d.least _ _ c.pos c.per)
  subst e
  have h : t = t' := by
    rcases Nat.lt_trichotomy t t' with h | h | h
    · rcases d.low with z | z
      · omega
      · exact absurd (c.per (t' - 1) (by omega)) z
    · exact h
    · rcases c.low with z | z
      · omega
      · exact absurd (d.per (t - 1) (by omega)) z
  subst h
  exact ⟨c.be.trans d.be.symm, rfl, rfl, c.re.trans d.re.symm⟩
theorem Per.mul {s : Nat → Bool} {t p : Nat} (h : Per s t p) : ∀ k n, t ≤ n → s (n + k * p) = s n
  | 0, n, _ => by rw [Nat.zero_mul, Nat.add_zero]
  | k + 1, n, hn => by
    have e : n + (k + 1) * p = (n + k * p) + p := by rw [Nat.add_mul]; omega
    rw [e, h _ (by omega), h.mul k n hn]
theorem Per.up {s : Nat → Bool} {t t' p : Nat} (h : Per s t p) (k : t ≤ t') : Per s t' p := fun n hn => h n (by omega)
theorem least_of {P : Nat → Prop} : ∀ n, (∃ q, q ≤ n ∧ P q) → ∃ q, P q ∧ q ≤ n ∧ ∀ q', P q' → q ≤ q'
  | 0, ⟨q, h, p⟩ => ⟨q, p, h, fun q' _ => by omega⟩
  | n + 1, ⟨q, h, p⟩ => by
    by_cases k : ∃ q, q ≤ n ∧ P q
    · obtain ⟨q, p, h, l⟩ := least_of n k
      exact ⟨q, p, by omega, l⟩
    · refine ⟨q, p, h, fun q' p' => ?_⟩
      have : ¬ q' ≤ n := fun h' => k ⟨q', h', p'⟩
      omega
/-- what a quadruple tells -/
def seqOf (b : List Nat) (t p : Nat) (r : List Nat) (n : Nat) : Bool := if n < t then b.contains n else r.contains ((n - t) % p)
/-- the rest goes on -/
def Closed (p : Nat) (r : List Nat) (q : Nat) : Prop := ∀ x ∈ r, (x + q) % p ∈ r
section
variable {b : List Nat} {t p : Nat} {r : List Nat}
theorem seqOf_at (n : Nat) : seqOf b t p r (t + n) = r.contains (n % p) := by
  unfold seqOf
  rw [if_neg (by omega), show t + n - t = n by omega]
theorem seqOf_per : Per (seqOf b t p r) t p := fun n hn => by
  obtain ⟨m, rfl⟩ := Nat.exists_eq_add_of_le hn
  rw [Nat.add_assoc, seqOf_at, seqOf_at, Nat.add_mod_right]
theorem closed_go {q : Nat} (c : Closed p r q) (m : Nat) (h : r.contains (m % p) = true) : r.contains ((m + q) % p) = true := by
  rw [List.contains_iff_mem] at *
  have := c _ h
  rwa [Nat.mod_add_mod] at this
theorem closed_goes {q : Nat} (c : Closed p r q) (m : Nat) (h : r.contains (m % p) = true) : ∀ k, r.contains ((m + k * q) % p) = true
  | 0 => by rw [Nat.zero_mul]; exact h
  | k + 1 => by
    have e : m + (k + 1) * q = (m + k * q) + q := by rw [Nat.add_mul]; omega
    rw [e]
    exact closed_go c _ (closed_goes c m h k)
theorem closed_per {q : Nat} (hq : 0 < q) (hd : p % q = 0) (hp : 0 < p) (c : Closed p r q) : Per (seqOf b t p r) t q := fun n hn => by
  obtain ⟨m, rfl⟩ := Nat.exists_eq_add_of_le hn
  rw [Nat.add_assoc, seqOf_at, seqOf_at]
  have hz : ∃ k, p = k * q + q := by
    obtain ⟨k, e⟩ := Nat.dvd_of_mod_eq_zero hd
    cases k with
    | zero => omega
    | succ k => exact ⟨k, by rw [e, Nat.mul_succ, Nat.mul_comm]⟩
  obtain ⟨k, e⟩ := hz
  cases h : r.contains (m % p) with
  | true => exact closed_go c m h
  | false =>
    cases h2 : r.contains ((m + q) % p) with
    | false => rfl
    | true =>
      have z := closed_goes c (m + q) h2 k
      rw [show m + q + k * q = m + p by omega, Nat.add_mod_right, h] at z
      cases z
theorem per_closed {q N : Nat} (hr : ∀ x ∈ r, x < p) (hp : 0 < p) (h : Per (seqOf b t p r) N q) : Closed p r q := fun x hx => by
  have e1 : seqOf b t p r (t + (x + N * p)) = true := by
    rw [seqOf_at, Nat.add_mul_mod_self_right, Nat.mod_eq_of_lt (hr x hx), List.contains_iff_mem]
    exact hx
  have hN : N ≤ N * p := Nat.le_mul_of_pos_right N hp
  have e2 := h (t + (x + N * p)) (by omega)
  rw [e1, show t + (x + N * p) + q = t + (x + q + N * p) by omega, seqOf_at, Nat.add_mul_mod_self_right, List.contains_iff_mem] at e2
  exact e2
theorem per_mod {s : Nat → Bool} {N M q p : Nat} (h : Per s N q) (k : Per s M p) : Per s (N + M) (p % q) := fun n hn => by
  have e := k n (by omega)
  have e2 := h.mul (p / q) (n + p % q) (by omega)
  have e3 : n + p % q + p / q * q = n + p := by have := Nat.mod_add_div p q; rw [Nat.mul_comm] at this; omega
  rw [e3] at e2
  rw [← e2, e]
/-- the least part of the period by which the rests come round is the least period -/
structure Lp (p : Nat) (r : List Nat) (q : Nat) : Prop where
  pos : 0 < q
  le : q ≤ p
  dvd : p % q = 0
  closed : Closed p r q
  least : ∀ q', 0 < q' → q' < q → p % q' = 0 → ¬ Closed p r q'
theorem Lp.lp {q : Nat} (l : Lp p r q) (hr : ∀ x ∈ r, x < p) : ∀ q' N, 0 < q' → Per (seqOf b t p r) N q' → q ≤ q' := fun q1 N1 h1 k1 => by
  have hp : 0 < p := Nat.lt_of_lt_of_le l.pos l.le
  obtain ⟨q0, ⟨h0, N0, k0⟩, hle, hl⟩ := least_of (P := fun q' => 0 < q' ∧ ∃ N, Per (seqOf b t p r) N q') q1 ⟨q1, Nat.le_refl _, h1, N1, k1⟩
  refine Nat.le_trans ?_ hle
  refine Nat.le_of_not_lt fun hlt => ?_
  refine l.least q0 h0 hlt ?_ (per_closed hr hp k0)
  cases hm : p % q0 with
  | zero => rfl
  | succ m =>
    have z := hl (p % q0) ⟨by omega, _, per_mod k0 seqOf_per⟩
    have := Nat.mod_lt p h0
    omega
theorem lp_self (hr : ∀ x ∈ r, x < p) : Closed p r p := fun x hx => by
  rw [Nat.add_mod_right, Nat.mod_eq_of_lt (hr x hx)]
  exact hx
end
/-! ### ascending lists -/
theorem asc_ext : ∀ {xs ys : List Int}, xs.Pairwise (· < ·) → ys.Pairwise (· < ·) → (∀ k, k ∈ xs ↔ k ∈ ys) → xs = ys
  | [], [], _, _, _ => rfl
  | [], y :: ys, _, _, h => by simpa using (h y)
  | x :: xs, [], _, _, h => by simpa using (h x)
  | x :: xs, y :: ys, hx, hy, h => by
    rw [List.pairwise_cons] at hx hy
    have e : x = y := by
      have h1 := (h x).mp List.mem_cons_self
      have h2 := (h y).mpr List.mem_cons_self
      rw [List.mem_cons] at h1 h2
      rcases h1 with h1 | h1
      · exact h1
      · rcases h2 with h2 | h2
        · exact h2.symm
        · have := hx.1 _ h2
          have := hy.1 _ h1
          omega
    subst e
    rw [asc_ext hx.2 hy.2 fun k => ?_]
    have hk := h k
    rw [List.mem_cons, List.mem_cons] at hk
    constructor
    · intro m
      rcases hk.mp (.inr m) with z | z
      · have := hx.1 _ m
        omega
      · exact z
    · intro m
      rcases hk.mpr (.inr m) with z | z
      · have := hy.1 _ m
        omega
      · exact z
theorem flt_mem {n : Nat} {f : Nat → Bool} {x : Nat} : x ∈ flt n f ↔ x < n ∧ f x = true := by
  unfold flt
  rw [List.mem_filter, List.mem_range]
theorem flt_asc {n : Nat} {f : Nat → Bool} : ((flt n f).map (fun x : Nat => (x : Int))).Pairwise (· < ·) := by
  unfold flt
  rw [List.pairwise_map]
  refine List.Pairwise.imp (R := fun a b : Nat => a < b) (fun h => by omega) ?_
  exact List.Pairwise.filter _ List.pairwise_lt_range
theorem flt_len {n : Nat} {f : Nat → Bool} : (flt n f).length ≤ n := by
  unfold flt
  have := List.length_filter_le f (List.range n)
  rwa [List.length_range] at this
/-- an ascending list of just these numbers is the list -/
theorem flt_is {n : Nat} {f : Nat → Bool} {ns : List Int} (h : ns.Pairwise (· < ·)) (k : ∀ x : Int, x ∈ ns ↔ ∃ m : Nat, x = (m : Int) ∧ m < n ∧ f m = true) : ns = (flt n f).map (fun x : Nat => (x : Int)) :=
  asc_ext h flt_asc fun x => by
    rw [k, List.mem_map]
    constructor
    · rintro ⟨m, rfl, h1, h2⟩
      exact ⟨m, flt_mem.mpr ⟨h1, h2⟩, rfl⟩
    · rintro ⟨m, h, rfl⟩
      exact ⟨m, rfl, flt_mem.mp h⟩
theorem flt_low {n m : Nat} {f : Nat → Bool} (h : m ≤ n) : (flt n f).filter (fun x => decide (x < m)) = flt m f := by
  unfold flt
  rw [List.filter_filter]
  have : ∀ (n m : Nat), m ≤ n → (List.range n).filter (fun a => (decide (a < m) && f a)) = (List.range m).filter f := by
    intro n
    induction n with
    | zero => intro m h; have : m = 0 := by omega
              subst this; rfl
    | succ n ih =>
      intro m h
      by_cases e : m = n + 1
      · subst e
        refine List.filter_congr fun x hx => ?_
        rw [List.mem_range] at hx
        simp [hx]
      · rw [List.range_succ, List.filter_append, ih m (by omega)]
        simp
        omega
  exact this n m h
theorem seq_canon {s : Nat → Bool} {t p : Nat} (hp : 0 < p) (h : Per s t p) (n : Nat) : seqOf (flt t s) t p (flt p fun x => s (t + x)) n = s n := by
  unfold seqOf
  by_cases hn : n < t
  · rw [if_pos hn, Bool.eq_iff_iff, List.contains_iff_mem, flt_mem]
    exact ⟨fun z => z.2, fun z => ⟨hn, z⟩⟩
  · rw [if_neg hn, Bool.eq_iff_iff, List.contains_iff_mem, flt_mem]
    have e : s (t + (n - t) % p) = s n := by
      have := h.mul ((n - t) / p) (t + (n - t) % p) (by omega)
      rw [← this]
      have e3 := Nat.mod_add_div (n - t) p
      rw [Nat.mul_comm] at e3
      rw [show t + (n - t) % p + (n - t) / p * p = n by omega]
    rw [e]
    exact ⟨fun z => z.2, fun z => ⟨Nat.mod_lt _ hp, z⟩⟩
end Nm

set_option linter.all false
namespace Nm
/-- the tail one less -/
theorem per_down {s : Nat → Bool} {t p : Nat} (h : Per s t p) (ht : 0 < t) (e : s (t - 1 + p) = s (t - 1)) : Per s (t - 1) p := fun n hn => by
  by_cases z : n = t - 1
  · rw [z, e]
  · exact h n (by omega)
/-- the rests of a lesser tail -/
theorem rests_down {s : Nat → Bool} {t p : Nat} (hp : 0 < p) (h : Per s (t - 1) p) (ht : 0 < t) (x : Nat) : (x < p ∧ s (t - 1 + x) = true) ↔ ∃ y, y ∈ flt p (fun x => s (t + x)) ∧ (y + 1) % p = x := by
  constructor
  · rintro ⟨hx, hs⟩
    by_cases z : x = 0
    · refine ⟨p - 1, flt_mem.mpr ⟨by omega, ?_⟩, ?_⟩
      · have := h (t - 1) (by omega)
        rw [show t + (p - 1) = t - 1 + p by omega, this]
        rw [z, Nat.add_zero] at hs
        exact hs
      · rw [show p - 1 + 1 = p by omega, Nat.mod_self, z]
    · refine ⟨x - 1, flt_mem.mpr ⟨by omega, ?_⟩, ?_⟩
      · rw [show t + (x - 1) = t - 1 + x by omega]
        exact hs
      · rw [show x - 1 + 1 = x by omega, Nat.mod_eq_of_lt hx]
  · rintro ⟨y, hy, e⟩
    obtain ⟨h1, h2⟩ := flt_mem.mp hy
    subst e
    refine ⟨Nat.mod_lt _ hp, ?_⟩
    by_cases z : y + 1 = p
    · rw [z, Nat.mod_self, Nat.add_zero]
      have := h (t - 1) (by omega)
      rw [← this, ← z, show t - 1 + (y + 1) = t + y by omega]
      exact h2
    · rw [Nat.mod_eq_of_lt (by omega), show t - 1 + (y + 1) = t + y by omega]
      exact h2
theorem succ_inj {p y z : Nat} (hy : y < p) (hz : z < p) (e : (y + 1) % p = (z + 1) % p) : y = z := by
  by_cases a : y + 1 = p <;> by_cases b : z + 1 = p
  · omega
  · rw [a, Nat.mod_self, Nat.mod_eq_of_lt (show z + 1 < p by omega)] at e
    omega
  · rw [b, Nat.mod_self, Nat.mod_eq_of_lt (show y + 1 < p by omega)] at e
    omega
  · rw [Nat.mod_eq_of_lt (show z + 1 < p by omega), Nat.mod_eq_of_lt (show y + 1 < p by omega)] at e
    omega
theorem flt_nodup {n : Nat} {f : Nat → Bool} : (flt n f).Nodup := List.Nodup.sublist List.filter_sublist List.nodup_range
theorem nodup_map_on {α β : Type} {f : α → β} : ∀ {xs : List α}, (∀ x ∈ xs, ∀ y ∈ xs, f x = f y → x = y) → xs.Nodup → (xs.map f).Nodup
  | [], _, _ => List.nodup_nil
  | x :: xs, h, d => by
    rw [List.nodup_cons] at d
    rw [List.map_cons, List.nodup_cons]
    refine ⟨fun m => ?_, nodup_map_on (fun a ha b hb => h a (List.mem_cons_of_mem _ ha) b (List.mem_cons_of_mem _ hb)) d.2⟩
    obtain ⟨y, hy, e⟩ := List.mem_map.mp m
    have := h y (List.mem_cons_of_mem _ hy) x List.mem_cons_self e
    subst this
    exact d.1 hy
/-- sorted, without a number twice: ascending -/
theorem asc_of_sorted {xs : List Int} (h : xs.Pairwise (· ≤ ·)) (d : xs.Nodup) : xs.Pairwise (· < ·) := by
  have := List.Pairwise.and h d
  exact this.imp fun ⟨a, b⟩ => by omega
theorem sort_down {s : Nat → Bool} {t p : Nat} (hp : 0 < p) (h : Per s (t - 1) p) (ht : 0 < t) {ns : List Int} (pm : ns.Perm ((flt p fun x => s (t + x)).map fun y : Nat => (((y + 1) % p : Nat) : Int))) (so : ns.Pairwise (· ≤ ·)) :
    ns = (flt p fun x => s (t - 1 + x)).map (fun x : Nat => (x : Int)) := by
  refine flt_is (asc_of_sorted so ?_) fun x => ?_
  · refine pm.symm.nodup ?_
    refine nodup_map_on (fun a ha b hb e => ?_) flt_nodup
    exact succ_inj (flt_mem.mp ha).1 (flt_mem.mp hb).1 (by omega)
  · rw [pm.mem_iff, List.mem_map]
    constructor
    · rintro ⟨y, hy, rfl⟩
      obtain ⟨a, b⟩ := (rests_down hp h ht ((y + 1) % p)).mpr ⟨y, hy, rfl⟩
      exact ⟨_, rfl, a, b⟩
    · rintro ⟨m, rfl, a, b⟩
      obtain ⟨y, hy, e⟩ := (rests_down hp h ht m).mp ⟨a, b⟩
      exact ⟨y, hy, by rw [e]⟩
/-- the rests by the least period -/
theorem rests_first {b : List Nat} {t p q : Nat} {r : List Nat} (l : Lp p r q) (hr : ∀ x ∈ r, x < p) {ns : List Int} (h : ns.Pairwise (· < ·)) (k : ∀ x : Int, x ∈ ns ↔ ∃ y ∈ r, x = ((y % q : Nat) : Int)) :
    ns = (flt q fun x => seqOf b t p r (t + x)).map (fun x : Nat => (x : Int)) := by
  have hp : 0 < p := Nat.lt_of_lt_of_le l.pos l.le
  have hper := closed_per (b := b) (t := t) l.pos l.dvd hp l.closed
  refine flt_is h fun x => ?_
  rw [k]
  have key : ∀ y, y < p → seqOf b t p r (t + y % q) = r.contains y := fun y hy => by
    have := hper.mul (y / q) (t + y % q) (by omega)
    rw [← this]
    have e3 := Nat.mod_add_div y q
    rw [Nat.mul_comm] at e3
    rw [show t + y % q + y / q * q = t + y by omega, seqOf_at, Nat.mod_eq_of_lt hy]
  constructor
  · rintro ⟨y, hy, rfl⟩
    refine ⟨_, rfl, Nat.mod_lt _ l.pos, ?_⟩
    rw [key y (hr y hy), List.contains_iff_mem]
    exact hy
  · rintro ⟨m, rfl, hm, hs⟩
    rw [seqOf_at, List.contains_iff_mem] at hs
    rw [Nat.mod_eq_of_lt (Nat.lt_of_lt_of_le hm l.le)] at hs
    exact ⟨m, hs, by rw [Nat.mod_eq_of_lt hm]⟩
theorem below_first {b : List Nat} {t p : Nat} {r : List Nat} {ns : List Int} (h : ns.Pairwise (· < ·)) (k : ∀ x : Int, x ∈ ns ↔ ∃ y ∈ b, y < t ∧ x = (y : Int)) :
    ns = (flt t (seqOf b t p r)).map (fun x : Nat => (x : Int)) := by
  refine flt_is h fun x => ?_
  rw [k]
  constructor
  · rintro ⟨y, hy, ht, rfl⟩
    refine ⟨y, rfl, ht, ?_⟩
    unfold seqOf
    rw [if_pos ht, List.contains_iff_mem]
    exact hy
  · rintro ⟨m, rfl, hm, hs⟩
    unfold seqOf at hs
    rw [if_pos hm, List.contains_iff_mem] at hs
    exact ⟨m, hs, hm, rfl⟩
/-! ### the law's own way -/
/-- from a window of a sequence that comes round: who comes round there comes round from the tail on -/
theorem per_window {s : Nat → Bool} {t p q far L : Nat} (h : Per s t p) (hp : 0 < p) (ht : t ≤ far) (hl : far + p + q ≤ L) (k : ∀ n, far ≤ n → n < L - q → s n = s (n + q)) : Per s t q := fun n hn => by
  -- m in the window, of the same rest as n
  have hz : ∃ m a b, far ≤ m ∧ m < far + p ∧ m + a * p = n + b * p := by
    refine ⟨far + (n + far * p - far) % p, (n + far * p - far) / p, far, by omega, ?_, ?_⟩
    · have := Nat.mod_lt (n + far * p - far) hp
      omega
    · have e3 := Nat.mod_add_div (n + far * p - far) p
      rw [Nat.mul_comm p ((n + far * p - far) / p)] at e3
      have : far ≤ far * p := Nat.le_mul_of_pos_right _ hp
      omega
  obtain ⟨m, a, b, h1, h2, e⟩ := hz
  have w := k m h1 (by omega)
  have e1 := h.mul a m (by omega)
  have e2 := h.mul b n hn
  have e3 := h.mul a (m + q) (by omega)
  have e4 := h.mul b (n + q) (by omega)
  rw [← e4, show n + q + b * p = m + q + a * p by omega, e3, ← w, ← e1, e, e2]
/-- and a sequence that comes round from some place on, comes round from the tail on -/
theorem per_any {s : Nat → Bool} {t p q N : Nat} (h : Per s t p) (hp : 0 < p) (k : Per s N q) : Per s t q := fun n hn => by
  have hN : N ≤ N * p := Nat.le_mul_of_pos_right N hp
  have e1 := h.mul N n hn
  have e2 := h.mul N (n + q) (by omega)
  rw [← e1, ← e2, show n + q + N * p = n + N * p + q by omega, k _ (by omega)]
end Nm

set_option linter.all false
namespace Nm
/-- is_safe_round by the program -/
def safeP (b : List Nat) (t p : Nat) (r : List Nat) (q : Nat) : Bool :=
  if b.any (fun n => decide (0 < n) && decide (n % q = 0)) = true then false else !(r.any fun x => decide ((t + x) % Nat.gcd q p = 0))
/-- no multiple is told -/
def Safe (s : Nat → Bool) (q : Nat) : Prop := ∀ k, 0 < k → s (k * q) = false
theorem bez12 : ∀ p, 0 < p → p ≤ 12 → ∀ c, c < p → ∀ y, y < p → y % Nat.gcd c p = 0 → ∃ k, k < p ∧ (k * c) % p = y := by
  have h : ((List.range 13).all fun p => (List.range p).all fun c => (List.range p).all fun y => if y % Nat.gcd c p = 0 then (List.range p).any fun k => (k * c) % p == y else true) = true := by decide +kernel
  intro p hp hp2 c hc y hy hd
  have h1 := List.all_eq_true.mp h p (List.mem_range.mpr (by omega))
  have h2 := List.all_eq_true.mp h1 c (List.mem_range.mpr hc)
  have h3 := List.all_eq_true.mp h2 y (List.mem_range.mpr hy)
  rw [if_pos hd] at h3
  obtain ⟨k, hk, e⟩ := List.any_eq_true.mp h3
  exact ⟨k, List.mem_range.mp hk, beq_iff_eq.mp e⟩
theorem bez {p q z : Nat} (hp : 0 < p) (hp2 : p ≤ 12) (h : z % Nat.gcd q p = 0) : ∃ k, (k * q) % p = z % p := by
  have hc := Nat.mod_lt q hp
  have eg : Nat.gcd (q % p) p = Nat.gcd q p := by
    rw [Nat.gcd_comm q p, Nat.gcd_rec p q]
  have hy : (z % p) % Nat.gcd (q % p) p = 0 := by
    rw [eg]
    exact (Nat.mod_mod_of_dvd z (Nat.gcd_dvd_right q p)).trans h
  obtain ⟨k, _, e⟩ := bez12 p hp hp2 (q % p) hc (z % p) (Nat.mod_lt z hp) hy
  exact ⟨k, by rw [← e, Nat.mul_mod_mod]⟩
section
variable {b : List Nat} {t p : Nat} {r : List Nat} {q : Nat}
theorem safe_iff (hp : 0 < p) (hp2 : p ≤ 12) (hq : 0 < q) (hb : ∀ n ∈ b, n < t) (hr : ∀ x ∈ r, x < p) : safeP b t p r q = true ↔ Safe (seqOf b t p r) q := by
  have hg : 0 < Nat.gcd q p := Nat.gcd_pos_of_pos_right q hp
  unfold safeP
  constructor
  · intro h k hk
    by_cases hA : b.any (fun n => decide (0 < n) && decide (n % q = 0)) = true
    · rw [if_pos hA] at h
      cases h
    rw [if_neg hA] at h
    cases e : seqOf b t p r (k * q) with
    | false => rfl
    | true =>
      exfalso
      by_cases hlt : k * q < t
      · unfold seqOf at e
        rw [if_pos hlt, List.contains_iff_mem] at e
        refine hA (List.any_eq_true.mpr ⟨_, e, ?_⟩)
        rw [Bool.and_eq_true, decide_eq_true_eq, decide_eq_true_eq]
        exact ⟨Nat.mul_pos hk hq, Nat.mul_mod_left k q⟩
      · unfold seqOf at e
        rw [if_neg hlt, List.contains_iff_mem] at e
        have h2 : (r.any fun x => decide ((t + x) % Nat.gcd q p = 0)) = true := by
          refine List.any_eq_true.mpr ⟨_, e, decide_eq_true ?_⟩
          have e3 := Nat.mod_add_div (k * q - t) p
          have d1 : Nat.gcd q p ∣ k * q := Nat.dvd_trans (Nat.gcd_dvd_left q p) (Nat.dvd_mul_left q k)
          have d2 : Nat.gcd q p ∣ p * ((k * q - t) / p) := Nat.dvd_trans (Nat.gcd_dvd_right q p) (Nat.dvd_mul_right p _)
          have e4 : (t + (k * q - t) % p) + p * ((k * q - t) / p) = k * q := by omega
          refine Nat.mod_eq_zero_of_dvd ((Nat.dvd_add_iff_left d2).mpr ?_)
          rw [e4]
          exact d1
        rw [h2] at h
        cases h
  · intro h
    rw [if_neg, Bool.not_eq_true']
    · cases e : (r.any fun x => decide ((t + x) % Nat.gcd q p = 0)) with
      | false => rfl
      | true =>
        exfalso
        obtain ⟨x, hx, hd⟩ := List.any_eq_true.mp e
        obtain ⟨k, hk⟩ := bez (q := q) hp hp2 (of_decide_eq_true hd)
        -- a great multiple
        have ek : ((k + p * (t + 1)) * q) % p = (t + x) % p := by
          rw [Nat.add_mul, Nat.mul_assoc, Nat.add_mul_mod_self_left]
          exact hk
        have big : t ≤ (k + p * (t + 1)) * q := by
          have h1 : t + 1 ≤ p * (t + 1) := Nat.le_mul_of_pos_left _ hp
          have h2 : k + p * (t + 1) ≤ (k + p * (t + 1)) * q := Nat.le_mul_of_pos_right _ hq
          omega
        have z := h (k + p * (t + 1)) (by have : t + 1 ≤ p * (t + 1) := Nat.le_mul_of_pos_left _ hp
                                          omega)
        obtain ⟨m, em⟩ := Nat.exists_eq_add_of_le big
        rw [em, seqOf_at] at z
        rw [em] at ek
        have e5 : m % p = x := by
          have h1 : (t + m) % p = (t + x) % p := ek
          have h2 := hr x hx
          -- cancel t
          have h3 : ∃ c d, t + m + c * p = t + x + d * p := by
            have a1 := Nat.mod_add_div (t + m) p
            have a2 := Nat.mod_add_div (t + x) p
            refine ⟨(t + x) / p, (t + m) / p, ?_⟩
            rw [Nat.mul_comm p] at a1 a2
            omega
          obtain ⟨c, d, h3⟩ := h3
          have h4 : m + c * p = x + d * p := by omega
          have h5 := congrArg (· % p) h4
          simp only [Nat.add_mul_mod_self_right] at h5
          rw [h5, Nat.mod_eq_of_lt h2]
        rw [e5] at z
        have : r.contains x = true := List.contains_iff_mem.mpr hx
        rw [this] at z
        cases z
    · intro hA
      obtain ⟨n, hn, hd⟩ := List.any_eq_true.mp hA
      rw [Bool.and_eq_true, decide_eq_true_eq, decide_eq_true_eq] at hd
      obtain ⟨k, ek⟩ := Nat.dvd_of_mod_eq_zero hd.2
      have hk : 0 < k := by
        cases k with
        | zero => rw [Nat.mul_zero] at ek; omega
        | succ k => omega
      have z := h k hk
      rw [Nat.mul_comm, ← ek] at z
      unfold seqOf at z
      rw [if_pos (hb n hn)] at z
      have : b.contains n = true := List.contains_iff_mem.mpr hn
      rw [this] at z
      cases z
/-- from the tail on safe rounds come round -/
theorem safe_per (hq : 0 < q) (ht : t ≤ q) (hb : ∀ n ∈ b, n < t) : safeP b t p r (q + p) = safeP b t p r q := by
  have no : ∀ q', t ≤ q' → 0 < q' → ¬ b.any (fun n => decide (0 < n) && decide (n % q' = 0)) = true := fun q' h1 h2 hA => by
    obtain ⟨n, hn, hd⟩ := List.any_eq_true.mp hA
    rw [Bool.and_eq_true, decide_eq_true_eq, decide_eq_true_eq] at hd
    rw [Nat.mod_eq_of_lt (by have := hb n hn; omega)] at hd
    omega
  unfold safeP
  rw [if_neg (no _ (by omega) (by omega)), if_neg (no _ ht hq)]
  have : Nat.gcd (q + p) p = Nat.gcd q p := by
    first | exact Nat.gcd_add_self_left .. | simp
  rw [this]
end
/-- enough to look at forty multiples -/
theorem safe_forty {s : Nat → Bool} {t p q : Nat} (h : Per s t p) (hp : 0 < p) (hp2 : p ≤ 12) (ht : t ≤ 6) (hq : 0 < q) : Safe s q ↔ ∀ k, 0 < k → k < 40 → s (q * k) = false := by
  constructor
  · intro z k h1 _
    rw [Nat.mul_comm]
    exact z k h1
  · intro z k h1
    by_cases hk : k < 40
    · rw [Nat.mul_comm]
      exact z k h1 hk
    -- k = k2 + j * p, k2 between 28 and 39
    have e3 := Nat.mod_add_div (k - 28) p
    rw [Nat.mul_comm] at e3
    have hm := Nat.mod_lt (k - 28) hp
    have ek : k = (28 + (k - 28) % p) + (k - 28) / p * p := by omega
    have big : t ≤ (28 + (k - 28) % p) * q := by
      have : 28 + (k - 28) % p ≤ (28 + (k - 28) % p) * q := Nat.le_mul_of_pos_right _ hq
      omega
    have e1 := h.mul ((k - 28) / p * q) _ big
    have e2 : (28 + (k - 28) % p) * q + (k - 28) / p * q * p = k * q := by
      have : k * q = ((28 + (k - 28) % p) + (k - 28) / p * p) * q := by rw [← ek]
      rw [this]
      generalize (28 + (k - 28) % p) = A
      generalize (k - 28) / p = B
      rw [Nat.add_mul A, Nat.mul_right_comm B]
    rw [e2] at e1
    rw [e1, Nat.mul_comm]
    exact z _ (by omega) (by omega)
/-- there is a safe round just if great multiples of the period are not told -/
theorem safe_some {s : Nat → Bool} {t p : Nat} (h : Per s t p) (hp : 0 < p) : (∃ q, 2 ≤ q ∧ Safe s q) ↔ s (p * (t + 1)) = false := by
  have big : t ≤ p * (t + 1) := by
    have : t + 1 ≤ p * (t + 1) := Nat.le_mul_of_pos_left _ hp
    omega
  constructor
  · rintro ⟨q, h2, hs⟩
    have z := hs (p * (t + 1)) (Nat.mul_pos hp (by omega))
    have e := h.mul ((t + 1) * (q - 1)) _ big
    have e2 : p * (t + 1) + (t + 1) * (q - 1) * p = p * (t + 1) * q := by
      obtain ⟨q', rfl⟩ : ∃ q', q = q' + 1 := ⟨q - 1, by omega⟩
      generalize t + 1 = T
      rw [Nat.add_sub_cancel, Nat.mul_succ, Nat.mul_comm (T * q') p, Nat.mul_assoc p T q', Nat.add_comm]
    rw [e2, z] at e
    exact e.symm
  · intro hz
    refine ⟨2 * (p * (t + 1)), ?_, fun k hk => ?_⟩
    · have : 0 < p * (t + 1) := Nat.mul_pos hp (by omega)
      omega
    have e := h.mul ((t + 1) * (2 * k - 1)) _ big
    have e2 : p * (t + 1) + (t + 1) * (2 * k - 1) * p = k * (2 * (p * (t + 1))) := by
      obtain ⟨m, hm⟩ : ∃ m, 2 * k = m + 1 := ⟨2 * k - 1, by omega⟩
      generalize t + 1 = T
      have e3 : T * m * p = m * (p * T) := by rw [Nat.mul_comm T m, Nat.mul_assoc, Nat.mul_comm T p]
      have e4 : k * (2 * (p * T)) = (m + 1) * (p * T) := by rw [← Nat.mul_assoc, Nat.mul_comm k 2, hm]
      rw [hm, Nat.add_sub_cancel, e3, e4, Nat.succ_mul, Nat.add_comm]
    rw [e2, hz] at e
    exact e
end Nm

set_option Elab.async false
set_option linter.all false
set_option maxRecDepth 100000
set_option maxHeartbeats 2000000
/-! Promises of defs that ask for repr of a list or a tuple: these want to know that nothing is being shown around them. -/
namespace My
open PySem PySem.Spec PyProof.Rows L2
/-- nothing is being shown around -/
abbrev NoShow (A : Around) : Prop := A.guards = some []
/-- a def's promise where nothing is being shown around the call -/
structure FnG (P : Program) (w : World) (K : PySem.W.Frag) (mg : Str → Option Value) (base : Heap) (CX : CXT) (k : Nat) (f : Addr) (fd : FuncData) (ps : List Str) (sp : Sp) : Prop where
  len : ∀ vs H Q E, sp vs H Q E → vs.length = ps.length
  go : ∀ {A : Around}, NoShow A → Room k A → ∀ (outer : List Env) (s : Shared) (H : Hp) (args : Args) (us : List Value) (vs : List V) (Q : VK) (E : XK), Env0 P w K mg base A outer s H → BindsTo s fd args (ps.zip us) → Vals vs us → sp vs H Q E →
    codeAny (model P w) A (.call (.ref f) args) (CR CX outer P w H s Q E) s
section
variable {P : Program} {w : World} {K : PySem.W.Frag} {mg : Str → Option Value} {base : Heap} {CX : CXT} {k : Nat} {f : Addr} {fd : FuncData} {ps : List Str} {sp : Sp}
theorem FnG.of (F : FnOk P w K mg base CX k f fd ps sp) : FnG P w K mg base CX k f fd ps sp := ⟨F.len, fun {A} _ hr outer s H args us vs Q E => F.run A outer s H args us vs Q E hr⟩
theorem FnG.mono {j : Nat} (F : FnG P w K mg base CX j f fd ps sp) (h : j ≤ k) : FnG P w K mg base CX k f fd ps sp := ⟨F.len, fun {A} g hr => F.go g (hr.mono h)⟩
end
section
variable {P : Program} {w : World} {K : PySem.W.Frag} {mg : Str → Option Value} {base : Heap}
/-- a def's body keeps its promise, nothing being shown around -/
theorem fng_of {x qual : Str} {st : Stmt} {f : Addr} {fd : FuncData} {N ps : List Str} {k : Nat} {sp : Sp} (F : Fun K x qual st f fd) (S : FnScope N ps (defScope st)) (len : ∀ vs H Q E, sp vs H Q E → vs.length = ps.length)
    (body : ∀ (cdv : Value) (A : Around) (outer : List Env) (s : Shared) (H : Hp) (vs : List V) (Q : VK) (E : XK), NoShow (A.deeper (envOfC qual (defScope st) s.heap.objs.size f cdv)) → Room k (A.deeper (envOfC qual (defScope st) s.heap.objs.size f cdv)) → sp vs H Q E →
      ∃ t, PSs (cxOf CX0 P w K mg base N qual (defScope st) f cdv A outer s H E).nox (defBody st) t ∧ t { nx := fun _ H' => Q .non H', rt := Q } (start N vs) H) : FnG P w K mg base CX0 (k + 1) f fd ps sp := by
  obtain ⟨oc, od, kV, doc, pm, an, cdv, ct, osl, rfl, lk, hcd⟩ := F.ex
  refine ⟨len, fun {A} g hr outer s H args us vs Q E e0 hb r h => ?_⟩
  have inK : K.In s.heap := e0.mod.kin.keeps fun b o e => (e0.bs b o e).1
  have vl := len _ _ _ _ h
  have par : ∀ y ∈ ps.zip us, (defScope st).names.lookup y.1 = some .local ∨ ((defScope st).names.lookup y.1 = some .cell ∧ ((cellsFrom (s.heap.objs.size + 1) (defScope st).names []).lookup y.1).isSome = true) := by
    rintro ⟨n, v⟩ hy
    exact (S.par n (List.of_mem_zip hy).1).imp id fun q => ⟨q, PySem.W.cellsFrom_some _ _ _ (.inl q)⟩
  refine codeAny_call_function hr.depth (inK _ _ lk) rfl S.co S.gen rfl (PySem.W.codeRec_of inK hcd) (hb _ _ _ _ (wpAny_newFunctionEnv_cells S.kind par fun env he s1 x => ?_))
  subst he
  have nl : s.heap.NoLimit := e0.mod.nolimit.keeps fun b o e => (e0.bs b o e).1
  refine ⟨nl.keeps x.toInCall.keep, codeAny_func ?_⟩
  obtain ⟨t, ht, q⟩ := body cdv A outer s H vs Q E g (hr.deeper _) h
  have I := inv_start (CX := CX0) (N := N) (E := E) S hr.hd e0 vl r x
  have ends : ∀ {σ' : L2.St} {H' : Hp} {s' : Shared} {v : V} {u : Value}, Inv (cxOf CX0 P w K mg base N qual (defScope st) f cdv A outer s H E) [] σ' H' s' → RelV v u → Q v H' → CE outer P w H s Q u s' :=
    fun J rv z => ⟨_, _, J.os, J.bare, J.base, J.hok, rv, z⟩
  refine wpAny_mono (ht.nox.run [] s1 (start N vs) H _ I q) (fun fl s' z => ?_) fun _ _ z => z
  rcases fl with _ | _ | _ | u
  · obtain ⟨_, _, J, z⟩ := z
    exact ends (v := V.non) (u := Value.none) J rfl z
  · obtain ⟨_, _, _, z⟩ := z
    exact z.elim
  · obtain ⟨_, _, _, z⟩ := z
    exact z.elim
  · obtain ⟨_, _, _, J, rv, z⟩ := z
    exact ends J rv z
end
section
variable {X : Cx} {CX : CXT} {k : Nat} {f : Addr} {fd : FuncData} {ps : List Str} {sp : Sp} {ds : List Value} {dvs : List V} {E : XK}
theorem run_fng {pins : List (Addr × Obj)} {σ : L2.St} {H : Hp} {s : Shared} {Q : VK} {us : List Value} {vs : List V} (F : FnG X.prog X.w X.K X.mg X.base CX k f fd ps sp) (ns : NoShow X.A) (hr : Room k X.A) (hb : Binds X.K fd ps ds) (hd : Vals dvs ds) (hx : Passes CX X E)
    (I : Inv X pins σ H s) (r : Vals vs us) (h : sp (vs ++ dvs) H Q E) : wpAny (model X.prog X.w) X.A (call (.ref f) us) (EP X pins σ Q) X.xe s := by
  have ra : Vals (vs ++ dvs) (us ++ ds) := r.append hd
  have la : (us ++ ds).length = ps.length := ra.length.symm.trans (F.len _ _ _ _ h)
  refine wpAny_call (codeAny_mono (F.go ns hr X.stack s H ⟨us, []⟩ (us ++ ds) (vs ++ dvs) Q E I.env0 (hb s us I.kIn la) ra h) fun o s' q => ?_)
  match o, q with
  | .error e, q => exact hx pins σ H s e s' I q
  | .ok (.ret u), q => exact I.after q
/-- f(e, ..) of such a def -/
theorem pe_callG {x : Str} {p pos : Pos} {e : Expr} {es : List Expr} {t : TA} (F : FnG X.prog X.w X.K X.mg X.base CX k f fd ps sp) (ns : NoShow X.A) (hr : Room k X.A) (hg : Gl X x) (hm : X.mg x = some (.ref f)) (hk : PySem.W.keepIn X.K (.ref f) = true) (hb : Binds X.K fd ps ds) (hd : Vals dvs ds) (hx : Passes CX X E)
    (ha : PA X (e :: es) t) (nb : (x == ("__debug__" : Str)) = false := by decide) (h1 : starEach (e :: es) X.env = (false, eval e X.env) :: starEach es X.env := by rfl) (h2 : (backTo pos (starEach es X.env)).any (·.1) = false := by rfl) :
    PE X (.Call (.Name x p) (e :: es) [] pos) (tCall sp dvs E t) := by
  constructor
  intro pins s σ H Q I h
  refine wpAny_Call_Name_kw (ld_glob I hg hm (PySem.W.callWith_K (h₀ := X.base) I.ok.mod.kin hk (thn (ha.run pos pins s σ H _ I h) fun us s1 z => ?_) h1 h2) nb)
  obtain ⟨vs, H1, I1, r, q⟩ := z
  exact ⟨I1.kIn, run_fng F ns hr hb hd hx I1 r q⟩
/-- repr of a list or a tuple of data -/
def rReprD (K : PySem.W.Frag) : List V → Hp → VK → Prop := fun xs H Q => ∃ (a : Addr) (d : PyData), xs = [.ref a] ∧ Dp K H (.ref a) d ∧ d.showable = true ∧ d.hasDict = false ∧ d.depth ≤ 60 ∧ d.shown.length ≤ sizeLine ∧ Q (.str d.shown) H
theorem call_reprD (ns : NoShow X.A) (hu : X.A.units + 64 < cLine) : CallR X (.builtin "repr") (rReprD X.K) := by
  intro pins s σ H xs us Q I r h
  obtain ⟨a, d, rfl, hd, h1, h2, h3, h4, q⟩ := h
  obtain ⟨as, rd⟩ := Dp.reads I d (.ref a) (.ref a) hd rfl
  rw [Vals.ref1 r]
  refine repr_of_reads' rd h1 (PyData.noDict_hsm h2) ns (by omega) (fun _ _ e => e) (fun h' u tk hk => ?_) h4
  exact ⟨.str _, H, I.kept (t' := tk) hk, ⟨u, rfl⟩, q⟩
end
end My

set_option Elab.async false
set_option linter.all false
set_option maxRecDepth 100000
set_option maxHeartbeats 2000000
/-! The end of a law whose promise wants that nothing is being shown around. -/
namespace My
open PySem PySem.Spec PyProof.Rows L2
theorem lawG {P : Program} {w : World} {K : PySem.W.Frag} {mg mb : Str → Option Value} {k : Nat} {fa a : Addr} {fd : FuncData} {x : Str} {sp : Sp} {s₁ : Shared} {vs : List Value} {ns : List Int}
    (inK : K.In s₁.heap) (gl : s₁.heap.Ns mainGlobals mg) (bl : s₁.heap.Ns builtinsNs mb) (bb : ∀ x : Str, x ≠ "__name__" → mb x = bootBuiltins x) (lim : s₁.heap.NoLimit) (gn : s₁.gens = #[])
    (ha : s₁.heap.get? a = some { cls := .type "list", data := .seq vs.toArray }) (hi : IntsAre vs ns) (hl : ns.length ≤ sizeLine) (hr : Room k callerA)
    (F : ∀ base : Heap, K.In base → base.Ns mainGlobals mg → FnG P w K mg base CX0 k fa fd [x] sp) (hb : ∀ (s : Shared) (u : Value), BindsTo s fd ⟨[u], []⟩ [(x, u)])
    (hsp : ∀ H : Hp, SqL K H a (ns.map V.int) → sp [.ref a] H (fun v _ => v = .bl true) fun _ _ _ => False) :
    codeAny (model P w) callerA (.call (.ref fa) ⟨[.ref a], []⟩) (fun r s' => r = .ok (.ret (.bool true)) ∧ OldK s₁.heap s'.heap ∧ s'.os = s₁.os ∧ AllBare s'.gens) s₁ := by
  have main : ∀ H : Hp, (∀ b, H b = none ∨ ∃ o zs, H b = some (.frz o (.lst zs))) → SqL K H a (ns.map V.int) → HOk P w H s₁.heap → (∀ b, H b ≠ none → b = a) → (H a ≠ none → K.lookup a = none) →
      codeAny (model P w) callerA (.call (.ref fa) ⟨[.ref a], []⟩) (fun r s' => r = .ok (.ret (.bool true)) ∧ OldK s₁.heap s'.heap ∧ s'.os = s₁.os ∧ AllBare s'.gens) s₁ := by
    intro H only hS ok at_a not_K
    -- what is not tracked
    have old : ∀ {b : Addr} {o : Obj}, s₁.heap.get? b = some o → b ≠ a → H b = none := fun {b o} _ n => Classical.byContradiction fun z => n (at_a b z)
    have isD : ∀ {b : Addr} {o : Obj} {es : Array DictEntry} {ep : Nat}, s₁.heap.get? b = some o → o.data = .dict es ep → H b = none := fun {b o es ep} e d => old e fun z => by
      rw [z, ha] at e
      cases e
      cases d
    have names : ∀ {b : Addr} {m : Str → Option Value}, s₁.heap.Ns b m → (hidT s₁.heap H).Ns b m := fun {b m} z => by
      obtain ⟨o, es, ep, e, d, r⟩ := z
      exact ⟨o, es, ep, hidT_get e (isD e d), d, r⟩
    have frag : K.In (hidT s₁.heap H) := fun b o e => hidT_get (inK b o e) (by
      by_cases z : b = a
      · subst z
        refine Classical.byContradiction fun q => ?_
        rw [not_K q] at e
        cases e
      · exact old (inK b o e) z)
    have mod : L2.Mod K mg (hidT s₁.heap H) := by
      obtain ⟨mc, l1, l2⟩ := lim
      exact ⟨frag, names gl, ⟨mb, names bl, bb⟩, ⟨mc, names l1, l2⟩⟩
    have e0 : Env0 P w K mg (hidT s₁.heap H) callerA [] s₁ H :=
      ⟨rfl, mod, fun b o e => of_hidT e, Nat.le_of_eq (hidT_size _ _), trivial, fun b z => (nomatch (show b ∈ ([] : List Addr) from z)), ok, .of_eq gn⟩
    have run := (F _ frag (names gl)).go (A := callerA) rfl hr [] s₁ H ⟨[.ref a], []⟩ [.ref a] [.ref a] (fun v _ => v = .bl true) (fun _ _ _ => False) e0 (hb s₁ (.ref a)) (.cons rfl .nil) (hsp H hS)
    refine codeAny_mono run fun r s' z => ?_
    match r, z with
    | .ok (.ret u), z =>
      obtain ⟨v, H', os, bare, un, ok', rv, q⟩ := z
      have q : v = .bl true := q
      subst q
      cases (rv : u = Value.bool true)
      refine ⟨rfl, OldK.of_keep fun b o e => ?_, os, bare⟩
      rcases only b with n | ⟨ob, zs, n⟩
      · exact un.keep b o e n (fun z => (nomatch (show b ∈ ([] : List Addr) from z))) (fun z => (nomatch z))
      · have n' := un.frzs b ob _ n
        have p1 := (ok b _ n).1
        have p2 := (ok' b _ n').1
        rw [e] at p1
        cases p1
        exact p2
  have rv := vals_ints hi
  by_cases hk : ∃ o, K.lookup a = some o
  · obtain ⟨o, hk⟩ := hk
    have e := inK a o hk
    rw [ha] at e
    cases e
    have sz : vs.toArray.size ≤ sizeLine := by rw [List.size_toArray, hi.length]; exact hl
    exact main (fun _ => none) (fun _ => .inl rfl) (.inr ⟨_, vs.toArray, _, hk, rfl, rfl, rfl, sz, by simpa using rv⟩) (fun b u z => (nomatch (show (none : Option HO) = some u from z))) (fun b z => (z rfl).elim) fun z => (z rfl).elim
  · have nk : K.lookup a = none := by
      cases z : K.lookup a with
      | none => rfl
      | some o => exact (hk ⟨o, z⟩).elim
    generalize hU : (HO.frz { cls := .type "list", data := .seq vs.toArray } (.lst (ns.map V.int))) = U
    have off : ∀ {b}, b ≠ a → (fun b => if b = a then some U else none : Hp) b = none := fun z => if_neg z
    refine main (fun b => if b = a then some U else none) (fun b => ?_) (.inl (.inr ⟨{ cls := .type "list", data := .seq vs.toArray }, by rw [hU]; exact if_pos rfl⟩)) (fun b u z => ?_) (fun b z => Classical.byContradiction fun q => z (off q)) fun _ => nk
    · by_cases q : b = a
      · exact .inr ⟨_, _, by rw [hU]; exact if_pos q⟩
      · exact .inl (off q)
    · by_cases q : b = a
      · subst q
        have z := (if_pos rfl).symm.trans z
        cases z
        subst hU
        exact ⟨ha, by rw [List.length_map]; exact hl, vs, _, rv, ha⟩
      · exact (nomatch (off q).symm.trans z)
theorem walk_ofG {l : PySem.W.OpenLaw} {n k : Nat} {q : Program} {loose : List Str} {XP : (Str → Option Value) → Heap → Prop} {YP : World → Heap → Prop} {d : DefRec} {K : Params → PySem.W.Frag} {sp : World → Sp} {x : Str}
    (hn : l.most = some n) (hz : n ≤ sizeLine) (hdf : d.params.defaults = []) (hr : Room k callerA) (hY : ∀ (w : World) (h : Heap), YP w h → (K w.params).In h)
    (F : ∀ (w : World) (mg : Str → Option Value) (fa : Addr) (h : Heap), (K w.params).In h → h.Ns mainGlobals mg → mg d.name = some (.ref fa) →
      ∃ fd : FuncData, (∀ (s : Shared) (u : Value), BindsTo s fd ⟨[u], []⟩ [(x, u)]) ∧ ∀ base : Heap, (K w.params).In base → base.Ns mainGlobals mg → FnG l.prog w (K w.params) mg base CX0 k fa fd [x] (sp w))
    (hsp : ∀ (w : World) (H : Hp) (a : Addr) (ns : List Int), ns.length ≤ n → SqL (K w.params) H a (ns.map V.int) → sp w [.ref a] H (fun v _ => v = .bl true) fun _ _ _ => False) :
    PySem.W.WalkO q loose XP YP l.row.toRowW d [] (fun f vs => PySem.call f vs) := by
  refine Att.attach_call hn hdf fun w s₀ s₁ mg mb fa o pm cd doc a vs ns G Y ho hd hcd hmg hobj hints hlen hg => ?_
  have inK := hY w _ Y
  obtain ⟨fd, hb, hF⟩ := F w mg fa _ inK G.T.g hmg
  exact lawG inK G.T.g G.T.b G.T.builtins G.T.nolimit hg hobj hints (Nat.le_trans hlen hz) hr hF hb fun H hS => hsp w H a ns hlen hS
end My

set_option Elab.async false
set_option linter.all false
set_option maxRecDepth 100000
set_option maxHeartbeats 2000000
/-! Comprehensions whose turns leave all that stands as it was. -/
namespace My
open PySem L2
theorem Same.new {p : Addr} {o : HO} {H : Hp} (h : H p = none) : Same H (upd H p o) := fun c u e => by rw [upd_ne (ne_of_none e h)]; exact e
theorem Same.sqL {K : PySem.W.Frag} {H H' : Hp} {a : Addr} {xs : List V} (s : Same H H') (h : SqL K H a xs) : SqL K H' a xs := by
  rcases h with (h | ⟨o, h⟩) | h
  · exact .inl (.inl (s _ _ h))
  · exact .inl (.inr ⟨o, s _ _ h⟩)
  · exact .inr h
theorem Same.sqT {K : PySem.W.Frag} {H H' : Hp} {a : Addr} {xs : List V} (s : Same H H') (h : SqT K H a xs) : SqT K H' a xs := by
  rcases h with (h | ⟨o, h⟩) | h
  · exact .inl (.inl (s _ _ h))
  · exact .inl (.inr ⟨o, s _ _ h⟩)
  · exact .inr h
/-- a list or a tuple -/
def SqA (K : PySem.W.Frag) (H : Hp) (a : Addr) (xs : List V) : Prop := SqL K H a xs ∨ SqT K H a xs
theorem SqA.keep {K : PySem.W.Frag} {H H' : Hp} {a : Addr} {xs : List V} (h : SqA K H a xs) (s : Same H H') : SqA K H' a xs := h.elim (fun q => .inl (Same.sqL s q)) (fun q => .inr (Same.sqT s q))
theorem pi_or {X : Cx} {tg e : Expr} {wi wi' : TI} (h : PI X tg e wi) (h' : PI X tg e wi') : PI X tg e (fun σ H R => wi σ H R ∨ wi' σ H R) :=
  ⟨fun pins s σ H R I q => q.elim (h.run pins s σ H R I) (h'.run pins s σ H R I)⟩
def iLT (K : PySem.W.Frag) (t : TE) : TI := fun σ H R => iList K t σ H R ∨ iTup K t σ H R
theorem pi_lt {X : Cx} {tg e : Expr} {t : TE} (h : PE X e t) : PI X tg e (iLT X.K t) := pi_or (pi_list h) (pi_tup h)
theorem ilt_of {K : PySem.W.Frag} {i : Nat} {σ : St} {H : Hp} {R : It → Hp → Prop} {a : Addr} {xs : List V} (hv : σ[i]? = some (some (.ref a))) (h : SqA K H a xs)
    (k : ∀ (J : It) (G : Hp → Prop), Walk J xs.length G (YAt xs) → (∀ H', Same H H' → G H') → R J H) : iLT K (tVar i) σ H R := by
  rcases h with h | h
  · exact .inl ⟨_, hv, a, rfl, ⟨xs, h⟩, k _ _ walk_list fun H' s => Same.sqL s h⟩
  · exact .inr ⟨_, hv, a, rfl, ⟨xs, h⟩, k _ _ walk_tup fun H' s => Same.sqT s h⟩
theorem range_snoc {f : Nat → Option V} (i : Nat) : (List.range (i + 1)).filterMap f = (List.range i).filterMap f ++ (f i).toList := by
  rw [List.range_succ, List.filterMap_append]
  cases h : f i <;> simp [h]
theorem filter_len {f : Nat → Option V} (i : Nat) : ((List.range i).filterMap f).length ≤ i := by
  have := List.length_filterMap_le f (List.range i)
  rwa [List.length_range] at this
section
variable {J : It} {n : Nat} {G : Hp → Prop} {Y : Nat → Hp → V → Hp → Prop}
theorem lc_f (wk : Walk J n G Y) (f : Nat → Option V) {g : TG} {tt : TT} {te : TE} {vs : List Nat} {σ : St} {H1 : Hp} {D : Addr} {Qd : Hp → Prop} (hD : H1 D = none) (hn : n < sizeLine) (hG : ∀ H, Same H1 H → G H)
    (hs : ∀ i x H H', i < n → Same H1 H → Y i H x H' → ∀ (OK : V → Hp → Prop) (NO : Hp → Prop), (∀ y H4, Same H H4 → f i = some y → OK y H4) → (∀ H4, Same H H4 → f i = none → NO H4) →
      g x (wipe σ vs) H' fun σ2 H2 => wipe σ2 vs = wipe σ vs ∧ tt σ2 H2 fun b H3 => if b = true then te σ2 H3 OK else NO H3)
    (hd : ∀ H, Same H1 H → H D = some (.lst ((List.range n).filterMap f)) → Qd H) :
    ∃ W : Nat → Nat → Hp → Prop, (∃ m, W 0 m (upd H1 D (.lst []))) ∧ ∀ i m H, W i m H →
      (J.stop i H ∧ Qd H) ∨ (J.go i H ∧ ∃ Nx : Hp → Prop, (∀ H', Nx H' → ∃ m', m' < m ∧ W (i + 1) m' H') ∧ ∀ x H', J.yld i H x H' → g x (wipe σ vs) H' fun σ2 H2 => wipe σ2 vs = wipe σ vs ∧ tt σ2 H2 fun b H3 =>
        if b = true then te σ2 H3 fun y H4 => ∃ acc, H4 D = some (.lst acc) ∧ acc.length < sizeLine ∧ Nx (upd H4 D (.lst (acc ++ [y]))) else Nx H3) := by
  refine lc_it wk (fun i H => Same H1 H ∧ H D = some (.lst ((List.range i).filterMap f))) ⟨Same.new hD, upd_same⟩ (fun i H _ p => hG H p.1) ?_ (fun H p => hd H p.1 p.2)
  rintro i x H H' hi ⟨s, e⟩ y
  refine hs i x H H' hi s y _ _ (fun v H4 s4 hf => ?_) (fun H4 s4 hf => ?_)
  · refine ⟨_, s4 _ _ e, Nat.lt_of_le_of_lt (filter_len i) (by omega), fun b o h => ?_, ?_⟩
    · rw [upd_ne (ne_of_none h hD)]
      exact s4 _ _ (s _ _ h)
    · rw [range_snoc, hf]
      exact upd_same
  · refine ⟨fun b o h => s4 _ _ (s _ _ h), ?_⟩
    rw [range_snoc, hf, s4 _ _ e]
    simp
/-- over a row of things -/
theorem range_seq {xs : List V} (h : V → Option V) : (List.range xs.length).filterMap (fun i => (xs[i]?).bind h) = xs.filterMap h := by
  have key : ∀ (ys zs : List V), (List.range' zs.length ys.length).filterMap (fun i => ((zs ++ ys)[i]?).bind h) = ys.filterMap h := by
    intro ys
    induction ys with
    | nil => intro zs; rfl
    | cons y ys ih =>
      intro zs
      have e := ih (zs ++ [y])
      rw [List.length_append, List.length_singleton, List.append_assoc] at e
      rw [List.length_cons, List.range'_succ, List.filterMap_cons, List.filterMap_cons]
      have q : (zs ++ y :: ys)[zs.length]? = some y := by simp
      rw [q]
      have e' : (List.range' (zs.length + 1) ys.length).filterMap (fun i => ((zs ++ y :: ys)[i]?).bind h) = ys.filterMap h := e
      rw [Option.bind_some, e']
  have := key xs []
  rw [List.range_eq_range']
  exact this
theorem lc_s {xs : List V} (wk : Walk J xs.length G (YAt xs)) (f : V → Option V) {g : TG} {tt : TT} {te : TE} {vs : List Nat} {σ : St} {H1 : Hp} {D : Addr} {Qd : Hp → Prop} (hD : H1 D = none) (hn : xs.length < sizeLine) (hG : ∀ H, Same H1 H → G H)
    (hs : ∀ x H, x ∈ xs → Same H1 H → ∀ (OK : V → Hp → Prop) (NO : Hp → Prop), (∀ y H4, Same H H4 → f x = some y → OK y H4) → (∀ H4, Same H H4 → f x = none → NO H4) →
      g x (wipe σ vs) H fun σ2 H2 => wipe σ2 vs = wipe σ vs ∧ tt σ2 H2 fun b H3 => if b = true then te σ2 H3 OK else NO H3)
    (hd : ∀ H, Same H1 H → H D = some (.lst (xs.filterMap f)) → Qd H) :
    ∃ W : Nat → Nat → Hp → Prop, (∃ m, W 0 m (upd H1 D (.lst []))) ∧ ∀ i m H, W i m H →
      (J.stop i H ∧ Qd H) ∨ (J.go i H ∧ ∃ Nx : Hp → Prop, (∀ H', Nx H' → ∃ m', m' < m ∧ W (i + 1) m' H') ∧ ∀ x H', J.yld i H x H' → g x (wipe σ vs) H' fun σ2 H2 => wipe σ2 vs = wipe σ vs ∧ tt σ2 H2 fun b H3 =>
        if b = true then te σ2 H3 fun y H4 => ∃ acc, H4 D = some (.lst acc) ∧ acc.length < sizeLine ∧ Nx (upd H4 D (.lst (acc ++ [y]))) else Nx H3) := by
  refine lc_f wk (fun i => (xs[i]?).bind f) hD hn hG (fun i x H H' hi s y OK NO ok no => ?_) fun H s e => hd H s (by rw [e, range_seq])
  obtain ⟨rfl, hx⟩ := y
  refine hs x H' (List.mem_of_getElem? hx) s OK NO (fun v H4 s4 e => ok v H4 s4 ?_) fun H4 s4 e => no H4 s4 ?_
  · rw [hx]
    exact e
  · rw [hx]
    exact e
end
/-- what tuple(xs) asks -/
def rTup (K : PySem.W.Frag) : List V → Hp → VK → Prop := fun xs H Q => ∃ p ys, xs = [V.ref p] ∧ ((SqL K H p ys ∧ ∀ l, H l = none → Q (.ref l) (upd H l (.tup ys))) ∨ (SqT K H p ys ∧ Q (.ref p) H))
theorem call_tupleD {X : Cx} : CallR X (.type "tuple") (rTup X.K) := call_tuple_of
/-! ### rows of numbers -/
/-- numbers as values -/
abbrev nv (ns : List Nat) : List V := ns.map fun n : Nat => V.int (n : Int)
theorem nv_mem {ns : List Nat} {x : V} (h : x ∈ nv ns) : ∃ n ∈ ns, x = V.int (n : Int) := by
  obtain ⟨n, hn, e⟩ := List.mem_map.mp h
  exact ⟨n, hn, e.symm⟩
theorem nv_ints (ns : List Nat) : nv ns = (ns.map fun n : Nat => (n : Int)).map V.int := by rw [List.map_map]; rfl
theorem nv_flat (ns : List Nat) : (nv ns).all flatV = true := by
  rw [List.all_eq_true]
  intro x hx
  obtain ⟨n, _, rfl⟩ := nv_mem hx
  rfl
theorem eqV_int (i j : Int) : eqV (.int i) (.int j) = decide (i = j) := by
  first | rfl | simp [eqV]
theorem inV_nv (n : Nat) : ∀ ns : List Nat, inV (.int (n : Int)) (nv ns) = ns.contains n
  | [] => rfl
  | m :: r => by
    show (eqV (.int (m : Int)) (.int (n : Int)) || inV (.int (n : Int)) (nv r)) = _
    rw [inV_nv n r, eqV_int, List.contains_cons]
    congr 1
    rw [Bool.eq_iff_iff, decide_eq_true_eq, beq_iff_eq]
    omega
end My

set_option Elab.async false
set_option linter.all false
set_option maxRecDepth 100000
/-! set(xs) of a list of ints, as a set whose order can be asked; xs[::0 - 1]; f(k = v, ..). -/
namespace My
open PySem PySem.Spec PyProof.Rows L2
/-- a new set -/
abbrev noneYet (w : World) : Obj := { cls := .type "set", dict := none, data := .set #[] 0 (.fresh 0 0 (!w.params.followText "set-order")) }
section
variable {P : Program} {w : World} {A : Around} {E : Value → Shared → Prop} {s : Shared}
set_option maxHeartbeats 3200000 in
theorem set_ints {l : Addr} {items : Array Value} (ns : List Int) {Q : Value → Shared → Prop} (nh : A.handled = none) (li : s.heap.IsList l items) (ii : IntsAre items.toList ns) (few : ns.length + 1 < scanBound)
    (k : ∀ (h' : Heap) (tk c : Nat), SetR w h' s.heap.objs.size (fun j => decide (j ∈ ns)) c → c ≤ ns.length → (∀ b o, s.heap.get? b = some o → h'.get? b = some o) → Q (.ref s.heap.objs.size) { s with heap := h', toks := tk }) :
    wpAny (model P w) A (call (.type "set") [.ref l]) Q E s := by
  have size : items.size = ns.length := (Array.length_toList (xs := items)).symm.trans (IntsAre.length ii)
  obtain ⟨c0, tl0, hmro⟩ := F.called_set.mro; have hmade := F.called_set.made; have hsub := F.called_set.sub
  refine wpAny_call (codeAny_of_tree ?_); show wpAny _ _ (callAny (.type "set") _) _ _ _
  refine wpAny_pure ⟨Code.quiet_builtin _ (by decide +kernel), codeAny_builtin F.entry_type_call ?_⟩; rw [Around.under_plain (weight_type_call_type "set" [.ref l] []) rfl]
  have h1 := F.called_set.notType; have h2 := F.called_set.canCreate; have hct := F.typeCall_set_1 (.ref l)
  repeat (any_goals (first | assumption | wp_step))
  refine codeAny_mono (code_set_led1 (.ref l) (E := E) (Q₁ := fun obj s₁ => obj = .ref s.heap.objs.size ∧ s₁ = { s with heap := s.heap.push (noneYet w) }) ⟨rfl, rfl⟩) fun r s₁ hr => ?_
  rcases r with e | fl
  · exact hr
  rcases fl with _ | _ | _ | obj
  · exact hr.elim
  · exact hr.elim
  · exact hr.elim
  obtain ⟨rfl, rfl⟩ := hr
  have atS : (s.heap.push (noneYet w)).get? s.heap.objs.size = some (noneYet w) := Heap.get?_push_size _ rfl
  have hT : Shared.TypeIs { s with heap := s.heap.push (noneYet w) } (.ref s.heap.objs.size) "set" := ⟨_, atS, rfl⟩
  have hli := F.called_set.init.lookup; have hbi := F.called_set.init.bind (.ref s.heap.objs.size)
  repeat (any_goals (first | assumption | wp_step))
  refine codeAny_mono (codeAny_call_builtin (R := wants (fun r s₂ => r = .none ∧ ∃ h' tk c, s₂ = { s with heap := h', toks := tk } ∧ SetR w h' s.heap.objs.size (fun j => decide (j ∈ ns)) c ∧ c ≤ ns.length ∧
      (∀ b o, s.heap.get? b = some o → h'.get? b = some o)) E) F.called_set.init.plain F.entry_set_init (check_set_init_1 hT ?_)) fun r₂ s₂ hr₂ => ?_
  · obtain ⟨ol, hol, hcl, nl, hdl⟩ := li
    obtain ⟨ocls, odict, odata, oslots⟩ := ol
    simp only at hcl hdl; subst hcl; subst hdl
    have hol' : (s.heap.push (noneYet w)).get? l = some { cls := .type "list", dict := odict, data := .seq items nl, slots := oslots } := Heap.get?_push_of_some _ hol
    have hsls := F.sub_list_set; have hslf := F.sub_list_frozenset
    have hne : (Value.type "list" == Value.type "dict") = false := by decide
    have lst : (s.heap.push (noneYet w)).IsList l items := ⟨_, hol', rfl, nl, rfl⟩
    unfold Builtin.«set.__init__» noKeywords Builtin.Frozenset.updateFrom
    generalize hPI : pyIter = PI
    wp_walk
    subst hPI
    refine wpAny_pyIter_list lst (wpAny_bind (wpAny_runValue ?_))
    have below : l < s.heap.objs.size := Heap.lt_size hol
    have nh3 : A.in1.in1.in1.handled = none := by simp [nh]
    have top : (s.heap.push (noneYet w)).objs.size = s.heap.objs.size + 1 := Heap.size_push ..
    have nI : l ≠ (s.heap.push (noneYet w)).objs.size := by rw [top]; exact Nat.ne_of_lt (Nat.lt_succ_of_lt below)
    have nS : s.heap.objs.size ∉ [(s.heap.push (noneYet w)).objs.size, l] := fun z => by
      rw [top] at z
      rcases List.mem_cons.mp z with z | z
      · exact Nat.ne_of_lt (Nat.lt_succ_self _) z
      · exact Nat.ne_of_gt below (List.mem_singleton.mp z)
    have val : ∀ (i : Nat) (v : Value), items[i]? = some v → ∃ k t, ns[i]? = some k ∧ v = .int k t := fun i v hv => by
      have hi : i < ns.length := by rw [← size]; exact (Array.getElem?_eq_some_iff.mp hv).1
      obtain ⟨t, e⟩ := IntsAre.int_at ii i v (by rw [Array.getElem?_toList]; exact hv)
      exact ⟨ns[i], t, List.getElem?_eq_getElem hi, by rw [e, List.getD_eq_getElem?_getD, List.getElem?_eq_getElem hi] <;> rfl⟩
    refine set_update_ints ((Walks.list nh3 _ l nI items).toS) s.heap.objs.size nS ns size few val (items.size - 0) 0 _ (by omega) (Nat.zero_le _) ⟨⟨_, Heap.get?_push_size _ rfl, rfl, rfl⟩, (lst.push _)⟩ ?first ?last
    case first => exact ⟨0, Nat.le_refl 0, setR_new_at (Heap.get?_push_of_some _ atS)⟩
    case last =>
      intro s' c' hm hc' hS'
      obtain ⟨h', g2, d', tk', os'⟩ := s'
      cases (hm.gens : g2 = s.gens)
      cases (hm.drawn : d' = s.drawn)
      cases (hm.os : os' = s.os)
      show wpAny _ _ _ _ _ _
      refine wpAny_pure ?_
      show wpAny _ _ (ret Value.none) _ _ _
      refine wpAny_pure ⟨rfl, h', tk', c', rfl, hS', (by rw [← size]; exact hc'), fun b o e => ?_⟩
      have lt := Heap.lt_size e
      refine hm.heap b o (fun z => ?_) (Heap.get?_push_of_some _ (Heap.get?_push_of_some _ e))
      rcases List.mem_cons.mp z with z | z
      · exact Nat.ne_of_lt lt z
      · have := List.mem_singleton.mp z
        rw [top] at this
        exact Nat.ne_of_lt (Nat.lt_succ_of_lt lt) this
  · rcases r₂ with e | fl₂
    · exact hr₂
    rcases fl₂ with _ | _ | _ | r
    · exact hr₂.elim
    · exact hr₂.elim
    · exact hr₂.elim
    obtain ⟨rfl, h', tk, c', rfl, hS', hc', hk'⟩ := hr₂
    repeat (any_goals (first | assumption | wp_step))
    exact k _ _ _ hS' hc' hk'
end
section
variable {X : Cx}
/-- set(xs), xs a list of ints -/
def rSetOfI (K : PySem.W.Frag) (w : World) : List V → Hp → VK → Prop := fun xs H Q => ∃ (l : Addr) (ns : List Int), xs = [V.ref l] ∧ SqL K H l (ns.map V.int) ∧ ns.length < 64 ∧
  ∀ a c, H a = none → c ≤ ns.length → Q (.ref a) (upd H a (SetO w a (fun j => decide (j ∈ ns)) c))
theorem cr_setOfI (hc : X.calm = true) : CallR X (.type "set") (rSetOfI X.K X.w) := by
  intro pins s σ H xs us Q I r h
  obtain ⟨l, ns, rfl, hl, few, q⟩ := h
  rw [Vals.ref1 r]
  obtain ⟨its, rv, pl, hz⟩ := I.list hl
  refine set_ints (P := X.prog) (w := X.w) ns (I.ok.hd hc) pl.isList (by simpa using rv.ints) (by unfold scanBound; omega) fun h' tk c R hcn k => ?_
  exact ⟨.ref s.heap.objs.size, upd H s.heap.objs.size (SetO X.w s.heap.objs.size (fun j => decide (j ∈ ns)) c), I.laid (t' := tk) k (Nat.le_refl _) (setO_new R), rfl, q _ c (I.hok.fresh (Nat.le_refl _)) hcn⟩
/-- xs[::0 - 1] -/
theorem pe_revL2 {e : Expr} {te : TE} {k1 k2 : Nat} {p1 p2 p3 p4 pos : Pos} (he : PE X e te) : PE X (.Subscript e (.Slice none none (some (.BinOp (.Constant (.int 0) k1 p1) .Sub (.Constant (.int 1) k2 p2) p3)) p4) pos) (tRevL X.K te) := by
  constructor
  intro pins s σ H Q I h
  refine Subscript_ (thn (he.run pins s σ H _ I h) fun v s1 z => ?_)
  obtain ⟨x, H1, I1, r1, a, xs, ex, hx, q⟩ := z
  subst ex
  cases r1
  have st : PO X (some (.BinOp (.Constant (.int 0) k1 p1) .Sub (.Constant (.int 1) k2 p2) p3)) _ := po_some (pe_op op_sub pe_int pe_int)
  refine wpAny_Slice (thn (po_none.run pins s1 σ H1 (fun o H2 => o = none ∧ H2 = H1) I1 ⟨rfl, rfl⟩) fun vl s2 z2 => ?_)
  obtain ⟨_, _, I2, pl, rfl, rfl⟩ := z2
  refine thn (po_none.run pins s2 σ _ (fun o H3 => o = none ∧ H3 = _) I2 ⟨rfl, rfl⟩) fun vu s3 z3 => ?_
  obtain ⟨_, _, I3, pu, rfl, rfl⟩ := z3
  refine thn (st.run pins s3 σ _ (fun o H4 => o = some (-1) ∧ H4 = _) I3 ⟨0, 1, rfl, rfl, -1, rfl, rfl, rfl⟩) fun vs s4 z4 => ?_
  obtain ⟨_, _, I4, ps, rfl, rfl⟩ := z4
  have I5 := I4.kept (t' := s4.toks) (h' := s4.heap.push { cls := .type "slice", data := .fields #[vl, vu, vs] }) fun b ob q => Heap.get?_push_of_some _ q
  obtain ⟨its, r, ht, hz⟩ := I5.list hx
  have len := r.length
  show wpAny (model X.prog X.w) X.A (subscriptTail e (.Slice none none (some (.BinOp (.Constant (.int 0) k1 p1) .Sub (.Constant (.int 1) k2 p2) p3)) p4) (.ref a) (.ref s4.heap.objs.size)) (EP X pins σ Q) X.xe { s4 with heap := s4.heap.push { cls := .type "slice", data := .fields #[vl, vu, vs] } }
  refine tail_any (ops := [.ref a, .ref s4.heap.objs.size]) ht.isList.typeIs (PySem.slot_list_getitem.lookup) (wpAny_getItem_list_slice ht.isList (Heap.IsSliceOf.new _ vl vu vs) pl pu ps (by decide) ?_ (by rw [List.size_toArray]; omega)) (by with_unfolding_all rfl)
  rw [PySem.W.krv_pick]
  exact ⟨.ref _, _, I5.laid (t' := s4.toks) (o := .lst xs.reverse) (fun b ob q => Heap.get?_push_of_some _ q) (Nat.le_refl _) ⟨by rw [List.length_reverse]; exact hz, _, 0, r.reverse, Heap.get?_push_size _ rfl⟩, rfl, q _ (I5.hok.fresh (Nat.le_refl _))⟩
end
section
variable {X : Cx} {CX : CXT} {k : Nat} {f : Addr} {fd : FuncData} {ps ks : List Str} {sp : Sp} {E : XK} {g : List Value → List Value → List Value} {gV : List V → List V → List V}
def tCallW (sp : Sp) (gV : List V → List V → List V) (E : XK) (tk : TA) : TE := fun σ H Q => tk σ H fun zs H2 => sp (gV [] zs) H2 Q E
/-- f(k = v, ..) -/
theorem pe_callW {x : Str} {p pos : Pos} {kws : List Keyword} {tk : TA} (F : FnOk X.prog X.w X.K X.mg X.base CX k f fd ps sp) (hr : Room k X.A) (hg : Gl X x) (hm : X.mg x = some (.ref f)) (hk : PySem.W.keepIn X.K (.ref f) = true) (hb : KBinds X.K fd ps ks g gV) (hx : Passes CX X E)
    (hkw : PK X kws tk) (h1 : (backToKw pos (keywordEach kws X.env)).all (·.1.isSome) = true := by rfl) (h2 : (backToKw pos (keywordEach kws X.env)).filterMap (·.1) = ks := by rfl)
    (nb : (x == ("__debug__" : Str)) = false := by decide) (h3 : ((backTo pos (starEach [] X.env)).any (·.1) || (backToKw pos (keywordEach kws X.env)).any (·.1.isNone)) = false := by rfl) :
    PE X (.Call (.Name x p) [] kws pos) (tCallW sp gV E tk) := by
  constructor
  intro pins s σ H Q I h
  refine wpAny_Call_Name_kw (ld_glob I hg hm (PySem.W.callWith_KW0 (h₀ := X.base) I.ok.mod.kin hk h1 (thn (hkw.run pos pins s σ H _ I h) fun ws s2 z => ?_) h3) nb)
  obtain ⟨zs, H2, I2, rz, q2⟩ := z
  refine ⟨I2.kIn, ?_⟩
  rw [h2]
  exact run_fnk (us := []) F hr hb hx I2 .nil rz q2
end
end My

set_option Elab.async false
set_option linter.all false
set_option maxRecDepth 100000
set_option maxHeartbeats 2000000
namespace My
open PySem L2

def top (i : Nat) : Stmt := PySem.Challenge.pw_unfooled_k48_safe_rounds_by_trying.main.body.getD i (.Pass ⟨0, 0, 0, 0⟩)
open Nm
/-- a quadruple as the program tells it -/
def Told (K : PySem.W.Frag) (H : Hp) (a : Addr) (b : List Nat) (t p : Nat) (r : List Nat) : Prop := ∃ bl rl, SqT K H a [.ref bl, .int (t : Int), .int (p : Int), .ref rl] ∧ SqT K H bl (nv b) ∧ SqT K H rl (nv r)
theorem Told.keep {K : PySem.W.Frag} {H H' : Hp} {a : Addr} {b r : List Nat} {t p : Nat} (h : Told K H a b t p r) (s : Same H H') : Told K H' a b t p r := by
  obtain ⟨bl, rl, h1, h2, h3⟩ := h
  exact ⟨bl, rl, Same.sqT s h1, Same.sqT s h2, Same.sqT s h3⟩
theorem iteT' {b : Bool} {A B : Prop} (h : b = true) (g : A) : if b = true then A else B := by rw [if_pos h]; exact g
theorem iteF' {b : Bool} {A B : Prop} (h : b = false) (g : B) : if b = true then A else B := by rw [h]; exact g
theorem subn {n t p : Nat} (h : t ≤ n) : ((n : Int) - (t : Int)) % (p : Int) = (((n - t) % p : Nat) : Int) := by
  rw [← Int.ofNat_sub h]
  first | rfl | exact (Int.natCast_emod _ _).symm
theorem seq_lo {b r : List Nat} {t p n : Nat} (h : n < t) : seqOf b t p r n = b.contains n := if_pos h
theorem seq_hi {b r : List Nat} {t p n : Nat} (h : ¬ n < t) : seqOf b t p r n = r.contains ((n - t) % p) := if_neg h
abbrev sIn : Stmt := top 2
abbrev NIn : List Str := ["told", "number", "below", "tail", "period", "rests"]
theorem scIn : FnScope ["told", "number", "below", "tail", "period", "rests"] ["told", "number"] (defScope sIn) := ⟨rfl, rfl, rfl, by decide +kernel, rfl, by decide +kernel, by decide +kernel⟩
/-- is_in(told, number) -/
def spIn (K : PySem.W.Frag) : Sp := fun vs H Q _ => ∃ (a : Addr) (b : List Nat) (t p : Nat) (r : List Nat) (n : Nat), vs = [.ref a, .int (n : Int)] ∧ Told K H a b t p r ∧ 0 < p ∧ Q (.bl (seqOf b t p r n)) H
/-- greatest_in(told) -/
def grOf (b r : List Nat) : V := if b = [] ∨ r ≠ [] then .non else match b.getLast? with | some n => .int (n : Int) | none => .non
def spGr (K : PySem.W.Frag) : Sp := fun vs H Q _ => ∃ (a : Addr) (b : List Nat) (t p : Nat) (r : List Nat), vs = [.ref a] ∧ Told K H a b t p r ∧ ∀ H', Same H H' → Q (grOf b r) H'
section
variable {P : Program} {w : World} {K : PySem.W.Frag} {mg : Str → Option Value} {base : Heap}
theorem ok_in {f : Addr} {fd : FuncData} (F : Fun K "is_in" "is_in" sIn f fd) : FnOk P w K mg base CX0 1 f fd ["told", "number"] (spIn K) := by
  refine F.ok scIn (fun vs H Q E h => ?_) (fun cdv A outer s H vs Q E hr h => ?_)
  · obtain ⟨_, _, _, _, _, _, rfl, _⟩ := h
    rfl
  obtain ⟨a, b, t, p, r, n, rfl, ⟨bl, rl, h1, h2, h3⟩, hp, k⟩ := h
  refine ⟨_, (pss_cons (ps_asg (pv 0) (pg_tup rfl (pgs_cons (pg_name (i := 2) scIn.nd rfl (.inl rfl)) (pgs_cons (pg_name (i := 3) scIn.nd rfl (.inl rfl)) (pgs_cons (pg_name (i := 4) scIn.nd rfl (.inl rfl)) (pgs_cons (pg_name (i := 5) scIn.nd rfl (.inl rfl)) pgs_nil))))))
  (pss_one (ps_ret (pe_ifExp (pt_cmpR op_lt (pv 1) (pv 3) (nomark _)) (pe_cmpR op_in_seq (pv 1) (pv 2) (by with_unfolding_all rfl)) (pe_cmpR op_in_seq (pe_op op_mod (pe_op op_sub (pv 1) (pv 3)) (pv 4)) (pv 5) (by with_unfolding_all rfl)))))), ?_⟩
  refine ⟨_, rfl, a, _, rfl, h1, rfl, _, _, rfl, _, _, rfl, _, _, rfl, _, _, rfl, rfl, ?_⟩
  refine ⟨_, rfl, _, rfl, _, _, rfl, rfl, _, rfl, ?_⟩
  by_cases hn : n < t
  · refine iteT' (decide_eq_true (by omega)) ?_
    refine ⟨_, rfl, _, rfl, bl, _, rfl, .inr h2, rfl, nv_flat b, ?_⟩
    rw [seq_lo hn] at k
    rw [inV_nv]
    exact k
  · refine iteF' (decide_eq_false (by omega)) ?_
    refine ⟨_, rfl, _, rfl, _, _, rfl, rfl, _, rfl, _, _, rfl, rfl, (by show (0 : Int) < (p : Int); omega), _, rfl, rl, _, rfl, .inr h3, rfl, nv_flat r, ?_⟩
    rw [seq_hi hn] at k
    show Q (.bl (inV (.int (((n : Int) - (t : Int)) % (p : Int))) (nv r))) H
    rw [subn (by omega), inV_nv]
    exact k
end
end My

set_option Elab.async false
set_option linter.all false
set_option maxRecDepth 100000
set_option maxHeartbeats 2000000
namespace My
open PySem L2

open Nm
/-- a dict's comprehension over a walk -/
theorem dc_it {J : It} {n : Nat} {G : Hp → Prop} {Y : Nat → Hp → V → Hp → Prop} (wk : Walk J n G Y) {g : TG} {tt : TT} {tk tv : TE} {vs : List Nat} {σ : St} {H1 : Hp} {D : Addr} {Qd : Hp → Prop} (Pv : Nat → Hp → Prop) (h0 : Pv 0 (upd H1 D (.dK []))) (hG : ∀ i H, i ≤ n → Pv i H → G H)
    (hs : ∀ i x H H', i < n → Pv i H → Y i H x H' → g x (wipe σ vs) H' fun σ2 H2 => wipe σ2 vs = wipe σ vs ∧ tt σ2 H2 fun b H3 =>
      if b = true then tk σ2 H3 fun y H4 => tv σ2 H4 fun z H5 => ∃ kvs k, y = kV k ∧ H5 D = some (.dK kvs) ∧ kvs.length < sizeLine ∧ Pv (i + 1) (upd H5 D (.dK (putK kvs k z))) else Pv (i + 1) H3) (hd : ∀ H, Pv n H → Qd H) :
    ∃ W : Nat → Nat → Hp → Prop, (∃ m, W 0 m (upd H1 D (.dK []))) ∧ ∀ i m H, W i m H →
      (J.stop i H ∧ Qd H) ∨ (J.go i H ∧ ∃ Nx : Hp → Prop, (∀ H', Nx H' → ∃ m', m' < m ∧ W (i + 1) m' H') ∧ ∀ x H', J.yld i H x H' → g x (wipe σ vs) H' fun σ2 H2 => wipe σ2 vs = wipe σ vs ∧ tt σ2 H2 fun b H3 =>
        if b = true then tk σ2 H3 fun y H4 => tv σ2 H4 fun z H5 => ∃ kvs k, y = kV k ∧ H5 D = some (.dK kvs) ∧ kvs.length < sizeLine ∧ Nx (upd H5 D (.dK (putK kvs k z))) else Nx H3) := by
  refine ⟨fun i m H => m = n - i ∧ i ≤ n ∧ Pv i H, ⟨n, (Nat.sub_zero n).symm, Nat.zero_le n, h0⟩, fun i m H z => ?_⟩
  obtain ⟨rfl, hi, p⟩ := z
  have q := hG i H hi p
  rcases Nat.lt_or_ge i n with lt | ge
  · exact .inr ⟨wk.goes i H lt q, Pv (i + 1), fun H' p' => ⟨n - (i + 1), by omega, rfl, lt, p'⟩, fun x H' y => hs i x H H' lt p (wk.yields i H x H' lt q y)⟩
  · cases Nat.le_antisymm hi ge
    exact .inl ⟨wk.stops H q, hd H p⟩
/-! ### data -/
abbrev dn (n : Nat) : PyData := .int (n : Int)
abbrev dt (ns : List Nat) : PyData := .tuple (ns.map dn)
theorem dp_nv {K : PySem.W.Frag} {H : Hp} : ∀ ns : List Nat, DpAll K H (nv ns) (ns.map dn)
  | [] => .nil
  | n :: r => .cons (.int _) (dp_nv r)
theorem lay_nv : ∀ ns : List Nat, PyData.canLayAll0 (ns.map dn) = true
  | [] => by simp [PyData.canLayAll0]
  | n :: r => by simp [PyData.canLayAll0, PyData.canLay0, lay_nv r]
theorem dep_nv : ∀ ns : List Nat, PyData.depthAll (ns.map dn) = 0
  | [] => by simp [PyData.depthAll]
  | n :: r => by simp [PyData.depthAll, PyData.depth, dep_nv r]
theorem sh_dt (ns : List Nat) : SeqAt.shaped (dt ns) = true := by
  simp [SeqAt.shaped, PyData.canLay0, PyData.depth, lay_nv, dep_nv]
theorem eqv_nil (ns : List Nat) : PyData.eqv (dt ns) (dt []) = decide (ns = []) := by
  cases ns with
  | nil => rfl
  | cons n r => simp [dt, PyData.eqv, PyData.eqvAll]
section
variable {P : Program} {w : World} {K : PySem.W.Frag} {mg : Str → Option Value} {base : Heap}
end
abbrev sLp : Stmt := top 3
abbrev NLp : List Str := ["period", "rests", "known", "by", "rest"]
theorem scLp : FnScope ["period", "rests", "known", "by", "rest"] ["period", "rests"] (defScope sLp) := ⟨rfl, rfl, rfl, by decide +kernel, rfl, by decide +kernel, by decide +kernel⟩
/-- least_period(period, rests) -/
def spLp (K : PySem.W.Frag) : Sp := fun vs H Q _ => ∃ (p : Nat) (a : Addr) (r : List Nat), vs = [.int (p : Int), .ref a] ∧ SqA K H a (nv r) ∧ r.length < 1000 ∧ 0 < p ∧ p ≤ 1000 ∧ (∀ x ∈ r, x < p) ∧
  ∀ (q : Nat) (H' : Hp), Same H H' → Lp p r q → Q (.int (q : Int)) H'
end My

set_option Elab.async false
set_option linter.all false
set_option maxRecDepth 100000
set_option maxHeartbeats 2000000
namespace My
open PySem L2

open Nm
theorem modn (a b p : Nat) : ((a : Int) + (b : Int)) % (p : Int) = (((a + b) % p : Nat) : Int) := by
  rw [← Int.natCast_add]
  first | rfl | exact (Int.natCast_emod _ _).symm
theorem modn1 (a p : Nat) : (a : Int) % (p : Int) = ((a % p : Nat) : Int) := by
  first | rfl | exact (Int.natCast_emod _ _).symm
section
variable {P : Program} {w : World} {K : PySem.W.Frag} {mg : Str → Option Value} {base : Heap}
theorem ok_lp {f : Addr} {fd : FuncData} (F : Fun K "least_period" "least_period" sLp f fd) (z_range : mg "range" = none) (z_all : mg "all" = none) : FnOk P w K mg base CX0 1 f fd ["period", "rests"] (spLp K) := by
  refine F.ok scLp (fun vs H Q E h => ?_) (fun cdv A outer s H vs Q E hr h => ?_)
  · obtain ⟨_, _, _, rfl, _⟩ := h
    rfl
  obtain ⟨p, a, r, rfl, hS, h64, hp, hp2, hlt, k⟩ := h
  have hu := hu_of hr
  refine ⟨_, (pss_cons (ps_set (i := 2) scLp.nd rfl (.inr rfl) (pe_dc (own := [("rest", 4)]) (g := gName 4) (tt := tYes) rfl scLp.nd (pi_lt (pv 1)) (blkOk_by (own := [("rest", 4)]) (N := NLp) (sc := defScope sLp) (by decide +kernel)) (fun _ _ _ _ _ => pg_name (i := 4) scLp.nd rfl (Or.inl rfl)) (fun _ _ _ _ _ => pts_nil) (fun _ _ _ _ _ => (pv 4)) (fun _ _ _ _ _ => pe_bl)))
  (pss_cons (ps_for PassesOwn.never rfl (pi_range2 rfl z_range (pa_cons pe_int (pa_cons (pv 0) pa_nil))) (pg_name (i := 3) scLp.nd rfl (.inr rfl)) (pss_one (ps_if (PW.pt (pw_and (pt_cmpR op_eq (pe_op op_mod (pv 0) (pv 3)) pe_int (nomark _)) (pw_and1 (pt_val (pe_callB (cr_all rfl) rfl z_all (by decide +kernel) (pa_cons (pe_lc (own := [("rest", 4)]) (g := gName 4) (tt := tYes) rfl scLp.nd (pi_lt (pv 1)) (blkOk_by (own := [("rest", 4)]) (N := NLp) (sc := defScope sLp) (by decide +kernel)) (fun _ _ _ _ _ => (pg_name (i := 4) scLp.nd rfl (Or.inl rfl))) (fun _ _ _ _ _ => pts_nil) (fun _ _ _ _ _ => (pe_cmp (pc_din hu (pe_op op_mod (pe_op op_add (pv 4) (pv 3)) (pv 0)) (pv 2))))) pa_nil)))))) (pss_one (ps_ret (pv 3))) pss_nil)))
  (pss_one (ps_ret (pv 0))))), ?_⟩
  -- known = {rest: True for rest in rests}
  refine ilt_of (K := K) (i := 1) (a := a) (xs := nv r) rfl hS fun J G wk kG => fun D hD => ?_
  refine dc_it wk (fun i H1 => Same H H1 ∧ ∃ kvs, H1 D = some (.dK kvs) ∧ kvs.length ≤ i ∧ ∀ n : Nat, (valV kvs (Sum.inl (n : Int))).isSome = (r.take i).contains n) ⟨Same.new hD, [], upd_same, Nat.le_refl _, fun n => rfl⟩ (fun i H1 _ q => kG H1 q.1) ?_ ?_
  · rintro i x H1 H2 hi ⟨s1, kvs, e1, hl, hv⟩ ⟨rfl, hx⟩
    obtain ⟨z, hz, rfl⟩ : ∃ z, r[i]? = some z ∧ x = V.int (z : Int) := by
      rw [List.getElem?_map] at hx
      cases e : r[i]? with
      | none => rw [e] at hx; cases hx
      | some z => rw [e] at hx; exact ⟨z, rfl, (Option.some.inj hx).symm⟩
    refine ⟨rfl, ?_⟩
    refine ⟨_, rfl, kvs, Sum.inl (z : Int), rfl, e1, ?_, fun b o e => ?_, putK kvs (Sum.inl (z : Int)) (.bl true), upd_same, ?_, fun n => ?_⟩
    · rw [List.length_map] at hi
      rw [sizeLine_eq]
      omega
    · rw [upd_ne (ne_of_none e hD)]
      exact s1 _ _ e
    · have := length_putK kvs (Sum.inl (z : Int)) (.bl true)
      omega
    · rw [valV_put, List.take_add_one, hz]
      by_cases e : n = z
      · subst e
        simp
      · rw [if_neg (by intro q; injection q with q; omega), hv n]
        simp [e]
  rintro H1 ⟨s1, kvs, e1, hl, hv⟩
  have hv' : ∀ n : Nat, (valV kvs (Sum.inl (n : Int))).isSome = r.contains n := fun n => by
    have := hv n
    rwa [List.length_map, List.take_length] at this
  -- for by in range(1, period)
  refine ⟨_, rfl, 1, _, rfl, ⟨by decide, by decide, by omega, by omega⟩, for_range (lo := 1) (n := ((p : Int) - 1).toNat) (fun i σ H2 => Same H1 H2 ∧ ∃ v, σ = [some (.int (p : Int)), some (.ref a), some (.ref D), v, none] ∧ ∀ q, 0 < q → q < i + 1 → p % q = 0 → ¬ Closed p r q) ⟨fun _ _ e => e, none, rfl, fun q h1 h2 => by omega⟩ ?_ ?_⟩
  · rintro i σ H2 hi ⟨s2, v, rfl, hq⟩
    have hb : 0 < i + 1 := by omega
    have cont : ∀ H3, Same H2 H3 → (p % (i + 1) = 0 → ¬ Closed p r (i + 1)) → Same H1 H3 ∧ ∃ v, [some (V.int (p : Int)), some (V.ref a), some (V.ref D), some (V.int (1 + (i : Int))), none] = [some (V.int (p : Int)), some (V.ref a), some (V.ref D), v, none] ∧ ∀ q, 0 < q → q < i + 1 + 1 → p % q = 0 → ¬ Closed p r q := fun H3 s3 h => by
      refine ⟨s2.trans s3, _, rfl, fun q h1 h2 h3 => ?_⟩
      by_cases e : q = i + 1
      · subst e
        exact h h3
      · exact hq q h1 (by omega) h3
    have e1i : ((1 : Int) + (i : Int)) = ((i + 1 : Nat) : Int) := by omega
    -- if period % by == 0 and ..
    refine ⟨_, rfl, _, rfl, _, _, rfl, rfl, (by show (0 : Int) < 1 + (i : Int); omega), rfl, _, rfl, ?_⟩
    have em : ((p : Int) % (1 + (i : Int))) = ((p % (i + 1) : Nat) : Int) := by rw [e1i, modn1]
    by_cases hm : p % (i + 1) = 0
    · refine iteT' (decide_eq_true (by show V.int ((p : Int) % (1 + (i : Int))) = V.int 0; rw [em, hm]; rfl)) ?_
      refine ilt_of (K := K) (i := 1) (a := a) (xs := nv r) rfl (SqA.keep hS (s1.trans s2)) fun J2 G2 wk2 kG2 => fun M hM => ?_
      refine lc_s wk2 (fun x => match x with | .int z => some (.bl (r.contains ((z.toNat + (i + 1)) % p))) | _ => none) hM (by rw [List.length_map, sizeLine_eq]; omega) kG2 ?_ ?_
      · intro x H3 hx s3 OK NO ok no
        obtain ⟨z, hz, rfl⟩ := nv_mem hx
        refine ⟨rfl, ?_⟩
        have ez : ((z : Int) + (1 + (i : Int))) % (p : Int) = ((((z + (i + 1)) % p : Nat)) : Int) := by rw [e1i, modn]
        refine ⟨_, rfl, _, rfl, _, _, rfl, rfl, _, rfl, _, _, rfl, rfl, (by show (0 : Int) < (p : Int); omega), _, rfl, D, valV kvs (Sum.inl ((((z + (i + 1)) % p : Nat)) : Int)), rfl, ?_, ok _ _ (fun _ _ e => e) ?_⟩
        · show DGet H3 D (.int (((z : Int) + (1 + (i : Int))) % (p : Int))) _
          rw [ez]
          exact DGet.k (k := Sum.inl ((((z + (i + 1)) % p : Nat)) : Int)) ((s2.trans s3) _ _ e1)
        · rw [hv']
          rfl
      intro H3 s3 eM
      have ef : (nv r).filterMap (fun x => match x with | .int z => some (V.bl (r.contains ((z.toNat + (i + 1)) % p))) | _ => none) = (r.map fun z => r.contains ((z + (i + 1)) % p)).map V.bl := by
        unfold nv
        rw [List.filterMap_map, List.map_map, ← List.filterMap_eq_map]
        rfl
      refine ⟨M, _, rfl, SqL.of (by rw [eM, ef]), _, rfl, ?_⟩
      have cl : ((r.map fun z => r.contains ((z + (i + 1)) % p)).all id) = true ↔ Closed p r (i + 1) := by
        rw [List.all_map, List.all_eq_true]
        constructor
        · intro h x hx
          exact List.contains_iff_mem.mp (h x hx)
        · intro h x hx
          exact List.contains_iff_mem.mpr (h x hx)
      refine ite2 (fun h => ?_) (fun h => ?_)
      · refine ⟨_, rfl, ?_⟩
        show Q (V.int (1 + (i : Int))) H3
        rw [e1i]
        refine k (i + 1) H3 ((s1.trans s2).trans s3) ⟨hb, by omega, hm, cl.mp h, fun q h1 h2 => hq q h1 h2⟩
      · exact cont H3 s3 fun _ z => h (cl.mpr z)
    · refine iteF' (decide_eq_false (by show ¬ V.int ((p : Int) % (1 + (i : Int))) = V.int 0; rw [em]; intro q; injection q with q; omega)) ?_
      exact cont H2 (fun _ _ e => e) fun h => absurd h hm
  · rintro σ H2 ⟨s2, v, rfl, hq⟩
    refine ⟨_, rfl, k p H2 (s1.trans s2) ⟨hp, Nat.le_refl _, Nat.mod_self _, lp_self hlt, fun q h1 h2 h3 => hq q h1 (by omega) h3⟩⟩
end
end My

set_option Elab.async false
set_option linter.all false
set_option maxRecDepth 100000
set_option maxHeartbeats 2000000
namespace My
open PySem L2

open Nm
/-- tuple(sorted(set(xs))) -/
theorem tss {K : PySem.W.Frag} {w : World} {M : Addr} {ns : List Int} {H : Hp} {Q : VK} (hM : SqL K H M (ns.map V.int)) (few : ns.length < 64)
    (k : ∀ (ms : List Int) (T : Addr) (H' : Hp), Same H H' → ms.Pairwise (· < ·) → (∀ z, z ∈ ms ↔ z ∈ ns) → ms.length ≤ ns.length → H' T = some (.tup (ms.map V.int)) → Q (.ref T) H') :
    rSetOfI K w [.ref M] H (fun v H2 => rSortedSet w [v] H2 fun v2 H3 => rTup K [v2] H3 Q) := by
  refine ⟨M, ns, rfl, hM, few, fun a c n1 hc => ?_⟩
  refine ⟨a, _, c, rfl, upd_same, by omega, fun ms p asc mem len n2 => ?_⟩
  refine ⟨p, _, rfl, .inl ⟨SqL.of upd_same, fun l n3 => ?_⟩⟩
  refine k ms l _ (((Same.new n1).trans (Same.new n2)).trans (Same.new n3)) asc (fun z => ?_) (by omega) upd_same
  rw [mem z, decide_eq_true_eq]
/-- tuple(sorted(xs)) -/
theorem ts {K : PySem.W.Frag} {M : Addr} {ns : List Int} {H : Hp} {Q : VK} (hM : SqL K H M (ns.map V.int))
    (k : ∀ (ms : List Int) (T : Addr) (H' : Hp), Same H H' → ms.Perm ns → ms.Pairwise (· ≤ ·) → H' T = some (.tup (ms.map V.int)) → Q (.ref T) H') :
    rSortedI K [.ref M] H (fun v2 H3 => rTup K [v2] H3 Q) := by
  refine ⟨M, ns, rfl, hM, fun ms p pm asc n1 => ?_⟩
  refine ⟨p, _, rfl, .inl ⟨SqL.of upd_same, fun l n2 => ?_⟩⟩
  exact k ms l _ ((Same.new n1).trans (Same.new n2)) pm asc upd_same
theorem o_sub {i j k : Int} {H : Hp} {Q : VK} (h : i - j = k) (g : Q (.int k) H) : (rI0 fun i j => V.int (i - j)) (.int i) (.int j) H Q := by
  subst h
  exact ⟨i, j, rfl, rfl, g⟩
theorem o_add {i j k : Int} {H : Hp} {Q : VK} (h : i + j = k) (g : Q (.int k) H) : (rI0 fun i j => V.int (i + j)) (.int i) (.int j) H Q := by
  subst h
  exact ⟨i, j, rfl, rfl, g⟩
theorem o_mod {i j k : Int} {H : Hp} {Q : VK} (h0 : 0 < j) (h : i % j = k) (g : Q (.int k) H) : (rI (fun x j => 0 < j) fun i j => V.int (i % j)) (.int i) (.int j) H Q := by
  subst h
  exact ⟨i, j, rfl, rfl, h0, g⟩
theorem c_sub {σ : St} {i c k : Int} {H : Hp} {Q : VK} (h : i - c = k) (g : Q (.int k) H) : tC (.int c) σ H fun y H2 => (rI0 fun i j => V.int (i - j)) (.int i) y H2 Q := o_sub h g
theorem c_add {σ : St} {i c k : Int} {H : Hp} {Q : VK} (h : i + c = k) (g : Q (.int k) H) : tC (.int c) σ H fun y H2 => (rI0 fun i j => V.int (i + j)) (.int i) y H2 Q := o_add h g
theorem nv_flt {n : Nat} {f : Nat → Bool} {ms : List Int} (e : ms = (flt n f).map fun x : Nat => (x : Int)) : ms.map V.int = nv (flt n f) := by
  rw [e, nv_ints]
theorem nv_some (t : Nat) : ∀ b : List Nat, (nv b).filterMap (fun x => match x with | .int z => if z < (t : Int) then some (V.int z) else none | _ => none) = nv (b.filter fun z => decide (z < t))
  | [] => rfl
  | z :: b => by
    show List.filterMap _ (V.int (z : Int) :: nv b) = _
    rw [List.filterMap_cons, List.filter_cons, nv_some t b]
    by_cases h : z < t
    · simp [h]
    · simp [h]
/-- what comes behind a statement is shown first -/
theorem seq_first {t u : TS} {D : Ends} {σ : St} {H : Hp} (Ex : St → Hp → Prop) (hx : ∀ σ H, Ex σ H → u D σ H) (h : (∀ σ H, Ex σ H → u D σ H) → tSeq t u D σ H) : tSeq t u D σ H := h hx
/-- numbers_told(some, tail, period, rests) -/
def spNt (K : PySem.W.Frag) : Sp := fun vs H Q _ => ∃ (sa : Addr) (t p : Nat) (ra : Addr) (b r : List Nat), vs = [.ref sa, .int (t : Int), .int (p : Int), .ref ra] ∧ SqA K H sa (nv b) ∧ SqA K H ra (nv r) ∧ b.length < 64 ∧ r.length < 64 ∧ t ≤ 1000 ∧ 0 < p ∧ p ≤ 1000 ∧ (∀ x ∈ r, x < p) ∧
  ∀ (a : Addr) (H' : Hp) (b' : List Nat) (t' p' : Nat) (r' : List Nat), Same H H' → Told K H' a b' t' p' r' → Canon (seqOf b t p r) b' t' p' r' → t' ≤ t → p' ≤ p → Q (.ref a) H'
abbrev sNt : Stmt := top 4
abbrev NNt : List Str := ["some", "tail", "period", "rests", "by", "left", "told", "rest", "number"]
theorem scNt : FnScope ["some", "tail", "period", "rests", "by", "left", "told", "rest", "number"] ["some", "tail", "period", "rests"] (defScope sNt) := ⟨rfl, rfl, rfl, by decide +kernel, rfl, by decide +kernel, by decide +kernel⟩
section
variable {P : Program} {w : World} {K : PySem.W.Frag} {mg : Str → Option Value} {base : Heap}
theorem ok_nt {f fLp fIn : Addr} {fd fdLp fdIn : FuncData} (F : Fun K "numbers_told" "numbers_told" sNt f fd) (GLp : FnOk P w K mg base CX0 1 fLp fdLp ["period", "rests"] (spLp K)) (bLp : Binds K fdLp ["period", "rests"] []) (kLp : PySem.W.keepIn K (.ref fLp) = true) (mLp : mg "least_period" = some (.ref fLp))
    (GIn : FnOk P w K mg base CX0 1 fIn fdIn ["told", "number"] (spIn K)) (bIn : Binds K fdIn ["told", "number"] []) (kIn : PySem.W.keepIn K (.ref fIn) = true) (mIn : mg "is_in" = some (.ref fIn))
    (z_tuple : mg "tuple" = none) (z_sorted : mg "sorted" = none) (z_set : mg "set" = none) : FnOk P w K mg base CX0 2 f fd ["some", "tail", "period", "rests"] (spNt K) := by
  refine F.ok scNt (fun vs H Q E h => ?_) (fun cdv A outer s H vs Q E hr h => ?_)
  · obtain ⟨_, _, _, _, _, _, rfl, _⟩ := h
    rfl
  obtain ⟨sa, t, p, ra, b, r, rfl, hsa, hra, hb, hr64, ht, hp, hp2, hlt, k⟩ := h
  refine ⟨_, (pss_cons (ps_set (i := 4) scNt.nd rfl (.inr rfl) (pe_call GLp (hr.mono (by decide)) rfl mLp kLp bLp .nil pass0 (pa_cons (pv 2) (pa_cons (pv 3) pa_nil))))
  (pss_cons (ps_set (i := 5) scNt.nd rfl (.inl rfl) (pe_callTy call_tupleD rfl z_tuple (by decide +kernel) (pa_cons (pe_callB (cr_sortedSet rfl) rfl z_sorted (by decide +kernel) (pa_cons (pe_callTy (cr_setOfI rfl) rfl z_set (by decide +kernel) (pa_cons (pe_lc (own := [("rest", 7)]) (g := gName 7) (tt := tYes) rfl scNt.nd (pi_lt (pv 3)) (blkOk_by (own := [("rest", 7)]) (N := NNt) (sc := defScope sNt) (by decide +kernel)) (fun _ _ _ _ _ => (pg_name (i := 7) scNt.nd rfl (Or.inl rfl))) (fun _ _ _ _ _ => pts_nil) (fun _ _ _ _ _ => (pe_op op_mod (pv 7) (pv 4)))) pa_nil)) pa_nil)) pa_nil)))
  (pss_cons (ps_set (i := 6) scNt.nd rfl (.inl rfl) (pe_tup (pa_cons (pe_callTy call_tupleD rfl z_tuple (by decide +kernel) (pa_cons (pe_callB (cr_sortedSet rfl) rfl z_sorted (by decide +kernel) (pa_cons (pe_callTy (cr_setOfI rfl) rfl z_set (by decide +kernel) (pa_cons (pe_lc (own := [("number", 8)]) (g := gName 8) rfl scNt.nd (pi_lt (pv 0)) (blkOk_by (own := [("number", 8)]) (N := NNt) (sc := defScope sNt) (by decide +kernel)) (fun _ _ _ _ _ => (pg_name (i := 8) scNt.nd rfl (Or.inl rfl))) (fun _ _ _ _ _ => (pts_one (pt_cmpR op_lt (pv 8) (pv 1) (nomark _)))) (fun _ _ _ _ _ => (pv 8))) pa_nil)) pa_nil)) pa_nil)) (pa_cons (pv 1) (pa_cons (pv 4) (pa_cons (pv 5) pa_nil))))))
  (pss_cons (ps_while PassesOwn.never (PW.pt (pw_and (pt_cmpR op_gt (pv 1) pe_int (nomark _)) (pw_and1 (pt_cmpR op_eq (pe_call GIn (hr.mono (by decide)) rfl mIn kIn bIn .nil pass0 (pa_cons (pv 6) (pa_cons (pe_op op_sub (pv 1) pe_int) pa_nil))) (pe_call GIn (hr.mono (by decide)) rfl mIn kIn bIn .nil pass0 (pa_cons (pv 6) (pa_cons (pe_op op_add (pe_op op_sub (pv 1) pe_int) (pv 4)) pa_nil))) (nomark _))))) (pss_cons (ps_set (i := 1) scNt.nd rfl (.inr rfl) (pe_op op_sub (pv 1) pe_int))
    (pss_cons (ps_set (i := 5) scNt.nd rfl (.inl rfl) (pe_callTy call_tupleD rfl z_tuple (by decide +kernel) (pa_cons (pe_callB cr_sortedI rfl z_sorted (by decide +kernel) (pa_cons (pe_lc (own := [("rest", 7)]) (g := gName 7) (tt := tYes) rfl scNt.nd (pi_tup (pv 5)) (blkOk_by (own := [("rest", 7)]) (N := NNt) (sc := defScope sNt) (by decide +kernel)) (fun _ _ _ _ _ => (pg_name (i := 7) scNt.nd rfl (Or.inl rfl))) (fun _ _ _ _ _ => pts_nil) (fun _ _ _ _ _ => (pe_op op_mod (pe_op op_add (pv 7) pe_int) (pv 4)))) pa_nil)) pa_nil)))
    (pss_one (ps_set (i := 6) scNt.nd rfl (.inl rfl) (pe_tup (pa_cons (pe_callTy call_tupleD rfl z_tuple (by decide +kernel) (pa_cons (pe_lc (own := [("number", 8)]) (g := gName 8) rfl scNt.nd (pi_tup (pe_ix ix_tup (pv 6) pe_int (fun _ _ => rfl))) (blkOk_by (own := [("number", 8)]) (N := NNt) (sc := defScope sNt) (by decide +kernel)) (fun _ _ _ _ _ => (pg_name (i := 8) scNt.nd rfl (Or.inl rfl))) (fun _ _ _ _ _ => (pts_one (pt_cmpR op_lt (pv 8) (pv 1) (nomark _)))) (fun _ _ _ _ _ => (pv 8))) pa_nil)) (pa_cons (pv 1) (pa_cons (pv 4) (pa_cons (pv 5) pa_nil))))))))))
  (pss_one (ps_ret (pv 6))))))), ?_⟩
  -- by = least_period(period, rests)
  refine ⟨_, rfl, _, rfl, p, ra, r, rfl, hra, by omega, hp, hp2, hlt, fun q H1 s1 lp => ?_⟩
  have hq := lp.pos
  have hq2 := lp.le
  -- left
  refine ilt_of (K := K) (i := 3) (a := ra) (xs := nv r) rfl (SqA.keep hra s1) fun J G wk kG => fun M hM => ?_
  refine lc_s wk (fun x => match x with | .int z => some (.int (((z.toNat % q : Nat)) : Int)) | _ => none) hM (by rw [List.length_map, sizeLine_eq]; omega) kG ?_ ?_
  · intro x H2 hx s2 OK NO ok no
    obtain ⟨z, hz, rfl⟩ := nv_mem hx
    refine ⟨rfl, ?_⟩
    refine ⟨_, rfl, _, rfl, ?_⟩
    exact o_mod (by omega) (modn1 z q) (ok _ _ (fun _ _ e => e) rfl)
  intro H2 s2 eM
  have eM' : H2 M = some (.lst ((r.map fun z => ((z % q : Nat) : Int)).map V.int)) := by
    rw [eM]
    unfold nv
    rw [List.filterMap_map, List.map_map, ← List.filterMap_eq_map]
    rfl
  dsimp only [tNil]
  refine tss (SqL.of eM') (by rw [List.length_map]; exact hr64) fun ms la H3 s3 asc mem len e3 => ?_
  have ems := rests_first (b := b) (t := t) lp hlt asc (fun x => by
    rw [mem, List.mem_map]
    constructor
    · rintro ⟨y, hy, rfl⟩
      exact ⟨y, hy, rfl⟩
    · rintro ⟨y, hy, rfl⟩
      exact ⟨y, hy, rfl⟩)
  rw [nv_flt ems] at e3
  generalize hs : seqOf b t p r = sq at ems k e3
  have per : Per sq t q := by rw [← hs]; exact closed_per lp.pos lp.dvd hp lp.closed
  have s03 : Same H H3 := (s1.trans s2).trans s3
  -- told = (tuple(sorted(set([..]))), tail, by, left)
  refine ilt_of (K := K) (i := 0) (a := sa) (xs := nv b) rfl (SqA.keep hsa s03) fun J2 G2 wk2 kG2 => fun M2 hM2 => ?_
  refine lc_s wk2 (fun x => match x with | .int z => if z < (t : Int) then some (.int z) else none | _ => none) hM2 (by rw [List.length_map, sizeLine_eq]; omega) kG2 ?_ ?_
  · intro x H4 hx s4 OK NO ok no
    obtain ⟨z, hz, rfl⟩ := nv_mem hx
    refine ⟨rfl, ?_⟩
    refine ⟨_, rfl, _, rfl, _, _, rfl, rfl, _, rfl, ?_⟩
    by_cases hzt : (z : Int) < (t : Int)
    · refine iteT' (decide_eq_true hzt) ?_
      exact ⟨_, rfl, ok _ _ (fun _ _ e => e) (if_pos hzt)⟩
    · refine iteF' (decide_eq_false hzt) ?_
      exact no _ (fun _ _ e => e) (if_neg hzt)
  intro H4 s4 eM2
  have eM2' : H4 M2 = some (.lst (((b.filter fun z => decide (z < t)).map fun z : Nat => (z : Int)).map V.int)) := by
    rw [eM2, nv_some, ← nv_ints]
  have hbl : ((b.filter fun z => decide (z < t)).map fun z : Nat => (z : Int)).length < 64 := by
    rw [List.length_map]
    exact Nat.lt_of_le_of_lt (List.length_filter_le _ _) hb
  dsimp only [tNil]
  refine tss (SqL.of eM2') hbl fun ms2 bl H5 s5 asc2 mem2 len2 e5 => ?_
  have ems2 := below_first (b := b) (t := t) (p := p) (r := r) asc2 (fun x => by
    rw [mem2, List.mem_map]
    constructor
    · rintro ⟨y, hy, rfl⟩
      rw [List.mem_filter, decide_eq_true_eq] at hy
      exact ⟨y, hy.1, hy.2, rfl⟩
    · rintro ⟨y, hy, ht, rfl⟩
      exact ⟨y, List.mem_filter.mpr ⟨hy, decide_eq_true ht⟩, rfl⟩)
  rw [nv_flt ems2, hs] at e5
  have s35 : Same H3 H5 := s4.trans s5
  refine ⟨_, rfl, _, rfl, _, rfl, (by show 4 ≤ sizeLine; decide), fun ta nta => ?_⟩
  have s6 : Same H5 (upd H5 ta (.tup [.ref bl, .int (t : Int), .int (q : Int), .ref la])) := Same.new nta
  have told0 : Told K (upd H5 ta (.tup [.ref bl, .int (t : Int), .int (q : Int), .ref la])) ta (flt t sq) t q (flt q fun x => sq (t + x)) :=
    ⟨bl, la, SqT.of upd_same, SqT.of (s6 _ _ e5), SqT.of (s6 _ _ (s35 _ _ e3))⟩
  have la0 : SqT K (upd H5 ta (.tup [.ref bl, .int (t : Int), .int (q : Int), .ref la])) la (nv (flt q fun x => sq (t + x))) := SqT.of (s6 _ _ (s35 _ _ e3))
  have s06 : Same H (upd H5 ta (.tup [.ref bl, .int (t : Int), .int (q : Int), .ref la])) := (s03.trans s35).trans s6
  generalize (upd H5 ta (.tup [.ref bl, .int (t : Int), .int (q : Int), .ref la])) = H6 at told0 la0 s06
  dsimp only [gName]
  refine seq_first (fun σ H7 => ∃ (t1 : Nat) (la ta : Addr), σ = [some (.ref sa), some (.int (t1 : Int)), some (.int (p : Int)), some (.ref ra), some (.int (q : Int)), some (.ref la), some (.ref ta), none, none] ∧ Same H H7 ∧ Told K H7 ta (flt t1 sq) t1 q (flt q fun x => sq (t1 + x)) ∧ Per sq t1 q ∧ t1 ≤ t ∧ (t1 = 0 ∨ sq (t1 - 1 + q) ≠ sq (t1 - 1))) ?_ ?_
  · rintro σ H7 ⟨t1, la, ta, rfl, s7, told, per1, ht1, low⟩
    exact ⟨_, rfl, k ta H7 _ t1 q _ s7 told ⟨hq, per1, fun q' N h1 h2 => by
      rw [← hs] at h2
      exact lp.lp hlt q' N h1 h2, low, rfl, rfl⟩ ht1 hq2⟩
  intro rest
  -- while tail > 0 and ..
  refine ⟨fun m σ H7 => ∃ (t1 : Nat) (la ta : Addr), σ = [some (.ref sa), some (.int (t1 : Int)), some (.int (p : Int)), some (.ref ra), some (.int (q : Int)), some (.ref la), some (.ref ta), none, none] ∧ Same H H7 ∧ Told K H7 ta (flt t1 sq) t1 q (flt q fun x => sq (t1 + x)) ∧ SqT K H7 la (nv (flt q fun x => sq (t1 + x))) ∧ Per sq t1 q ∧ t1 ≤ t ∧ m = t1,
    ⟨t, t, la, ta, rfl, s06, told0, la0, per, Nat.le_refl _, rfl⟩, ?_⟩
  clear told0 la0 e3 e5
  rintro m σ H7 ⟨t1, la, ta, rfl, s7, told, la1, per1, ht1, rfl⟩
  refine ⟨_, rfl, _, _, rfl, rfl, _, rfl, ?_⟩
  by_cases h0 : m = 0
  · refine iteF' (decide_eq_false (by omega)) ?_
    refine iteF ?_
    exact rest _ _ ⟨m, la, ta, rfl, s7, told, per1, ht1, .inl h0⟩
  refine iteT' (decide_eq_true (by omega)) ?_
  have em : (m : Int) - 1 = ((m - 1 : Nat) : Int) := by omega
  refine ⟨_, rfl, _, rfl, c_sub em ?_⟩
  refine ⟨ta, _, _, _, _, m - 1, rfl, told, hq, ?_⟩
  refine ⟨_, rfl, _, rfl, c_sub em ?_⟩
  refine ⟨_, rfl, o_add (k := ((m - 1 + q : Nat) : Int)) (by omega) ?_⟩
  refine ⟨ta, _, _, _, _, m - 1 + q, rfl, told, hq, rfl, _, rfl, ?_⟩
  rw [seq_canon hq per1, seq_canon hq per1]
  by_cases h1 : sq (m - 1 + q) ≠ sq (m - 1)
  · refine iteF' (decide_eq_false fun e => h1 ?_) ?_
    · injection e with e
      exact e.symm
    · exact rest _ _ ⟨m, la, ta, rfl, s7, told, per1, ht1, .inr h1⟩
  have h1 := Classical.not_not.mp h1
  refine iteT' (decide_eq_true (by rw [h1])) ?_
  have hm0 : 0 < m := by omega
  have perd := per_down per1 hm0 h1
  refine ⟨fun σ' H' => ∃ (t1 : Nat) (la ta : Addr), σ' = [some (.ref sa), some (.int (t1 : Int)), some (.int (p : Int)), some (.ref ra), some (.int (q : Int)), some (.ref la), some (.ref ta), none, none] ∧ Same H H' ∧ Told K H' ta (flt t1 sq) t1 q (flt q fun x => sq (t1 + x)) ∧ SqT K H' la (nv (flt q fun x => sq (t1 + x))) ∧ Per sq t1 q ∧ t1 ≤ t ∧ t1 = m - 1, ?_, ?_⟩
  · rintro σ' H' ⟨t2, la', ta', e1, e2, e3, e4, e5, e6, e7⟩
    exact ⟨m - 1, by omega, t2, la', ta', e1, e2, e3, e4, e5, e6, e7.symm⟩
  -- tail = tail - 1
  refine ⟨_, rfl, c_sub em ?_⟩
  -- left = tuple(sorted([..]))
  refine ⟨_, rfl, la, rfl, ⟨_, la1⟩, fun M hM => ?_⟩
  refine lc_s (walk_tup (K := K) (a := la)) (fun x => match x with | .int z => some (.int ((((z.toNat + 1) % q : Nat)) : Int)) | _ => none) hM (by rw [List.length_map, sizeLine_eq]; have := flt_len (n := q) (f := fun x => sq (m + x)); omega) (fun H' s => Same.sqT s la1) ?_ ?_
  · intro x H8 hx s8 OK NO ok no
    obtain ⟨z, hz, rfl⟩ := nv_mem hx
    refine ⟨rfl, ?_⟩
    refine ⟨_, rfl, c_add (k := ((z + 1 : Nat) : Int)) (by omega) ?_⟩
    refine ⟨_, rfl, o_mod (by omega) (modn1 (z + 1) q) (ok _ _ (fun _ _ e => e) rfl)⟩
  intro H8 s8 eM
  have eM' : H8 M = some (.lst (((flt q fun x => sq (m + x)).map fun y : Nat => (((y + 1) % q : Nat) : Int)).map V.int)) := by
    rw [eM]
    unfold nv
    rw [List.filterMap_map, List.map_map, ← List.filterMap_eq_map]
    rfl
  dsimp only [tNil]
  refine ts (SqL.of eM') fun ms la2 H9 s9 pm asc e9 => ?_
  rw [nv_flt (sort_down hq perd hm0 pm asc)] at e9
  have s79 : Same H7 H9 := s8.trans s9
  -- told = (tuple([..]), tail, by, left)
  obtain ⟨bl1, rl1, g1, g2, g3⟩ := told.keep s79
  dsimp only [gName]
  refine ⟨_, rfl, ta, _, 0, .ref bl1, rfl, rfl, g1, rfl, bl1, rfl, ⟨_, g2⟩, fun M2 hM2 => ?_⟩
  refine lc_s (walk_tup (K := K) (a := bl1)) (fun x => match x with | .int z => if z < ((m - 1 : Nat) : Int) then some (.int z) else none | _ => none) hM2 (by rw [List.length_map, sizeLine_eq]; have := flt_len (n := m) (f := sq); omega) (fun H' s => Same.sqT s g2) ?_ ?_
  · intro x Ha hx sa' OK NO ok no
    obtain ⟨z, hz, rfl⟩ := nv_mem hx
    refine ⟨rfl, ?_⟩
    refine ⟨_, rfl, _, rfl, _, _, rfl, rfl, _, rfl, ?_⟩
    by_cases hzt : (z : Int) < ((m - 1 : Nat) : Int)
    · refine iteT' (decide_eq_true hzt) ?_
      exact ⟨_, rfl, ok _ _ (fun _ _ e => e) (if_pos hzt)⟩
    · refine iteF' (decide_eq_false hzt) ?_
      exact no _ (fun _ _ e => e) (if_neg hzt)
  intro Ha sA eM2
  rw [nv_some, flt_low (by omega)] at eM2
  refine ⟨M2, _, rfl, .inl ⟨SqL.of eM2, fun bl2 nb2 => ?_⟩⟩
  refine ⟨_, rfl, _, rfl, _, rfl, (by show 4 ≤ sizeLine; decide), fun ta2 nta2 => ?_⟩
  have sB := Same.new (o := .tup (nv (flt (m - 1) sq))) nb2
  have sC := Same.new (o := .tup [.ref bl2, .int ((m - 1 : Nat) : Int), .int (q : Int), .ref la2]) nta2
  have laC : SqT K _ la2 (nv (flt q fun x => sq (m - 1 + x))) := SqT.of (sC _ _ (sB _ _ (sA _ _ e9)))
  exact ⟨m - 1, la2, ta2, rfl, ((((s7.trans s79).trans sA).trans sB).trans sC), ⟨bl2, la2, SqT.of upd_same, SqT.of (sC _ _ upd_same), laC⟩, laC, perd, by omega, rfl⟩
end
end My

set_option Elab.async false
set_option linter.all false
set_option maxRecDepth 100000
set_option maxHeartbeats 2000000
namespace My
open PySem L2

open Nm
abbrev sFe : Stmt := top 11
abbrev NFe : List Str := ["script", "base", "one", "rows", "seed"]
theorem scFe : FnScope ["script", "base", "one", "rows", "seed"] ["script", "base"] (defScope sFe) := ⟨rfl, rfl, rfl, by decide +kernel, rfl, by decide +kernel, by decide +kernel⟩
abbrev sTa : Stmt := top 12
abbrev NTa : List Str := ["feed", "wide", "rows", "one"]
theorem scTa : FnScope ["feed", "wide", "rows", "one"] ["feed", "wide"] (defScope sTa) := ⟨rfl, rfl, rfl, by decide +kernel, rfl, by decide +kernel, by decide +kernel⟩
/-! ### the source of draws -/
abbrev kRows : Key := Sum.inr "rows"
abbrev kSeed : Key := Sum.inr "seed"
/-- at f: the source of draws; at c: its great numbers -/
def Feed (H : Hp) (f c : Addr) : Prop := ∃ (ns : List Int) (s : Int), H f = some (.dK [(kRows, .ref c), (kSeed, .int s)]) ∧ H c = some (.lst (ns.map V.int)) ∧ ns.length ≤ 63
/-- all stands as it was but what lies at x and y -/
def Kp (x y : Addr) (H H' : Hp) : Prop := ∀ b o, H b = some o → b ≠ x → b ≠ y → H' b = some o
theorem Kp.refl {x y : Addr} (H : Hp) : Kp x y H H := fun _ _ h _ _ => h
theorem Kp.trans {x y : Addr} {H H1 H2 : Hp} (a : Kp x y H H1) (b : Kp x y H1 H2) : Kp x y H H2 := fun c o h n m => b c o (a c o h n m) n m
theorem Kp.same {x y : Addr} {H H' : Hp} (a : Same H H') : Kp x y H H' := fun c o h _ _ => a c o h
theorem Kp.new {x y p : Addr} {o : HO} {H : Hp} (h : H p = none) : Kp x y H (upd H p o) := Kp.same (Same.new h)
theorem Kp.at1 {x y : Addr} {o : HO} {H : Hp} : Kp x y H (upd H x o) := fun c u e n _ => by rw [upd_ne n]; exact e
theorem Kp.at2 {x y : Addr} {o : HO} {H : Hp} : Kp x y H (upd H y o) := fun c u e _ n => by rw [upd_ne n]; exact e
theorem Feed.keep {H H' : Hp} {f c : Addr} (d : Feed H f c) (s : Same H H') : Feed H' f c := by
  obtain ⟨ns, a, h1, h2, h3⟩ := d
  exact ⟨ns, a, s _ _ h1, s _ _ h2, h3⟩
theorem Feed.ne {H : Hp} {f c : Addr} (d : Feed H f c) : f ≠ c := by
  obtain ⟨ns, s, h1, h2, _⟩ := d
  exact ne_of h1 h2 (by intro z; cases z)
/-- _law_feed(script, base) -/
def spFe (K : PySem.W.Frag) : Sp := fun vs H Q _ => ∃ (a : Addr) (ns : List Int) (b : Int), vs = [.ref a, .int b] ∧ SqL K H a (ns.map V.int) ∧ ns.length ≤ 63 ∧
  ∀ (f c : Addr) (H' : Hp), Same H H' → Feed H' f c → H f = none → H c = none → Q (.ref f) H'
/-- _law_take(feed, wide) -/
def spTa : Sp := fun vs H Q _ => ∃ (f c : Addr) (wd : Nat), vs = [.ref f, .int (wd : Int)] ∧ 0 < wd ∧ wd < 1000000 ∧ Feed H f c ∧
  ∀ (r : Nat) (H' : Hp), r < wd → Feed H' f c → Kp f c H H' → Q (.int (r : Int)) H'
theorem cut_ints (ns : List Int) (h : ns.length ≤ 63) (lo hi : Option Int) : ∃ ms : List Int, cutV (ns.map V.int) lo hi = ms.map V.int ∧ ms.length ≤ 63 := by
  refine ⟨(ns.drop (HT.sIx (ns.map V.int).length 0 lo)).take (HT.sIx (ns.map V.int).length (ns.map V.int).length hi - HT.sIx (ns.map V.int).length 0 lo), ?_, ?_⟩
  · unfold cutV
    rw [List.map_take, List.map_drop]
  · rw [List.length_take, List.length_drop]
    omega
theorem int_mem {ns : List Int} {x : V} (h : x ∈ ns.map V.int) : ∃ z ∈ ns, x = V.int z := by
  obtain ⟨z, hz, e⟩ := List.mem_map.mp h
  exact ⟨z, hz, e.symm⟩
theorem ints_at {ns : List Int} {i : Nat} {x : V} (h : (ns.map V.int)[i]? = some x) : ∃ z : Int, x = V.int z := by
  obtain ⟨z, _, e⟩ := int_mem (List.mem_of_getElem? h)
  exact ⟨z, e⟩
theorem big_some : ∀ qs : List Int, (qs.map V.int).filterMap (fun x => match x with | .int z => if z ≥ 10 ^ 18 then some (V.int z) else none | _ => none) = (qs.filter fun z => decide (z ≥ 10 ^ 18)).map V.int
  | [] => rfl
  | z :: qs => by
    rw [List.map_cons, List.filterMap_cons, List.filter_cons, big_some qs]
    by_cases h : z ≥ 10 ^ 18
    · rw [if_pos (decide_eq_true h)]
      simp only [if_pos h, List.map_cons]
    · rw [if_neg (by rw [decide_eq_true_eq]; exact h)]
      simp only [if_neg h]
theorem dp_ints {K : PySem.W.Frag} {H : Hp} : ∀ ns : List Int, DpAll K H (ns.map V.int) (ns.map PyData.int)
  | [] => .nil
  | n :: r => .cons (.int n) (dp_ints r)
theorem eqv_lnil : PyData.eqv (.list (([] : List Int).map PyData.int)) (.list []) = true := rfl
theorem eqv_lsnoc : ∀ (ms : List Int) (z : Int), PyData.eqv (.list ((ms ++ [z]).map PyData.int)) (.list []) = false
  | [], _ => rfl
  | _ :: _, _ => rfl
theorem map_snoc (ms : List Int) (z : Int) : (ms ++ [z]).map V.int = ms.map V.int ++ [V.int z] := by simp
theorem snoc_last (xs : List V) (v : V) : (xs ++ [v])[(xs ++ [v]).length - 1]? = some v := by simp
theorem snoc_drop (xs : List V) (v : V) : (xs ++ [v]).dropLast = xs := by simp
theorem exit_first {c : TT} {tb : TS} {D : Ends} {σ : St} {H : Hp} (Ex : St → Hp → Prop) (hx : ∀ σ H, Ex σ H → D.nx σ H) (h : (∀ σ H, Ex σ H → D.nx σ H) → tWhile c tb D σ H) : tWhile c tb D σ H := h hx
theorem line63 {n : Nat} (h : n ≤ 63) : n < sizeLine := by rw [sizeLine_eq]; omega
theorem wide_nat {z : Int} {wd : Nat} (h : 0 < wd) : ∃ r : Nat, r < wd ∧ z % (wd : Int) = (r : Int) := by
  have h1 : 0 ≤ z % (wd : Int) := Int.emod_nonneg _ (by omega)
  have h2 : z % (wd : Int) < (wd : Int) := Int.emod_lt_of_pos _ (by omega)
  exact ⟨(z % (wd : Int)).toNat, by omega, by omega⟩
section
variable {P : Program} {w : World} {K : PySem.W.Frag} {mg : Str → Option Value} {base : Heap}
theorem ok_fe {f : Addr} {fd : FuncData} (F : Fun K "_law_feed" "_law_feed" sFe f fd) (z_int : mg "int" = none) (z_abs : mg "abs" = none) : FnOk P w K mg base CX0 1 f fd ["script", "base"] (spFe K) := by
  refine F.ok scFe (fun vs H Q E h => ?_) (fun cdv A outer s H vs Q E hr h => ?_)
  · obtain ⟨_, _, _, rfl, _⟩ := h
    rfl
  obtain ⟨a, ns, b, rfl, hS, h63, k⟩ := h
  refine ⟨_, (pss_cons (ps_setLc (i := 3) (own := [("one", 2)]) (g := gName 2) (tt := tYes) rfl scFe.nd rfl rfl (sw_true rfl rfl rfl (by decide +kernel)) (pi_list (pe_slice sl_list (pv 0) (po_some (pv 1)) (po_some pe_int))) (blkOk_by (own := [("one", 2)]) (N := NFe) (sc := defScope sFe) (by decide +kernel)) (fun _ _ _ _ _ => (pg_name (i := 2) scFe.nd rfl (Or.inl rfl))) (fun _ _ _ _ _ => pts_nil) (fun _ _ _ _ _ => (pe_callB call_abs rfl z_abs (by decide +kernel) (pa_cons (pe_callTy call_int1 rfl z_int (by decide +kernel) (pa_cons (pv 2) pa_nil)) pa_nil))))
  (pss_cons (ps_set (i := 4) scFe.nd rfl (.inl rfl) (pe_op op_add pe_int (pe_op op_mul pe_int (pv 1))))
  (pss_cons (ps_for PassesOwn.never rfl (pi_list (pv 3)) (pg_name (i := 2) scFe.nd rfl (.inl rfl)) (pss_one (ps_set (i := 4) scFe.nd rfl (.inl rfl) (pe_op op_mod (pe_callTy call_int1 rfl z_int (by decide +kernel) (pa_cons (pe_op op_add (pe_op op_add (pe_op op_mul (pv 4) pe_int) (pe_op op_mod (pe_callTy call_int1 rfl z_int (by decide +kernel) (pa_cons (pv 2) pa_nil)) pe_int)) pe_int) pa_nil)) pe_int))))
  (pss_one (ps_ret (pe_disp (pps_cons pe_str (pe_revL2 (pe_lc (own := [("one", 2)]) (g := gName 2) rfl scFe.nd (pi_list (pv 3)) (blkOk_by (own := [("one", 2)]) (N := NFe) (sc := defScope sFe) (by decide +kernel)) (fun _ _ _ _ _ => (pg_name (i := 2) scFe.nd rfl (Or.inl rfl))) (fun _ _ _ _ _ => (pts_one (pt_cmpR op_ge (pv 2) (pe_op op_pow pe_int pe_int) (nomark _)))) (fun _ _ _ _ _ => (pv 2)))) (pps_cons pe_str (pv 4) pps_nil)) rfl rfl (fun z => by cases z) (by decide))))))), ?_⟩
  -- rows = [abs(int(one)) for one in script[base:58]]
  obtain ⟨ms, em, hm⟩ := cut_ints ns h63 (some b) (some 58)
  refine ⟨_, rfl, ⟨_, rfl, b, rfl, 58, rfl, a, _, rfl, hS, fun p hp => ⟨p, rfl, ⟨_, SqL.of upd_same⟩, ?_⟩⟩⟩
  intro L hL
  rw [em] at hL ⊢
  have s0 : Same H (upd H p (.lst (ms.map V.int))) := Same.new hp
  have e0 : (upd H p (.lst (ms.map V.int))) p = some (.lst (ms.map V.int)) := upd_same
  generalize (upd H p (.lst (ms.map V.int))) = H0 at hL s0 e0 ⊢
  refine lc_s (walk_list (K := K) (a := p)) (fun x => match x with | .int z => some (.int (if z < 0 then -z else z)) | _ => none) hL (by rw [List.length_map]; exact line63 hm) (fun H' s => SqL.of (s _ _ e0)) ?_ ?_
  · intro x H1 hx s1 OK NO ok no
    obtain ⟨z, _, rfl⟩ := int_mem hx
    exact ⟨rfl, _, rfl, .inl ⟨_, rfl, _, rfl, ok _ _ (fun _ _ e => e) rfl⟩⟩
  intro H1 s1 e1
  obtain ⟨qs, eq, hq⟩ : ∃ qs : List Int, (ms.map V.int).filterMap (fun x => match x with | .int z => some (V.int (if z < 0 then -z else z)) | _ => none) = qs.map V.int ∧ qs.length ≤ 63 := by
    refine ⟨ms.map fun z => if z < 0 then -z else z, ?_, by rw [List.length_map]; exact hm⟩
    rw [List.filterMap_map, List.map_map, ← List.filterMap_eq_map]
    rfl
  rw [eq] at e1
  -- seed
  refine ⟨_, rfl, _, _, rfl, rfl, .inl ⟨by decide, by decide⟩, _, _, rfl, rfl, ?_⟩
  refine ⟨_, rfl, L, rfl, ⟨_, SqL.of e1⟩, for_list (K := K) (a := L) (xs := qs.map V.int) (fun i σ H2 => H2 = H1 ∧ ∃ (v : Option V) (st : Int), σ = [some (.ref a), some (.int b), v, some (.ref L), some (.int st)]) ⟨rfl, _, _, rfl⟩
    (fun i σ H2 _ ⟨e, _⟩ => by rw [e]; exact SqL.of e1) ?_ ?_⟩
  · rintro i x σ H2 hx ⟨rfl, v, st, rfl⟩
    obtain ⟨z, rfl⟩ := ints_at hx
    refine ⟨_, rfl, _, _, rfl, rfl, .inr ⟨by decide, by decide⟩, _, rfl, .inl ⟨_, rfl, _, _, rfl, rfl, (by show (0 : Int) < 2147483477; decide), _, _, rfl, rfl, _, _, rfl, rfl, .inl ⟨_, rfl, _, _, rfl, rfl, (by show (0 : Int) < 2147483549; decide), ?_⟩⟩⟩
    exact ⟨rfl, _, _, rfl⟩
  rintro σ H2 ⟨e2, v, st, rfl⟩
  obtain rfl : H1 = H2 := e2.symm
  -- the dict
  intro D hD
  refine ⟨_, rfl, L, rfl, ⟨_, SqL.of (Same.new hD _ _ e1)⟩, fun M hM => ?_⟩
  have s2 : Same H1 (upd H1 D (.dK [])) := Same.new hD
  have eD : (upd H1 D (.dK [])) D = some (.dK []) := upd_same
  generalize (upd H1 D (.dK [])) = H2 at hM s2 eD ⊢
  refine lc_s (walk_list (K := K) (a := L)) (fun x => match x with | .int z => if z ≥ 10 ^ 18 then some (.int z) else none | _ => none) hM (by rw [List.length_map]; exact line63 hq) (fun H' s => SqL.of (s _ _ (s2 _ _ e1))) ?_ ?_
  · intro x H3 hx s3 OK NO ok no
    obtain ⟨z, _, rfl⟩ := int_mem hx
    refine ⟨rfl, _, rfl, _, _, rfl, rfl, ⟨by decide, by decide, by decide⟩, _, _, rfl, rfl, _, rfl, ?_⟩
    by_cases h : z ≥ 10 ^ 18
    · refine iteT' (decide_eq_true h) ?_
      exact ⟨_, rfl, ok _ _ (fun _ _ e => e) (if_pos h)⟩
    · refine iteF' (decide_eq_false h) ?_
      exact no _ (fun _ _ e => e) (if_neg h)
  intro H3 s3 e3
  obtain ⟨rs, er, hrs⟩ : ∃ rs : List Int, (qs.map V.int).filterMap (fun x => match x with | .int z => if z ≥ 10 ^ 18 then some (V.int z) else none | _ => none) = rs.map V.int ∧ rs.length ≤ 63 := by
    refine ⟨qs.filter fun z => decide (z ≥ 10 ^ 18), ?_, Nat.le_trans (List.length_filter_le _ _) hq⟩
    exact big_some qs
  rw [er] at e3
  refine ⟨M, _, rfl, SqL.of e3, fun c hc => ?_⟩
  have s4 : Same H3 (upd H3 c (.lst (rs.map V.int).reverse)) := Same.new hc
  have ec : (upd H3 c (.lst (rs.map V.int).reverse)) c = some (.lst (rs.map V.int).reverse) := upd_same
  generalize (upd H3 c (.lst (rs.map V.int).reverse)) = H4 at s4 ec ⊢
  refine ⟨_, rfl, s4 _ _ (s3 _ _ eD), [(kRows, .ref c), (kSeed, .int st)], rfl, (by show 2 ≤ 15; decide), ?_⟩
  have hD0 : H D = none := (s0.trans s1).free hD
  have hc0 : H c = none := (((s0.trans s1).trans s2).trans s3).free hc
  have ncD : c ≠ D := fun z => by
    subst z
    rw [s3 _ _ eD] at hc
    cases hc
  refine k D c _ (fun b o e => ?_) ⟨rs.reverse, st, upd_same, ?_, by rw [List.length_reverse]; exact hrs⟩ hD0 hc0
  · rw [upd_ne (ne_of_none e hD0)]
    exact s4 _ _ (s3 _ _ (s2 _ _ (s1 _ _ (s0 _ _ e))))
  · rw [upd_ne ncD, ec, List.map_reverse]
end
end My

set_option Elab.async false
set_option linter.all false
set_option maxRecDepth 100000
set_option maxHeartbeats 2000000
namespace My
open PySem L2

open Nm
theorem nsnoc (ms : List Int) (z : Int) : (!(PyData.eqv (.list ((ms ++ [z]).map PyData.int)) (.list (([] : List Int).map PyData.int)))) = true := by
  have := eqv_lsnoc ms z
  show (!(PyData.eqv (.list ((ms ++ [z]).map PyData.int)) (.list []))) = true
  rw [this]
  rfl
theorem ne_keys : ¬ kRows = kSeed := by decide +kernel
theorem get_rows (x y : V) : valV [(kRows, x), (kSeed, y)] kRows = some x := valV_pos rfl
theorem get_seed (x y : V) : valV [(kRows, x), (kSeed, y)] kSeed = some y := by rw [valV_neg ne_keys]; exact valV_pos rfl
theorem put_seed (x y z : V) : putK [(kRows, x), (kSeed, y)] kSeed z = [(kRows, x), (kSeed, z)] := by
  unfold putK
  rw [if_pos (by simp)]
  rw [List.map_cons, List.map_cons, List.map_nil, if_neg ne_keys, if_pos rfl]
theorem dg_rows {H : Hp} {f : Addr} {x y : V} (h : H f = some (.dK [(kRows, x), (kSeed, y)])) : DGet H f (.str "rows") (some x) := by
  have := DGet.k (k := kRows) h
  rw [get_rows] at this
  exact this
theorem dg_seed {H : Hp} {f : Addr} {x y : V} (h : H f = some (.dK [(kRows, x), (kSeed, y)])) : DGet H f (.str "seed") (some y) := by
  have := DGet.k (k := kSeed) h
  rw [get_seed] at this
  exact this
theorem dp_seed {H : Hp} {f : Addr} {x y z : V} (h : H f = some (.dK [(kRows, x), (kSeed, y)])) : DPut H f (.str "seed") z (upd H f (.dK [(kRows, x), (kSeed, z)])) := by
  have := DPut.k (k := kSeed) (v := z) h (by rw [sizeLine_eq]; show 2 < _; decide)
  rw [put_seed] at this
  exact this
section
variable {P : Program} {w : World} {K : PySem.W.Frag} {mg : Str → Option Value} {base : Heap}
theorem ok_ta {f : Addr} {fd : FuncData} (F : Fun K "_law_take" "_law_take" sTa f fd) (z_int : mg "int" = none) : FnOk P w K mg base CX0 1 f fd ["feed", "wide"] spTa := by
  refine F.ok scTa (fun vs H Q E h => ?_) (fun cdv A outer s H vs Q E hr h => ?_)
  · obtain ⟨_, _, _, rfl, _⟩ := h
    rfl
  obtain ⟨f, c, wd, rfl, hw0, hw1, D, k⟩ := h
  have hu := hu_of hr
  have hne : f ≠ c := D.ne
  refine ⟨_, (pss_cons (ps_set (i := 2) scTa.nd rfl (.inl rfl) (pe_dget hu (pv 0) pe_str (fun _ _ => rfl)))
  (pss_cons (ps_while PassesOwn.never (PW.pt (pw_and (pt_cmpR (op_neD hr.units) (pv 2) (pe_lst pa_nil) (nomark _)) (pw_and1 (pt_cmpR op_eq (pe_ix ix_list (pv 2) (pe_un un_neg pe_int) (fun _ _ => rfl)) pe_int (nomark _))))) (pss_one (ps_expr (pe_bm0 PySem.F.plainAttrs_list PySem.F.slot_list_pop PySem.F.type_list_pop mt_pop (pv 2)))))
  (pss_cons (ps_if (pt_cmpR (op_neD hr.units) (pv 2) (pe_lst pa_nil) (nomark _)) (pss_cons (ps_set (i := 3) scTa.nd rfl (.inl rfl) (pe_bm0 PySem.F.plainAttrs_list PySem.F.slot_list_pop PySem.F.type_list_pop mt_pop (pv 2)))
    (pss_cons (ps_expr (pe_bm PySem.F.plainAttrs_list PySem.F.slot_list_append PySem.F.type_list_append mt_append (pv 2) (pa_cons (pe_op op_fdiv (pv 3) (pv 1)) pa_nil)))
    (pss_one (ps_ret (pe_op op_mod (pe_callTy call_int1 rfl z_int (by decide +kernel) (pa_cons (pv 3) pa_nil)) (pv 1)))))) pss_nil)
  (pss_cons (ps_dput hu (pv 0) pe_str (pe_op op_mod (pe_callTy call_int1 rfl z_int (by decide +kernel) (pa_cons (pe_op op_add (pe_op op_mul (pe_dget hu (pv 0) pe_str (fun _ _ => rfl)) pe_int) pe_int) pa_nil)) pe_int) rfl)
  (pss_one (ps_ret (pe_op op_mod (pe_callTy call_int1 rfl z_int (by decide +kernel) (pa_cons (pe_op op_fdiv (pe_dget hu (pv 0) pe_str (fun _ _ => rfl)) pe_int) pa_nil)) (pv 1)))))))), ?_⟩
  -- rows = feed['rows']
  refine ⟨_, rfl, f, .ref c, rfl, (by obtain ⟨ns, s, h1, _⟩ := D; exact dg_rows h1), ?_⟩
  dsimp only [gName]
  refine seq_first (fun σ H1 => σ = [some (.ref f), some (.int (wd : Int)), some (.ref c), none] ∧ Feed H1 f c ∧ Kp f c H H1) ?rest fun rest => ?loop
  case rest =>
    rintro σ H1 ⟨rfl, ⟨ns, s, h1, h2, h3⟩, kp⟩
    refine ⟨_, rfl, (by show 0 ≤ sizeLine; decide), fun p hp => ?_⟩
    have kp' : Kp f c H (upd H1 p (.lst [])) := kp.trans (Kp.new hp)
    have h1' : (upd H1 p (.lst [])) f = some (.dK [(kRows, .ref c), (kSeed, .int s)]) := Same.new hp _ _ h1
    have h2' : (upd H1 p (.lst [])) c = some (.lst (ns.map V.int)) := Same.new hp _ _ h2
    refine ⟨.list (ns.map PyData.int), .list (([] : List Int).map PyData.int), Dp.lst (SqL.of h2') (dp_ints ns), Dp.lst (SqL.of upd_same) .nil, PySem.W.ke_shaped_ints ns, PySem.W.ke_shaped_ints [], _, rfl, ?_⟩
    rcases List.eq_nil_or_concat ns with rfl | ⟨ms, z, e⟩
    · refine iteF' (by rw [show ([] : List Int).map PyData.int = [] from rfl] <;> rfl) ?_
      -- feed['seed'] = ..
      refine ⟨_, rfl, f, .int s, rfl, dg_seed h1', _, _, rfl, rfl, .inr ⟨by decide, by decide⟩, _, _, rfl, rfl, .inl ⟨_, rfl, _, _, rfl, rfl, (by show (0 : Int) < 2147483549; decide), _, rfl, f, _, rfl, dp_seed h1', ?_⟩⟩
      refine ⟨_, rfl, f, _, rfl, dg_seed upd_same, _, _, rfl, rfl, ⟨by decide, by decide⟩, .inl ⟨_, rfl, _, rfl, _, _, rfl, rfl, (by show (0 : Int) < (wd : Int); omega), ?_⟩⟩
      obtain ⟨r, hr1, hr2⟩ := wide_nat (z := (s * 39709 + 1231) % 2147483549 / 64) hw0
      have := k r (upd (upd H1 p (.lst [])) f (.dK [(kRows, .ref c), (kSeed, .int ((s * 39709 + 1231) % 2147483549))])) hr1 ⟨[], _, upd_same, by rw [upd_ne hne.symm]; exact h2', by decide⟩ (kp'.trans Kp.at1)
      rw [← hr2] at this
      exact this
    · rw [List.concat_eq_append] at e
      subst e
      refine iteT' (nsnoc ms z) ?_
      rw [map_snoc] at h2'
      rw [List.length_append, List.length_singleton] at h3
      -- one = rows.pop()
      refine ⟨_, rfl, .inl ⟨rfl, _, SqL.of h2'⟩, c, _, .int z, rfl, rfl, h2', snoc_last _ _, ?_⟩
      rw [snoc_drop]
      have g1 : (upd (upd H1 p (.lst [])) c (.lst (ms.map V.int))) f = some (.dK [(kRows, .ref c), (kSeed, .int s)]) := by rw [upd_ne hne]; exact h1'
      have g2 : (upd (upd H1 p (.lst [])) c (.lst (ms.map V.int))) c = some (.lst (ms.map V.int)) := upd_same
      have kp2 : Kp f c H (upd (upd H1 p (.lst [])) c (.lst (ms.map V.int))) := kp'.trans Kp.at2
      generalize (upd (upd H1 p (.lst [])) c (.lst (ms.map V.int))) = H2 at g1 g2 kp2 ⊢
      -- rows.append(one // wide)
      refine ⟨_, rfl, .inl ⟨rfl, _, SqL.of g2⟩, _, rfl, _, rfl, _, _, rfl, rfl, ⟨(by omega), (by omega)⟩, c, _, _, rfl, rfl, g2, (by rw [List.length_map]; exact line63 (by omega)), ?_⟩
      refine ⟨_, rfl, .inl ⟨_, rfl, _, rfl, _, _, rfl, rfl, (by show (0 : Int) < (wd : Int); omega), ?_⟩⟩
      obtain ⟨r, hr1, hr2⟩ := wide_nat (z := z) hw0
      have := k r (upd H2 c (.lst (ms.map V.int ++ [.int (z / (wd : Int))]))) hr1 ⟨ms ++ [z / (wd : Int)], s, by rw [upd_ne hne]; exact g1, by rw [map_snoc]; exact upd_same, by rw [List.length_append, List.length_singleton]; omega⟩ (kp2.trans Kp.at2)
      rw [← hr2] at this
      exact this
  case loop =>
    refine ⟨fun m σ H1 => ∃ (ns : List Int) (s : Int), σ = [some (.ref f), some (.int (wd : Int)), some (.ref c), none] ∧ H1 f = some (.dK [(kRows, .ref c), (kSeed, .int s)]) ∧ H1 c = some (.lst (ns.map V.int)) ∧ ns.length ≤ 63 ∧ Kp f c H H1 ∧ m = ns.length, ?_, ?_⟩
    · obtain ⟨ns, s, h1, h2, h3⟩ := D
      exact ⟨_, ns, s, rfl, h1, h2, h3, Kp.refl _, rfl⟩
    rintro m σ H1 ⟨ns, s, rfl, h1, h2, h3, kp, rfl⟩
    refine ⟨_, rfl, (by show 0 ≤ sizeLine; decide), fun p hp => ?_⟩
    have kp' : Kp f c H (upd H1 p (.lst [])) := kp.trans (Kp.new hp)
    have h1' : (upd H1 p (.lst [])) f = some (.dK [(kRows, .ref c), (kSeed, .int s)]) := Same.new hp _ _ h1
    have h2' : (upd H1 p (.lst [])) c = some (.lst (ns.map V.int)) := Same.new hp _ _ h2
    refine ⟨.list (ns.map PyData.int), .list (([] : List Int).map PyData.int), Dp.lst (SqL.of h2') (dp_ints ns), Dp.lst (SqL.of upd_same) .nil, PySem.W.ke_shaped_ints ns, PySem.W.ke_shaped_ints [], _, rfl, ?_⟩
    rcases List.eq_nil_or_concat ns with rfl | ⟨ms, z, e⟩
    · refine iteF' (by rw [show ([] : List Int).map PyData.int = [] from rfl] <;> rfl) ?_
      refine iteF ?_
      exact rest _ _ ⟨rfl, ⟨[], s, h1', h2', h3⟩, kp'⟩
    · rw [List.concat_eq_append] at e
      subst e
      refine iteT' (nsnoc ms z) ?_
      have h2a := h2'
      rw [map_snoc] at h2a
      refine ⟨_, rfl, 1, rfl, c, _, -1, .int z, rfl, rfl, SqL.of h2a, atI_last _ _, rfl, _, rfl, ?_⟩
      refine ite2 (fun _ => ?_) (fun _ => ?_)
      · refine ⟨fun σ' H' => ∃ (ns : List Int) (s : Int), σ' = [some (.ref f), some (.int (wd : Int)), some (.ref c), none] ∧ H' f = some (.dK [(kRows, .ref c), (kSeed, .int s)]) ∧ H' c = some (.lst (ns.map V.int)) ∧ ns.length ≤ 63 ∧ Kp f c H H' ∧ ms.length = ns.length, ?_, ?_⟩
        · rintro σ' H' ⟨ns', s', w1, w2, w3, w4, w5, w6⟩
          exact ⟨ms.length, by rw [List.length_append, List.length_singleton]; omega, ns', s', w1, w2, w3, w4, w5, w6⟩
        · refine ⟨_, rfl, .inl ⟨rfl, _, SqL.of h2a⟩, c, _, .int z, rfl, rfl, h2a, snoc_last _ _, ?_⟩
          rw [snoc_drop]
          refine ⟨ms, s, rfl, ?_, upd_same, ?_, kp'.trans Kp.at2, rfl⟩
          · rw [upd_ne hne]
            exact h1'
          · rw [List.length_append, List.length_singleton] at h3
            omega
      · exact rest _ _ ⟨rfl, ⟨ms ++ [z], s, h1', h2', h3⟩, kp'⟩
end
end My

set_option Elab.async false
set_option linter.all false
set_option maxRecDepth 100000
set_option maxHeartbeats 2000000
namespace My
open PySem L2

open Nm
abbrev sDt : Stmt := top 14
abbrev NDt : List Str := ["feed", "tail", "period", "some", "rests", "n"]
theorem scDt : FnScope ["feed", "tail", "period", "some", "rests", "n"] ["feed"] (defScope sDt) := ⟨rfl, rfl, rfl, by decide +kernel, rfl, by decide +kernel, by decide +kernel⟩
abbrev sHa : Stmt := top 15
abbrev NHa : List Str := ["told_now", "number", "some", "tail", "period", "rests"]
theorem scHa : FnScope ["told_now", "number", "some", "tail", "period", "rests"] ["told_now", "number"] (defScope sHa) := ⟨rfl, rfl, rfl, by decide +kernel, rfl, by decide +kernel, by decide +kernel⟩
/-- a quadruple as the law draws it -/
def DrT (H : Hp) (a : Addr) (b : List Nat) (t p : Nat) (r : List Nat) : Prop := ∃ sl rl, H a = some (.tup [.ref sl, .int (t : Int), .int (p : Int), .ref rl]) ∧ H sl = some (.lst (nv b)) ∧ H rl = some (.lst (nv r))
theorem DrT.keep {H H' : Hp} {a : Addr} {b r : List Nat} {t p : Nat} (h : DrT H a b t p r) (s : Same H H') : DrT H' a b t p r := by
  obtain ⟨bl, rl, h1, h2, h3⟩ := h
  exact ⟨bl, rl, s _ _ h1, s _ _ h2, s _ _ h3⟩
/-- _law_drawn_told(feed) -/
def spDt (K : PySem.W.Frag) : Sp := fun vs H Q _ => ∃ f c, vs = [.ref f] ∧ Feed H f c ∧
  ∀ (a : Addr) (H' : Hp) (b : List Nat) (t p : Nat) (r : List Nat), Kp f c H H' → DrT H' a b t p r → t ≤ 6 → 0 < p → p ≤ 12 → b.length ≤ 6 → r.length ≤ 12 → (∀ x ∈ r, x < p) → (∀ x ∈ b, x < t) → Q (.ref a) H'
/-- _law_has(told_now, number_now) -/
def spHa (K : PySem.W.Frag) : Sp := fun vs H Q _ => ∃ (a : Addr) (b : List Nat) (t p : Nat) (r : List Nat) (n : Nat), vs = [.ref a, .int (n : Int)] ∧ DrT H a b t p r ∧ 0 < p ∧ Q (.bl (seqOf b t p r n)) H
theorem Kp.at {x y : Addr} {H H' : Hp} {b : Addr} {o ox oy : HO} (k : Kp x y H H') (h : H b = some o) (hx : b ≠ x) (hy : b ≠ y) : H' b = some o := k b o h hx hy
/-- one number more, or none -/
theorem nv_snoc (ns : List Nat) (n : Nat) : nv ns ++ [V.int (n : Int)] = nv (ns ++ [n]) := by simp [nv]
section
variable {P : Program} {w : World} {K : PySem.W.Frag} {mg : Str → Option Value} {base : Heap}
theorem ok_ha {f : Addr} {fd : FuncData} (F : Fun K "_law_has" "_law_has" sHa f fd) : FnOk P w K mg base CX0 1 f fd ["told_now", "number"] (spHa K) := by
  refine F.ok scHa (fun vs H Q E h => ?_) (fun cdv A outer s H vs Q E hr h => ?_)
  · obtain ⟨_, _, _, _, _, _, rfl, _⟩ := h
    rfl
  obtain ⟨a, b, t, p, r, n, rfl, ⟨bl, rl, h1, h2, h3⟩, hp, k⟩ := h
  refine ⟨_, (pss_cons (ps_asg (pv 0) (pg_tup rfl (pgs_cons (pg_name (i := 2) scHa.nd rfl (.inl rfl)) (pgs_cons (pg_name (i := 3) scHa.nd rfl (.inl rfl)) (pgs_cons (pg_name (i := 4) scHa.nd rfl (.inl rfl)) (pgs_cons (pg_name (i := 5) scHa.nd rfl (.inl rfl)) pgs_nil))))))
  (pss_one (ps_ret (pe_ifExp (pt_cmpR op_lt (pv 1) (pv 3) (nomark _)) (pe_cmpR op_in_seq (pv 1) (pv 2) (by with_unfolding_all rfl)) (pe_cmpR op_in_seq (pe_op op_mod (pe_op op_sub (pv 1) (pv 3)) (pv 4)) (pv 5) (by with_unfolding_all rfl)))))), ?_⟩
  refine ⟨_, rfl, a, _, rfl, SqT.of h1, rfl, _, _, rfl, _, _, rfl, _, _, rfl, _, _, rfl, rfl, ?_⟩
  refine ⟨_, rfl, _, rfl, _, _, rfl, rfl, _, rfl, ?_⟩
  by_cases hn : n < t
  · refine iteT' (decide_eq_true (by omega)) ?_
    refine ⟨_, rfl, _, rfl, bl, _, rfl, .inl (SqL.of h2), rfl, nv_flat b, ?_⟩
    rw [seq_lo hn] at k
    rw [inV_nv]
    exact k
  · refine iteF' (decide_eq_false (by omega)) ?_
    refine ⟨_, rfl, _, rfl, _, _, rfl, rfl, _, rfl, _, _, rfl, rfl, (by show (0 : Int) < (p : Int); omega), _, rfl, rl, _, rfl, .inl (SqL.of h3), rfl, nv_flat r, ?_⟩
    rw [seq_hi hn] at k
    show Q (.bl (inV (.int (((n : Int) - (t : Int)) % (p : Int))) (nv r))) H
    rw [subn (by omega), inV_nv]
    exact k
theorem ok_dt {f fTa : Addr} {fd fdTa : FuncData} (F : Fun K "_law_drawn_told" "_law_drawn_told" sDt f fd) (GTa : FnOk P w K mg base CX0 1 fTa fdTa ["feed", "wide"] spTa) (bTa : Binds K fdTa ["feed", "wide"] []) (kTa : PySem.W.keepIn K (.ref fTa) = true) (mTa : mg "_law_take" = some (.ref fTa)) (z_range : mg "range" = none) :
    FnOk P w K mg base CX0 2 f fd ["feed"] (spDt K) := by
  refine F.ok scDt (fun vs H Q E h => ?_) (fun cdv A outer s H vs Q E hr h => ?_)
  · obtain ⟨_, _, rfl, _⟩ := h
    rfl
  obtain ⟨f, c, rfl, D, k⟩ := h
  have nof : ∀ {H1 : Hp} {x : Addr}, Feed H1 f c → H1 x = none → x ≠ f ∧ x ≠ c := fun {H1 x} d hx => by
    obtain ⟨ns, s, h1, h2, _⟩ := d
    exact ⟨fun z => (by rw [z, h1] at hx; cases hx), fun z => (by rw [z, h2] at hx; cases hx)⟩
  refine ⟨_, (pss_cons (ps_asg (pe_tup (pa_cons (pe_call GTa (hr.mono (by decide)) rfl mTa kTa bTa .nil pass0 (pa_cons (pv 0) (pa_cons pe_int pa_nil))) (pa_cons (pe_op op_add pe_int (pe_call GTa (hr.mono (by decide)) rfl mTa kTa bTa .nil pass0 (pa_cons (pv 0) (pa_cons pe_int pa_nil)))) pa_nil))) (pg_tup rfl (pgs_cons (pg_name (i := 1) scDt.nd rfl (.inl rfl)) (pgs_cons (pg_name (i := 2) scDt.nd rfl (.inr rfl)) pgs_nil))))
  (pss_cons (ps_setLc (i := 3) (own := [("n", 5)]) (g := gName 5) rfl scDt.nd rfl rfl (sw_true rfl rfl rfl (by decide +kernel)) (pi_range1 rfl z_range (pa_cons (pv 1) pa_nil)) (blkOk_by (own := [("n", 5)]) (N := NDt) (sc := defScope sDt) (by decide +kernel)) (fun _ _ _ _ _ => (pg_name (i := 5) scDt.nd rfl (Or.inl rfl))) (fun _ _ _ _ _ => (pts_one (pt_cmpR op_eq (pe_call GTa (hr.mono (by decide)) rfl mTa kTa bTa .nil pass0 (pa_cons (pv 0) (pa_cons pe_int pa_nil))) pe_int (nomark _)))) (fun _ _ _ _ _ => (pv 5)))
  (pss_cons (ps_setLc (i := 4) (own := [("n", 5)]) (g := gName 5) rfl scDt.nd rfl rfl (sw_true rfl rfl rfl (by decide +kernel)) (pi_range1 rfl z_range (pa_cons (pv 2) pa_nil)) (blkOk_by (own := [("n", 5)]) (N := NDt) (sc := defScope sDt) (by decide +kernel)) (fun _ _ _ _ _ => (pg_name (i := 5) scDt.nd rfl (Or.inl rfl))) (fun _ _ _ _ _ => (pts_one (pt_cmpR op_eq (pe_call GTa (hr.mono (by decide)) rfl mTa kTa bTa .nil pass0 (pa_cons (pv 0) (pa_cons pe_int pa_nil))) pe_int (nomark _)))) (fun _ _ _ _ _ => (pv 5)))
  (pss_cons (ps_if (pt_cmpR op_eq (pe_call GTa (hr.mono (by decide)) rfl mTa kTa bTa .nil pass0 (pa_cons (pv 0) (pa_cons pe_int pa_nil))) pe_int (nomark _)) (pss_one (ps_asg (pe_tup (pa_cons (pe_op op_cat (pv 4) (pe_lc (own := [("n", 5)]) (g := gName 5) (tt := tYes) rfl scDt.nd (pi_list (pv 4)) (blkOk_by (own := [("n", 5)]) (N := NDt) (sc := defScope sDt) (by decide +kernel)) (fun _ _ _ _ _ => (pg_name (i := 5) scDt.nd rfl (Or.inl rfl))) (fun _ _ _ _ _ => pts_nil) (fun _ _ _ _ _ => (pe_op op_add (pv 5) (pv 2))))) (pa_cons (pe_op op_mul pe_int (pv 2)) pa_nil))) (pg_tup rfl (pgs_cons (pg_name (i := 4) scDt.nd rfl (.inl rfl)) (pgs_cons (pg_name (i := 2) scDt.nd rfl (.inr rfl)) pgs_nil))))) pss_nil)
  (pss_one (ps_ret (pe_tup (pa_cons (pv 3) (pa_cons (pv 1) (pa_cons (pv 2) (pa_cons (pv 4) pa_nil))))))))))), ?_⟩
  -- tail_now, period_now = ..
  refine ⟨_, rfl, f, c, 7, rfl, by decide, by decide, D, fun t H1 ht D1 k1 => ?_⟩
  refine ⟨_, rfl, f, c, 6, rfl, by decide, by decide, D1, fun p0 H2 hp0 D2 k2 => ?_⟩
  refine o_add (k := ((p0 + 1 : Nat) : Int)) (by omega) ?_
  refine ⟨(by show 2 ≤ sizeLine; decide), fun T hT => ?_⟩
  refine ⟨T, _, rfl, SqT.of upd_same, rfl, _, _, rfl, _, _, rfl, rfl, ?_⟩
  have k3 : Kp f c H (upd H2 T (.tup [.int (t : Int), .int ((p0 + 1 : Nat) : Int)])) := (k1.trans k2).trans (Kp.new hT)
  have D3 := D2.keep (Same.new (o := .tup [.int (t : Int), .int ((p0 + 1 : Nat) : Int)]) hT)
  clear D1 D2
  generalize (upd H2 T (.tup [.int (t : Int), .int ((p0 + 1 : Nat) : Int)])) = H3 at k3 D3 ⊢
  -- some_now = [..]
  refine ⟨_, rfl, _, rfl, by omega, by omega, fun S hS => ?_⟩
  refine lc_it (walk_range (lo := 0) (n := ((t : Nat) : Int).toNat)) (fun i H4 => Feed H4 f c ∧ Kp f c H3 H4 ∧ ∃ b : List Nat, H4 S = some (.lst (nv b)) ∧ b.length ≤ i ∧ ∀ x ∈ b, x < i) ⟨D3.keep (Same.new hS), Kp.new hS, [], upd_same, Nat.le_refl _, fun x hx => (nomatch hx)⟩ (fun _ _ _ _ => trivial) ?_ ?_
  · rintro i x H4 H4' hi ⟨D4, k4, b, eb, hb, hb2⟩ ⟨rfl, rfl⟩
    refine ⟨rfl, ?_⟩
    obtain ⟨sf, sc⟩ := nof D3 hS
    refine ⟨_, rfl, f, c, 3, rfl, by decide, by decide, D4, fun z H5 hz D5 k5 => ?_⟩
    have e5 := k5 _ _ eb sf sc
    refine ⟨rfl, _, rfl, ite2 (fun _ => ?_) (fun _ => ?_)⟩
    · refine ⟨_, rfl, nv b, e5, by rw [List.length_map, sizeLine_eq]; omega, ?_, ?_, b ++ [i], ?_, by rw [List.length_append, List.length_singleton]; omega, fun x hx => ?_⟩
      · obtain ⟨ns, s, h1, h2, h3⟩ := D5
        exact ⟨ns, s, by rw [upd_ne (Ne.symm sf)]; exact h1, by rw [upd_ne (Ne.symm sc)]; exact h2, h3⟩
      · intro q o e n1 n2
        rw [upd_ne (fun z => by rw [z, hS] at e; cases e)]
        exact k5 _ _ (k4 _ _ e n1 n2) n1 n2
      · show upd H5 S (.lst (nv b ++ [V.int ((0 : Int) + (i : Int))])) S = _
        rw [Int.zero_add, nv_snoc]
        exact upd_same
      · rcases List.mem_append.mp hx with h | h
        · have := hb2 x h
          omega
        · rw [List.mem_singleton.mp h]
          omega
    · exact ⟨D5, k4.trans k5, b, e5, by omega, fun x hx => by have := hb2 x hx; omega⟩
  rintro H4 ⟨D4, k4, b, eb, hb, hb2⟩
  have ett : ((t : Nat) : Int).toNat = t := by omega
  rw [ett] at hb hb2
  obtain ⟨sf, sc⟩ := nof D3 hS
  -- rests_now = [..]
  refine ⟨_, rfl, _, rfl, by omega, by omega, fun R hR => ?_⟩
  have nSR : S ≠ R := ne_of_none eb hR
  refine lc_it (walk_range (lo := 0) (n := ((p0 + 1 : Nat) : Int).toNat)) (fun i H5 => Feed H5 f c ∧ Kp f c H4 H5 ∧ ∃ r : List Nat, H5 R = some (.lst (nv r)) ∧ r.length ≤ i ∧ ∀ x ∈ r, x < i) ⟨D4.keep (Same.new hR), Kp.new hR, [], upd_same, Nat.le_refl _, fun x hx => (nomatch hx)⟩ (fun _ _ _ _ => trivial) ?_ ?_
  · rintro i x H5 H5' hi ⟨D5, k5, r, er, hr1, hr2⟩ ⟨rfl, rfl⟩
    refine ⟨rfl, ?_⟩
    obtain ⟨rf, rc⟩ := nof D4 hR
    refine ⟨_, rfl, f, c, 3, rfl, by decide, by decide, D5, fun z H6 hz D6 k6 => ?_⟩
    have e6 := k6 _ _ er rf rc
    refine ⟨rfl, _, rfl, ite2 (fun _ => ?_) (fun _ => ?_)⟩
    · refine ⟨_, rfl, nv r, e6, by rw [List.length_map, sizeLine_eq]; omega, ?_, ?_, r ++ [i], ?_, by rw [List.length_append, List.length_singleton]; omega, fun x hx => ?_⟩
      · obtain ⟨ns, s, h1, h2, h3⟩ := D6
        exact ⟨ns, s, by rw [upd_ne (Ne.symm rf)]; exact h1, by rw [upd_ne (Ne.symm rc)]; exact h2, h3⟩
      · intro q o e n1 n2
        rw [upd_ne (fun z => by rw [z, hR] at e; cases e)]
        exact k6 _ _ (k5 _ _ e n1 n2) n1 n2
      · show upd H6 R (.lst (nv r ++ [V.int ((0 : Int) + (i : Int))])) R = _
        rw [Int.zero_add, nv_snoc]
        exact upd_same
      · rcases List.mem_append.mp hx with h | h
        · have := hr2 x h
          omega
        · rw [List.mem_singleton.mp h]
          omega
    · exact ⟨D6, k5.trans k6, r, e6, by omega, fun x hx => by have := hr2 x hx; omega⟩
  rintro H5 ⟨D5, k5, r, er, hr1, hr2⟩
  have epp : ((p0 + 1 : Nat) : Int).toNat = p0 + 1 := by omega
  rw [epp] at hr1 hr2
  obtain ⟨rf, rc⟩ := nof D4 hR
  have eb5 := k5 _ _ eb sf sc
  have kH5 : Kp f c H H5 := (k3.trans k4).trans k5
  -- if _law_take(feed, 4) == 0: ..
  dsimp only [gName]
  refine seq_first (fun σ H7 => ∃ (R : Addr) (p : Nat) (r : List Nat), σ = [some (.ref f), some (.int (t : Int)), some (.int (p : Int)), some (.ref S), some (.ref R), none] ∧ Kp f c H H7 ∧ H7 S = some (.lst (nv b)) ∧ H7 R = some (.lst (nv r)) ∧ 0 < p ∧ p ≤ 12 ∧ r.length ≤ 12 ∧ ∀ x ∈ r, x < p) ?_ ?_
  · rintro σ H7 ⟨R, p, r, rfl, k7, b7, r7, hp1, hp2, hp3, hp4⟩
    refine ⟨_, rfl, _, rfl, _, rfl, _, rfl, (by show 4 ≤ sizeLine; decide), fun a ha => ?_⟩
    have s8 := Same.new (o := .tup [.ref S, .int (t : Int), .int (p : Int), .ref R]) ha
    exact k a _ b t p r (k7.trans (Kp.same s8)) ⟨S, R, upd_same, s8 _ _ b7, s8 _ _ r7⟩ (by omega) hp1 hp2 (by omega) hp3 hp4 hb2
  intro rest
  refine ⟨_, rfl, f, c, 4, rfl, by decide, by decide, D5, fun z H6 hz D6 k6 => ?_⟩
  have b6 := k6 _ _ eb5 sf sc
  have r6 := k6 _ _ er rf rc
  have kH6 : Kp f c H H6 := kH5.trans k6
  refine ⟨rfl, _, rfl, ite2 (fun _ => ?_) (fun _ => ?_)⟩
  rotate_left
  · exact rest _ _ ⟨R, p0 + 1, r, rfl, kH6, b6, r6, by omega, by omega, by omega, hr2⟩
  refine ⟨_, rfl, _, rfl, R, rfl, ⟨_, SqL.of r6⟩, fun M hM => ?_⟩
  refine lc_s (walk_list (K := K) (a := R)) (fun x => match x with | .int z => some (.int (((z.toNat + (p0 + 1) : Nat)) : Int)) | _ => none) hM (by rw [List.length_map, sizeLine_eq]; omega) (fun H' s => SqL.of (s _ _ r6)) ?_ ?_
  · intro x H7 hx s7 OK NO ok no
    obtain ⟨y, hy, rfl⟩ := nv_mem hx
    refine ⟨rfl, ?_⟩
    exact ⟨_, rfl, _, rfl, o_add (k := ((y + (p0 + 1) : Nat) : Int)) (by omega) (ok _ _ (fun _ _ e => e) rfl)⟩
  intro H7 s7 eM
  have eM' : H7 M = some (.lst (nv (r.map fun y => y + (p0 + 1)))) := by
    rw [eM]
    unfold nv
    rw [List.filterMap_map, List.map_map, ← List.filterMap_eq_map]
    rfl
  refine ⟨R, M, _, _, rfl, rfl, s7 _ _ r6, eM', (by simp only [List.length_map]; rw [sizeLine_eq]; omega), fun L hL => ?_⟩
  have s8 := Same.new (o := .lst (nv r ++ nv (r.map fun y => y + (p0 + 1)))) hL
  have e8 : (upd H7 L (.lst (nv r ++ nv (r.map fun y => y + (p0 + 1))))) L = some (.lst (nv (r ++ r.map fun y => y + (p0 + 1)))) := by
    rw [upd_same]
    simp [nv]
  generalize (upd H7 L (.lst (nv r ++ nv (r.map fun y => y + (p0 + 1))))) = H8 at s8 e8 ⊢
  refine ⟨_, rfl, _, _, rfl, rfl, .inl ⟨by decide, by decide⟩, (by show 2 ≤ sizeLine; decide), fun T2 hT2 => ?_⟩
  have s9 := Same.new (o := .tup [.ref L, .int ((2 : Int) * ((p0 + 1 : Nat) : Int))]) hT2
  refine ⟨T2, _, rfl, SqT.of upd_same, rfl, _, _, rfl, _, _, rfl, rfl, ?_⟩
  refine rest _ _ ⟨L, 2 * (p0 + 1), r ++ r.map fun y => y + (p0 + 1), ?_, kH6.trans (Kp.same ((s7.trans s8).trans s9)), s9 _ _ (s8 _ _ (s7 _ _ b6)), s9 _ _ e8, by omega, by omega, by rw [List.length_append, List.length_map]; omega, fun x hx => ?_⟩
  · have e2 : (2 : Int) * ((p0 + 1 : Nat) : Int) = ((2 * (p0 + 1) : Nat) : Int) := by omega
    rw [← e2]
    rfl
  · rcases List.mem_append.mp hx with h | h
    · have := hr2 x h
      omega
    · obtain ⟨y, hy, rfl⟩ := List.mem_map.mp h
      have := hr2 y hy
      omega
end
end My

set_option Elab.async false
set_option linter.all false
set_option maxRecDepth 100000
set_option maxHeartbeats 2000000
namespace My
open PySem L2

open Nm
abbrev sLt : Stmt := top 16
abbrev NLt : List Str := ["some", "far", "size", "tail", "below", "n"]
theorem scLt : FnScope ["some", "far", "size", "tail", "below", "n"] ["some", "far"] (defScope sLt) := ⟨rfl, rfl, rfl, by decide +kernel, rfl, by decide +kernel, by decide +kernel⟩
theorem ix_listK {X : Cx} {K : PySem.W.Frag} (hK : X.K = K) : IxR X (rIxL K) := by
  subst hK
  exact ix_list
theorem ix_tupK {X : Cx} {K : PySem.W.Frag} (hK : X.K = K) : IxR X (rIxT K) := by
  subst hK
  exact ix_tup
/-- a row of truths -/
abbrev bv (s : Nat → Bool) (L : Nat) : List V := (List.range L).map fun i => V.bl (s i)
theorem bv_at {s : Nat → Bool} {L n : Nat} (h : n < L) : atI (bv s L) (n : Int) = some (.bl (s n)) := by
  have e : (bv s L)[n]? = some (.bl (s n)) := by
    rw [List.getElem?_map, List.getElem?_range h]
    rfl
  have hn := (List.getElem?_eq_some_iff.mp e).1
  first
    | (rw [atI_nat hn]; exact e)
    | exact (atI_nat e)
    | (simpa [atI_nat] using e)
theorem ones (f : Nat → Bool) : ∀ m, ∃ k : Nat, (List.range m).filterMap (fun i => if f i = true then some (V.int 1) else none) = (List.replicate k (1 : Int)).map V.int ∧ k ≤ m ∧ (k = 0 ↔ ∀ i, i < m → f i = false)
  | 0 => ⟨0, rfl, Nat.le_refl _, fun _ i h => by omega, fun _ => rfl⟩
  | m + 1 => by
    obtain ⟨k, e, hk, h⟩ := ones f m
    rw [List.range_succ, List.filterMap_append, e]
    cases hf : f m with
    | true =>
      refine ⟨k + 1, ?_, by omega, fun z => by omega, fun z => ?_⟩
      · simp [hf, List.replicate_succ']
      · have := z m (by omega)
        rw [hf] at this
        cases this
    | false =>
      refine ⟨k, by simp [hf], by omega, fun z i hi => ?_, fun z => h.mpr fun i hi => z i (by omega)⟩
      by_cases c : i = m
      · rw [c, hf]
      · exact h.mp z i (by omega)
theorem eqv_ones : ∀ k : Nat, PyData.eqv (.list ((List.replicate k (1 : Int)).map PyData.int)) (.list (([] : List Int).map PyData.int)) = decide (k = 0)
  | 0 => rfl
  | k + 1 => by
    rw [List.replicate_succ]
    rfl
theorem trues (s : Nat → Bool) (f : Nat → Nat) (g : Nat → Nat) (m : Nat) : (List.range m).filterMap (fun i => if s (f i) = true then some (V.int ((0 : Int) + (i : Int))) else none) = nv (flt m fun i => s (f i)) := by
  unfold flt nv
  induction List.range m with
  | nil => rfl
  | cons i is ih =>
    rw [List.filterMap_cons, List.filter_cons, ih]
    by_cases h : s (f i) = true
    · simp [h]
    · simp [h]
/-- _law_told(some_now, far) -/
def spLt (K : PySem.W.Frag) : Sp := fun vs H Q _ => ∃ (a : Addr) (far L : Nat) (s : Nat → Bool) (T p : Nat), vs = [.ref a, .int (far : Int)] ∧ H a = some (.lst (bv s L)) ∧ Per s T p ∧ 0 < p ∧ T ≤ far ∧ far + p + p ≤ L ∧ p < far ∧ L ≤ 1000 ∧
  ∀ (a' : Addr) (H' : Hp) (b : List Nat) (t q : Nat) (r : List Nat), Same H H' → Told K H' a' b t q r → Canon s b t q r → Q (.ref a') H'
section
variable {P : Program} {w : World} {K : PySem.W.Frag} {mg : Str → Option Value} {base : Heap}
theorem ok_lt {f : Addr} {fd : FuncData} (F : Fun K "_law_told" "_law_told" sLt f fd) (z_range : mg "range" = none) (z_len : mg "len" = none) (z_tuple : mg "tuple" = none) : FnOk P w K mg base CX0 1 f fd ["some", "far"] (spLt K) := by
  refine F.ok scLt (fun vs H Q E h => ?_) (fun cdv A outer s H vs Q E hr h => ?_)
  · obtain ⟨_, _, _, _, _, _, rfl, _⟩ := h
    rfl
  obtain ⟨a, far, L, sq, T, p, rfl, hA, hper, hp, hT, hL, hpf, hL2, k⟩ := h
  have hlen : (bv sq L).length = L := by rw [List.length_map, List.length_range]
  refine ⟨_, (pss_cons (ps_for PassesOwn.never rfl (pi_range2 rfl z_range (pa_cons pe_int (pa_cons (pv 1) pa_nil))) (pg_name (i := 2) scLt.nd rfl (.inr rfl)) (pss_one (ps_if (pt_cmpR (op_eqD hr.units) (pe_lc (own := [("n", 5)]) (g := gName 5) rfl scLt.nd (pi_range2 rfl z_range (pa_cons (pv 1) (pa_cons (pe_op op_sub (pe_callB call_len_seq rfl z_len (by decide +kernel) (pa_cons (pv 0) pa_nil)) (pv 2)) pa_nil))) (blkOk_by (own := [("n", 5)]) (N := NLt) (sc := defScope sLt) (by decide +kernel)) (fun _ _ _ _ _ => (pg_name (i := 5) scLt.nd rfl (Or.inl rfl))) (fun _ _ _ _ _ => (pts_one (pt_cmpR op_ne (pe_ix (ix_listK (K := K) rfl) (pv 0) (pv 5) (fun _ _ => rfl)) (pe_ix (ix_listK (K := K) rfl) (pv 0) (pe_op op_add (pv 5) (pv 2)) (fun _ _ => rfl)) (nomark _)))) (fun _ _ _ _ _ => pe_int)) (pe_lst pa_nil) (nomark _)) (pss_cons (ps_set (i := 3) scLt.nd rfl (.inr rfl) (pv 1))
      (pss_cons (ps_while PassesOwn.never (PW.pt (pw_and (pt_cmpR op_gt (pv 3) pe_int (nomark _)) (pw_and1 (pt_cmpR op_eq (pe_ix ix_list (pv 0) (pe_op op_sub (pv 3) pe_int) (fun _ _ => rfl)) (pe_ix ix_list (pv 0) (pe_op op_add (pe_op op_sub (pv 3) pe_int) (pv 2)) (fun _ _ => rfl)) (nomark _))))) (pss_one (ps_set (i := 3) scLt.nd rfl (.inr rfl) (pe_op op_sub (pv 3) pe_int))))
      (pss_cons (ps_set (i := 4) scLt.nd rfl (.inl rfl) (pe_callTy call_tupleD rfl z_tuple (by decide +kernel) (pa_cons (pe_lc (own := [("n", 5)]) (g := gName 5) rfl scLt.nd (pi_range1 rfl z_range (pa_cons (pv 3) pa_nil)) (blkOk_by (own := [("n", 5)]) (N := NLt) (sc := defScope sLt) (by decide +kernel)) (fun _ _ _ _ _ => (pg_name (i := 5) scLt.nd rfl (Or.inl rfl))) (fun _ _ _ _ _ => (pts_one (pt_val (pe_ix (ix_listK (K := K) rfl) (pv 0) (pv 5) (fun _ _ => rfl))))) (fun _ _ _ _ _ => (pv 5))) pa_nil)))
      (pss_one (ps_ret (pe_tup (pa_cons (pv 4) (pa_cons (pv 3) (pa_cons (pv 2) (pa_cons (pe_callTy call_tupleD rfl z_tuple (by decide +kernel) (pa_cons (pe_lc (own := [("n", 5)]) (g := gName 5) rfl scLt.nd (pi_range1 rfl z_range (pa_cons (pv 2) pa_nil)) (blkOk_by (own := [("n", 5)]) (N := NLt) (sc := defScope sLt) (by decide +kernel)) (fun _ _ _ _ _ => (pg_name (i := 5) scLt.nd rfl (Or.inl rfl))) (fun _ _ _ _ _ => (pts_one (pt_val (pe_ix (ix_listK (K := K) rfl) (pv 0) (pe_op op_add (pv 3) (pv 5)) (fun _ _ => rfl))))) (fun _ _ _ _ _ => (pv 5))) pa_nil)) pa_nil)))))))))) pss_nil)))
  (pss_one (ps_ret pe_non))), ?_⟩
  refine ⟨_, rfl, 1, _, rfl, ⟨by decide, by decide, by omega, by omega⟩, for_range (lo := 1) (n := ((far : Int) - 1).toNat) (fun i σ H1 => Same H H1 ∧ ∃ v, σ = [some (.ref a), some (.int (far : Int)), v, none, none, none] ∧ ∀ q, 0 < q → q < i + 1 → ¬ ∀ n, far ≤ n → n < L - q → sq n = sq (n + q)) ⟨fun _ _ e => e, none, rfl, fun q h1 h2 => by omega⟩ ?_ ?_⟩
  rotate_left
  · rintro σ H1 ⟨s1, v, rfl, hq⟩
    exact (hq p hp (by omega) fun n h1 h2 => (hper n (by omega)).symm).elim
  rintro i σ H1 hi ⟨s1, v, rfl, hq⟩
  have hA1 := s1 _ _ hA
  rw [show ((1 : Int) + (i : Int)) = ((i + 1 : Nat) : Int) by omega]
  have hq1 : i + 1 < far := by omega
  -- if [1 for n in ..] == []
  refine ⟨_, rfl, _, rfl, a, _, rfl, .inl (SqL.of hA1), _, rfl, o_sub (k := (L : Int) - ((i + 1 : Nat) : Int)) (by rw [hlen]) ?_⟩
  refine ⟨(far : Int), (L : Int) - ((i + 1 : Nat) : Int), rfl, ⟨by omega, by omega, by omega, by omega⟩, fun M hM => ?_⟩
  have em : ((L : Int) - ((i + 1 : Nat) : Int) - (far : Int)).toNat = L - (i + 1) - far := by omega
  rw [em]
  refine lc_f (walk_range (lo := (far : Int)) (n := L - (i + 1) - far)) (fun j => if (sq (far + j) != sq (far + j + (i + 1))) = true then some (V.int 1) else none) hM (by rw [sizeLine_eq]; omega) (fun _ _ => trivial) ?_ ?_
  · rintro j x H2 H2' hj s2 ⟨rfl, rfl⟩ OK NO ok no
    have hA2 := s2 _ _ hA1
    refine ⟨rfl, ?_⟩
    have ej : ((far : Int) + (j : Int)) = ((far + j : Nat) : Int) := by omega
    refine ⟨_, rfl, _, rfl, a, _, ((far : Int) + (j : Int)), .bl (sq (far + j)), rfl, rfl, SqL.of hA2, by rw [ej]; exact bv_at (by omega), ?_⟩
    refine ⟨_, rfl, _, rfl, _, rfl, o_add (k := ((far + j + (i + 1) : Nat) : Int)) (by omega) ?_⟩
    refine ⟨a, _, _, .bl (sq (far + j + (i + 1))), rfl, rfl, SqL.of hA2, bv_at (by omega), rfl, _, rfl, ?_⟩
    have ed : (!decide (V.bl (sq (far + j)) = V.bl (sq (far + j + (i + 1))))) = (sq (far + j) != sq (far + j + (i + 1))) := by
      cases sq (far + j) <;> cases sq (far + j + (i + 1)) <;> rfl
    rw [ed]
    refine ite2 (fun h => ?_) (fun h => ?_)
    · exact ok _ _ (fun _ _ e => e) (if_pos h)
    · exact no _ (fun _ _ e => e) (if_neg h)
  intro H2 s2 eM
  obtain ⟨c, ec, hc, hc0⟩ := ones (fun j => sq (far + j) != sq (far + j + (i + 1))) (L - (i + 1) - far)
  rw [ec] at eM
  refine ⟨(by show 0 ≤ sizeLine; decide), fun N hN => ?_⟩
  have s3 := Same.new (o := .lst []) hN
  refine ⟨.list ((List.replicate c (1 : Int)).map PyData.int), .list (([] : List Int).map PyData.int), Dp.lst (SqL.of (s3 _ _ eM)) (dp_ints _), Dp.lst (SqL.of upd_same) .nil, PySem.W.ke_shaped_ints _, PySem.W.ke_shaped_ints [], _, rfl, ?_⟩
  rw [eqv_ones]
  have hw : c = 0 ↔ ∀ n, far ≤ n → n < L - (i + 1) → sq n = sq (n + (i + 1)) := by
    rw [hc0]
    constructor
    · intro z n h1 h2
      have := z (n - far) (by omega)
      rw [show far + (n - far) = n by omega] at this
      simpa using this
    · intro z j hj
      have := z (far + j) (by omega) (by omega)
      simpa using this
  have s13 : Same H1 (upd H2 N (.lst [])) := s2.trans s3
  generalize (upd H2 N (.lst [])) = H3 at s13 ⊢
  clear s2 s3 eM hM hN
  refine ite2 (fun h => ?_) (fun h => ?_)
  rotate_left
  · refine ⟨s1.trans s13, _, rfl, fun q h1 h2 => ?_⟩
    by_cases e : q = i + 1
    · subst e
      exact fun z => h (decide_eq_true (hw.mpr z))
    · exact hq q h1 (by omega)
  have hwin := hw.mp (of_decide_eq_true h)
  have le_p : i + 1 ≤ p := Nat.le_of_not_lt fun z => hq p hp (by omega) fun n h1 h2 => (hper n (by omega)).symm
  have perq : Per sq T (i + 1) := per_window hper hp hT (by omega) hwin
  have least : ∀ q' N', 0 < q' → Per sq N' q' → i + 1 ≤ q' := fun q' N' h1 h2 => Nat.le_of_not_lt fun z => hq q' h1 z fun n h3 h4 => ((per_any hper hp h2) n (by omega)).symm
  generalize hqq : i + 1 = q at perq least le_p ⊢
  have hq0 : 0 < q := by omega
  have sH3 : Same H H3 := s1.trans s13
  have hA3 := s13 _ _ hA1
  clear hw hc0 ec hwin h
  -- tail_now = far
  refine ⟨_, rfl, ?_⟩
  dsimp only [gName]
  refine seq_first (fun σ H4 => ∃ t : Nat, H4 = H3 ∧ σ = [some (.ref a), some (.int (far : Int)), some (.int (q : Int)), some (.int (t : Int)), none, none] ∧ Per sq t q ∧ t ≤ far ∧ (t = 0 ∨ sq (t - 1 + q) ≠ sq (t - 1))) ?_ ?_
  · rintro σ H4 ⟨t, e4, rfl, pert, htf, low⟩
    obtain rfl : H3 = H4 := e4.symm
    -- below
    refine ⟨_, rfl, _, rfl, by omega, by omega, fun M hM => ?_⟩
    have ett : ((t : Nat) : Int).toNat = t := by omega
    rw [ett]
    refine lc_f (walk_range (lo := 0) (n := t)) (fun j => if sq (id j) = true then some (V.int ((0 : Int) + (j : Int))) else none) hM (by rw [sizeLine_eq]; omega) (fun _ _ => trivial) ?_ ?_
    · rintro j x H5 H5' hj s5 ⟨rfl, rfl⟩ OK NO ok no
      refine ⟨rfl, ?_⟩
      refine ⟨_, rfl, _, rfl, a, _, ((0 : Int) + (j : Int)), .bl (sq j), rfl, rfl, SqL.of (s5 _ _ hA3), by rw [Int.zero_add]; exact bv_at (by omega), _, rfl, ?_⟩
      refine ite2 (fun h => ?_) (fun h => ?_)
      · exact ⟨_, rfl, ok _ _ (fun _ _ e => e) (if_pos h)⟩
      · exact no _ (fun _ _ e => e) (if_neg h)
    intro H5 s5 eM
    rw [trues sq id id t] at eM
    refine ⟨M, _, rfl, .inl ⟨SqL.of eM, fun bl hbl => ?_⟩⟩
    have s6 := Same.new (o := .tup (nv (flt t fun i => sq (id i)))) hbl
    have e6 : (upd H5 bl (.tup (nv (flt t fun i => sq (id i))))) bl = some (.tup (nv (flt t sq))) := upd_same
    have hA6 := s6 _ _ (s5 _ _ hA3)
    have s36 : Same H3 (upd H5 bl (.tup (nv (flt t fun i => sq (id i))))) := s5.trans s6
    generalize (upd H5 bl (.tup (nv (flt t fun i => sq (id i))))) = H6 at s36 e6 hA6 ⊢
    clear s6
    -- the tuple
    refine ⟨_, rfl, _, rfl, _, rfl, _, rfl, _, rfl, by omega, by omega, fun M2 hM2 => ?_⟩
    have eqq : ((q : Nat) : Int).toNat = q := by omega
    rw [eqq]
    refine lc_f (walk_range (lo := 0) (n := q)) (fun j => if sq ((fun j => t + j) j) = true then some (V.int ((0 : Int) + (j : Int))) else none) hM2 (by rw [sizeLine_eq]; omega) (fun _ _ => trivial) ?_ ?_
    · rintro j x H7 H7' hj s7 ⟨rfl, rfl⟩ OK NO ok no
      refine ⟨rfl, ?_⟩
      refine ⟨_, rfl, _, rfl, _, rfl, o_add (k := ((t + j : Nat) : Int)) (by omega) ?_⟩
      refine ⟨a, _, _, .bl (sq (t + j)), rfl, rfl, SqL.of (s7 _ _ hA6), bv_at (by omega), _, rfl, ?_⟩
      refine ite2 (fun h => ?_) (fun h => ?_)
      · exact ⟨_, rfl, ok _ _ (fun _ _ e => e) (if_pos h)⟩
      · exact no _ (fun _ _ e => e) (if_neg h)
    intro H7 s7 eM2
    rw [trues sq (fun j => t + j) id q] at eM2
    refine ⟨M2, _, rfl, .inl ⟨SqL.of eM2, fun rl hrl => ?_⟩⟩
    have s8 := Same.new (o := .tup (nv (flt q fun i => sq (t + i)))) hrl
    refine ⟨(by show 4 ≤ sizeLine; decide), fun a' ha' => ?_⟩
    have s9 := Same.new (o := .tup [.ref bl, .int (t : Int), .int (q : Int), .ref rl]) ha'
    refine k a' _ _ t q _ (sH3.trans (((s36.trans s7).trans s8).trans s9)) ⟨bl, rl, SqT.of upd_same, SqT.of (s9 _ _ (s8 _ _ (s7 _ _ e6))), SqT.of (s9 _ _ upd_same)⟩ ⟨hq0, pert, least, low, rfl, rfl⟩
  intro rest
  -- while tail_now > 0 and ..
  refine ⟨fun m σ H4 => H4 = H3 ∧ σ = [some (.ref a), some (.int (far : Int)), some (.int (q : Int)), some (.int (m : Int)), none, none] ∧ Per sq m q ∧ m ≤ far, ⟨far, rfl, rfl, Per.up perq hT, Nat.le_refl _⟩, ?_⟩
  rintro m σ H4 ⟨e4, rfl, perm, hmf⟩
  obtain rfl : H3 = H4 := e4.symm
  refine ⟨_, rfl, _, _, rfl, rfl, _, rfl, ?_⟩
  by_cases h0 : m = 0
  · refine iteF' (decide_eq_false (by omega)) (iteF ?_)
    exact rest _ _ ⟨m, rfl, rfl, perm, hmf, .inl h0⟩
  refine iteT' (decide_eq_true (by omega)) ?_
  have em1 : (m : Int) - 1 = ((m - 1 : Nat) : Int) := by omega
  refine ⟨_, rfl, _, rfl, c_sub em1 ?_⟩
  refine ⟨a, _, _, .bl (sq (m - 1)), rfl, rfl, SqL.of hA3, bv_at (by omega), ?_⟩
  refine ⟨_, rfl, _, rfl, c_sub em1 ?_⟩
  refine ⟨_, rfl, o_add (k := ((m - 1 + q : Nat) : Int)) (by omega) ?_⟩
  refine ⟨a, _, _, .bl (sq (m - 1 + q)), rfl, rfl, SqL.of hA3, bv_at (by omega), rfl, _, rfl, ?_⟩
  by_cases h1 : sq (m - 1 + q) ≠ sq (m - 1)
  · refine iteF' (decide_eq_false fun e => h1 ?_) ?_
    · injection e with e
      exact e.symm
    · exact rest _ _ ⟨m, rfl, rfl, perm, hmf, .inr h1⟩
  have h1 := Classical.not_not.mp h1
  refine iteT' (decide_eq_true (by rw [h1])) ?_
  refine ⟨fun σ' H' => H' = H3 ∧ σ' = [some (.ref a), some (.int (far : Int)), some (.int (q : Int)), some (.int ((m - 1 : Nat) : Int)), none, none], ?_, ?_⟩
  · rintro σ' H' ⟨e1, e2⟩
    exact ⟨m - 1, by omega, e1, e2, per_down perm (by omega) h1, by omega⟩
  · refine ⟨_, rfl, c_sub em1 ?_⟩
    exact ⟨rfl, rfl⟩
end
end My

set_option Elab.async false
set_option linter.all false
set_option maxRecDepth 100000
set_option maxHeartbeats 2000000
namespace My
open PySem L2

open Nm
/-- a quadruple as data -/
abbrev dTold (b : List Nat) (t p : Nat) (r : List Nat) : PyData := .tuple [dt b, dn t, dn p, dt r]
theorem Told.dp {K : PySem.W.Frag} {H : Hp} {a : Addr} {b r : List Nat} {t p : Nat} (h : Told K H a b t p r) : Dp K H (.ref a) (dTold b t p r) := by
  obtain ⟨bl, rl, h1, h2, h3⟩ := h
  exact .tup h1 (.cons (.tup h2 (dp_nv b)) (.cons (.int _) (.cons (.int _) (.cons (.tup h3 (dp_nv r)) .nil))))
theorem sh_told (b r : List Nat) (t p : Nat) : SeqAt.shaped (dTold b t p r) = true := by
  simp [SeqAt.shaped, PyData.canLay0, PyData.depth, PyData.canLayAll0, PyData.depthAll, lay_nv, dep_nv]
theorem eqv_told (b r : List Nat) (t p : Nat) : PyData.eqv (dTold b t p r) (dTold b t p r) = true := by
  have h := SeqAt.canLay_of_shaped (sh_told b r t p)
  first | exact SeqAt.eqv_refl _ h | exact PyProof.Rows.eqv_refl _ h | exact PySem.eqv_refl _ h
theorem short_nv : ∀ ns : List Nat, (∀ n ∈ ns, n < 10000000) → PyData.leavesShortAll 8 (ns.map dn) = true ∧ PyData.showableAll (ns.map dn) = true ∧ PyData.bulkAll (ns.map dn) = ns.length ∧ PyData.hasDictAll (ns.map dn) = false
  | [], _ => ⟨rfl, rfl, rfl, rfl⟩
  | n :: r, h => by
    obtain ⟨h1, h2, h3, h4⟩ := short_nv r fun m hm => h m (List.mem_cons_of_mem _ hm)
    have hn := h n List.mem_cons_self
    have e : (toString (n : Int)).length ≤ 8 := PySem.int_text_length_le10 (k := 7) (by decide) (by omega)
    refine ⟨?_, ?_, ?_, ?_⟩
    · simp only [List.map_cons, PyData.leavesShortAll, h1, Bool.and_true, PyData.leavesShort, PyData.shown]
      exact decide_eq_true (by rw [PySem.ofString_length]; exact e)
    · simp only [List.map_cons, PyData.showableAll, h2, Bool.and_true, PyData.showable, decide_eq_true_eq]
      refine Nat.lt_of_le_of_lt (m := 24) ?_ (by decide)
      have hz : n < 2 ^ 24 := Nat.lt_of_lt_of_le hn (by decide)
      show (Int.natAbs (n : Int)).log2 ≤ 24
      rw [Int.natAbs_natCast]
      by_cases z : n = 0
      · subst z
        decide
      · exact Nat.le_of_lt ((Nat.log2_lt z).mpr hz)
    · simp only [List.map_cons, PyData.bulkAll, PyData.bulk, h3, List.length_cons]
      omega
    · simp only [List.map_cons, PyData.hasDictAll, PyData.hasDict, h4, Bool.or_false]
theorem show_told {b r : List Nat} {t p : Nat} (hb : ∀ n ∈ b, n < 10000000) (hr : ∀ n ∈ r, n < 10000000) (ht : t < 10000000) (hp : p < 10000000) (lb : b.length ≤ 1000) (lr : r.length ≤ 1000) :
    (dTold b t p r).showable = true ∧ (dTold b t p r).hasDict = false ∧ (dTold b t p r).depth ≤ 60 ∧ (dTold b t p r).shown.length ≤ sizeLine := by
  obtain ⟨b1, b2, b3, b4⟩ := short_nv b hb
  obtain ⟨r1, r2, r3, r4⟩ := short_nv r hr
  obtain ⟨t1, t2, t3, t4⟩ := short_nv [t, p] (by intro n hn; rcases List.mem_cons.mp hn with h | h; · omega
                                                 · rw [List.mem_singleton.mp h]; exact hp)
  simp only [List.map_cons, List.map_nil, PyData.leavesShortAll, PyData.showableAll, Bool.and_true, Bool.and_eq_true] at t1 t2
  refine ⟨?_, ?_, ?_, ?_⟩
  · simp only [PyData.showable, PyData.showableAll, b2, r2, t2, Bool.and_true, Bool.true_and]
    exact Bool.and_eq_true_iff.mpr ⟨t2.1, t2.2⟩
  · simp [PyData.hasDict, PyData.hasDictAll, b4, r4]
  · simp [PyData.depth, PyData.depthAll, dep_nv]
  · have := PySem.PyData.shown_le_bulk 8 (Nat.le_refl _) (dTold b t p r) (by
      simp only [PyData.leavesShort, PyData.leavesShortAll, b1, r1, t1, Bool.and_true, Bool.true_and]
      exact Bool.and_eq_true_iff.mpr ⟨t1.1, t1.2⟩)
    refine Nat.le_trans this ?_
    simp only [PyData.bulk, PyData.bulkAll, b3, r3]
    rw [sizeLine_eq]
    omega
end My

set_option Elab.async false
set_option linter.all false
set_option maxRecDepth 100000
set_option maxHeartbeats 2000000
namespace My
open PySem L2

open Nm
theorem dec0 (m : Nat) : decide (V.int (m : Int) = V.int 0) = decide (m = 0) := by
  rw [Bool.eq_iff_iff, decide_eq_true_eq, decide_eq_true_eq]
  constructor
  · intro h
    injection h with h
    omega
  · intro h
    rw [h]
    rfl
/-- a function of numbers -/
def onN (f : Nat → V) : V → Option V
  | .int z => some (f z.toNat)
  | _ => none
theorem onN_nv {f : Nat → V} : ∀ b : List Nat, (nv b).filterMap (onN f) = b.map f
  | [] => rfl
  | n :: b => by
    show List.filterMap _ (V.int (n : Int) :: nv b) = _
    rw [List.filterMap_cons, onN_nv b]
    rfl
theorem bools {f : Nat → Bool} (b : List Nat) : (nv b).filterMap (onN fun n => V.bl (f n)) = (b.map f).map V.bl := by
  rw [onN_nv, List.map_map]
  rfl
abbrev sIs : Stmt := top 6
abbrev NIs : List Str := ["told", "by", "below", "tail", "period", "rests", "part", "number", "rest"]
theorem scIs : FnScope ["told", "by", "below", "tail", "period", "rests", "part", "number", "rest"] ["told", "by"] (defScope sIs) := ⟨rfl, rfl, rfl, by decide +kernel, rfl, by decide +kernel, by decide +kernel⟩
/-- is_safe_round(told, by) -/
def spIs (K : PySem.W.Frag) : Sp := fun vs H Q _ => ∃ (a : Addr) (b : List Nat) (t p : Nat) (r : List Nat) (q : Nat), vs = [.ref a, .int (q : Int)] ∧ Told K H a b t p r ∧ 0 < q ∧ 0 < p ∧ b.length < 1000 ∧ r.length < 1000 ∧
  ∀ H', Same H H' → Q (.bl (safeP b t p r q)) H'
section
variable {P : Program} {w : World} {K : PySem.W.Frag} {mg : Str → Option Value} {base : Heap}
theorem ok_is {f : Addr} {fd : FuncData} (F : Fun K "is_safe_round" "is_safe_round" sIs f fd) (z_any : mg "any" = none) (z_gcd : mg "gcd" = some (.builtin "math.gcd")) : FnOk P w K mg base CX0 1 f fd ["told", "by"] (spIs K) := by
  refine F.ok scIs (fun vs H Q E h => ?_) (fun cdv A outer s H vs Q E hr h => ?_)
  · obtain ⟨_, _, _, _, _, _, rfl, _⟩ := h
    rfl
  obtain ⟨a, b, t, p, r, q, rfl, ⟨bl, rl, h1, h2, h3⟩, hq, hp, hb, hrl, k⟩ := h
  refine ⟨_, (pss_cons (ps_asg (pv 0) (pg_tup rfl (pgs_cons (pg_name (i := 2) scIs.nd rfl (.inl rfl)) (pgs_cons (pg_name (i := 3) scIs.nd rfl (.inr rfl)) (pgs_cons (pg_name (i := 4) scIs.nd rfl (.inl rfl)) (pgs_cons (pg_name (i := 5) scIs.nd rfl (.inl rfl)) pgs_nil))))))
  (pss_cons (ps_if (pt_val (pe_callB (cr_any rfl) rfl z_any (by decide +kernel) (pa_cons (pe_lc (own := [("number", 7)]) (g := gName 7) (tt := tYes) rfl scIs.nd (pi_tup (pv 2)) (blkOk_by (own := [("number", 7)]) (N := NIs) (sc := defScope sIs) (by decide +kernel)) (fun _ _ _ _ _ => (pg_name (i := 7) scIs.nd rfl (Or.inl rfl))) (fun _ _ _ _ _ => pts_nil) (fun _ _ _ _ _ => (pe_and (pe_cmpR op_gt (pv 7) pe_int (nomark _)) (pe_one (pe_cmpR op_eq (pe_op op_mod (pv 7) (pv 1)) pe_int (nomark _)))))) pa_nil))) (pss_one (ps_ret pe_bl)) pss_nil)
  (pss_cons (ps_set (i := 6) scIs.nd rfl (.inr rfl) (pe_callBfun cr_gcd rfl z_gcd (pa_cons (pv 1) (pa_cons (pv 4) pa_nil))))
  (pss_one (ps_ret (pe_not (pe_callB (cr_any rfl) rfl z_any (by decide +kernel) (pa_cons (pe_lc (own := [("rest", 8)]) (g := gName 8) (tt := tYes) rfl scIs.nd (pi_tup (pv 5)) (blkOk_by (own := [("rest", 8)]) (N := NIs) (sc := defScope sIs) (by decide +kernel)) (fun _ _ _ _ _ => (pg_name (i := 8) scIs.nd rfl (Or.inl rfl))) (fun _ _ _ _ _ => pts_nil) (fun _ _ _ _ _ => (pe_cmpR op_eq (pe_op op_mod (pe_op op_add (pv 3) (pv 8)) (pv 6)) pe_int (nomark _)))) pa_nil)))))))), ?_⟩
  refine ⟨_, rfl, a, _, rfl, h1, rfl, _, _, rfl, _, _, rfl, _, _, rfl, _, _, rfl, rfl, ?_⟩
  -- if any([..])
  refine ⟨_, rfl, bl, rfl, ⟨_, h2⟩, fun M hM => ?_⟩
  refine lc_s (walk_tup (K := K) (a := bl)) (onN fun n => .bl ((fun n => decide (0 < n) && decide (n % q = 0)) n)) hM (by rw [List.length_map, sizeLine_eq]; omega) (fun H' s => Same.sqT s h2) ?_ ?_
  · intro x H1 hx s1 OK NO ok no
    obtain ⟨z, _, rfl⟩ := nv_mem hx
    refine ⟨rfl, ?_⟩
    refine ⟨_, rfl, _, _, rfl, rfl, _, rfl, ite2 (fun h => ?_) (fun h => ?_)⟩
    · refine ⟨_, rfl, _, rfl, o_mod (by omega) (modn1 z q) ⟨rfl, ok _ _ (fun _ _ e => e) ?_⟩⟩
      have hz : 0 < z := by have := of_decide_eq_true h; omega
      show some (V.bl (decide (0 < z) && decide (z % q = 0))) = _
      rw [dec0, decide_eq_true hz, Bool.true_and]
    · refine ok _ _ (fun _ _ e => e) ?_
      have hz : ¬ 0 < z := fun c => h (decide_eq_true (by omega))
      show some (V.bl (decide (0 < z) && decide (z % q = 0))) = _
      rw [decide_eq_false hz, Bool.false_and]
  intro H1 s1 eM
  rw [bools (f := fun n => decide (0 < n) && decide (n % q = 0))] at eM
  refine ⟨M, _, rfl, SqL.of eM, _, rfl, ?_⟩
  rw [List.any_map]
  have cut : ∀ {v : Bool}, b.any (fun n => decide (0 < n) && decide (n % q = 0)) = v → b.any (id ∘ fun n => decide (0 < n) && decide (n % q = 0)) = v := fun h => h
  cases hA : b.any (fun n => decide (0 < n) && decide (n % q = 0)) with
  | true =>
    refine iteT' (cut hA) ?_
    have := k H1 s1
    unfold safeP at this
    rw [if_pos hA] at this
    exact this
  | false =>
    refine iteF' (cut hA) ?_
    have hg : 0 < Nat.gcd q p := Nat.gcd_pos_of_pos_right q hp
    -- part
    refine ⟨_, rfl, _, rfl, (q : Int), (p : Int), rfl, ?_⟩
    have h3' := Same.sqT s1 h3
    refine ⟨_, rfl, rl, rfl, ⟨_, h3'⟩, fun M2 hM2 => ?_⟩
    refine lc_s (walk_tup (K := K) (a := rl)) (onN fun n => .bl ((fun x => decide ((t + x) % Nat.gcd q p = 0)) n)) hM2 (by rw [List.length_map, sizeLine_eq]; omega) (fun H' s => Same.sqT s h3') ?_ ?_
    · intro x H2 hx s2 OK NO ok no
      obtain ⟨z, _, rfl⟩ := nv_mem hx
      refine ⟨rfl, ?_⟩
      refine ⟨_, rfl, _, rfl, o_add (k := ((t + z : Nat) : Int)) (by omega) ?_⟩
      refine ⟨_, rfl, o_mod (k := (((t + z) % Nat.gcd q p : Nat) : Int)) (by show (0 : Int) < ((Nat.gcd q p : Nat) : Int); omega) (modn1 (t + z) (Nat.gcd q p)) ⟨rfl, ok _ _ (fun _ _ e => e) ?_⟩⟩
      rw [dec0]
      rfl
    intro H2 s2 eM2
    rw [bools (f := fun x => decide ((t + x) % Nat.gcd q p = 0))] at eM2
    refine ⟨M2, _, rfl, SqL.of eM2, _, rfl, ?_⟩
    have := k H2 (s1.trans s2)
    unfold safeP at this
    rw [if_neg (by rw [hA]; exact Bool.false_ne_true)] at this
    rw [List.any_map]
    exact this
end
end My

set_option Elab.async false
set_option linter.all false
set_option maxRecDepth 100000
set_option maxHeartbeats 2000000
namespace My
open PySem L2

open Nm
abbrev sSr : Stmt := top 7
abbrev NSr : List Str := ["told", "_", "tail", "period", "start", "some", "rests", "by", "rest"]
theorem scSr : FnScope ["told", "_", "tail", "period", "start", "some", "rests", "by", "rest"] ["told"] (defScope sSr) := ⟨rfl, rfl, rfl, by decide +kernel, rfl, by decide +kernel, by decide +kernel⟩
abbrev sLc : Stmt := top 9
abbrev NLc : List Str := ["rows", "is_even", "start", "period", "_", "tail", "by", "number", "told"]
theorem scLc : FnScope ["rows", "is_even", "start", "period", "_", "tail", "by", "number", "told"] ["rows", "is_even"] (defScope sLc) := ⟨rfl, rfl, rfl, by decide +kernel, rfl, by decide +kernel, by decide +kernel⟩
abbrev sLr : Stmt := top 8
abbrev NLr : List Str := ["told"]
theorem scLr : FnScope ["told"] ["told"] (defScope sLr) := ⟨rfl, rfl, rfl, by decide +kernel, rfl, by decide +kernel, by decide +kernel⟩
/-- the safe rounds from 2 on -/
def gS (b : List Nat) (t p : Nat) (r : List Nat) (n : Nat) : Bool := decide (2 ≤ n) && safeP b t p r n
theorem gS_per {b : List Nat} {t p : Nat} {r : List Nat} (hb : ∀ n ∈ b, n < t) : Per (gS b t p r) (max t 2) p := fun n hn => by
  unfold gS
  rw [safe_per (by omega) (by omega) hb]
  congr 1
  rw [Bool.eq_iff_iff, decide_eq_true_eq, decide_eq_true_eq]
  omega
theorem from_lo (s : Nat → Bool) (lo : Nat) (m : Nat) : (List.range m).filterMap (fun i => if s i = true then some (V.int ((lo : Int) + (i : Int))) else none) = nv (((List.range m).filter s).map fun i => lo + i) := by
  induction List.range m with
  | nil => rfl
  | cons i is ih =>
    rw [List.filterMap_cons, List.filter_cons, ih]
    by_cases h : s i = true
    · simp [h]
    · simp [h]
theorem gS_seq {b : List Nat} {t p : Nat} {r : List Nat} (hp : 0 < p) (hb : ∀ n ∈ b, n < t) :
    seqOf (((List.range (max t 2 - 2)).filter fun i => safeP b t p r (2 + i)).map fun i => 2 + i) (max t 2) p (flt p fun i => safeP b t p r (max t 2 + i)) = gS b t p r := by
  funext n
  unfold seqOf
  by_cases h : n < max t 2
  · rw [if_pos h, Bool.eq_iff_iff, List.contains_iff_mem, List.mem_map]
    unfold gS
    rw [Bool.and_eq_true, decide_eq_true_eq]
    constructor
    · rintro ⟨i, hi, rfl⟩
      rw [List.mem_filter] at hi
      exact ⟨by omega, hi.2⟩
    · rintro ⟨h2, hs⟩
      refine ⟨n - 2, List.mem_filter.mpr ⟨List.mem_range.mpr (by omega), ?_⟩, by omega⟩
      rw [show 2 + (n - 2) = n by omega]
      exact hs
  · rw [if_neg h, Bool.eq_iff_iff, List.contains_iff_mem, flt_mem]
    have per := gS_per (p := p) (r := r) hb
    have e := per.mul ((n - max t 2) / p) (max t 2 + (n - max t 2) % p) (by omega)
    have e3 := Nat.mod_add_div (n - max t 2) p
    rw [Nat.mul_comm] at e3
    rw [show max t 2 + (n - max t 2) % p + (n - max t 2) / p * p = n by omega] at e
    have e4 : safeP b t p r (max t 2 + (n - max t 2) % p) = gS b t p r (max t 2 + (n - max t 2) % p) := by
      unfold gS
      rw [decide_eq_true (by omega), Bool.true_and]
    rw [e4, ← e]
    exact ⟨fun z => z.2, fun z => ⟨Nat.mod_lt _ hp, z⟩⟩
/-- the least safe round, if there is one below m -/
def LeastV (f : Nat → Bool) (m : Nat) (v : V) : Prop := (∃ n, 2 ≤ n ∧ n < m ∧ f n = true ∧ (∀ k, 2 ≤ k → k < n → f k = false) ∧ v = .int (n : Int)) ∨ ((∀ k, 2 ≤ k → k < m → f k = false) ∧ v = .non)
/-- safe_rounds(told) -/
def spSr (K : PySem.W.Frag) : Sp := fun vs H Q _ => ∃ (a : Addr) (b : List Nat) (t p : Nat) (r : List Nat), vs = [.ref a] ∧ Told K H a b t p r ∧ 0 < p ∧ p ≤ 60 ∧ t ≤ 60 ∧ b.length < 1000 ∧ r.length < 1000 ∧ (∀ n ∈ b, n < t) ∧
  ∀ (a' : Addr) (H' : Hp) (b' : List Nat) (t' p' : Nat) (r' : List Nat), Same H H' → Told K H' a' b' t' p' r' → Canon (gS b t p r) b' t' p' r' → t' ≤ max t 2 → p' ≤ p → Q (.ref a') H'
/-- least_common([told], False) -/
def spLc (K : PySem.W.Frag) : Sp := fun vs H Q _ => ∃ (l a : Addr) (b : List Nat) (t p : Nat) (r : List Nat), vs = [.ref l, .bl false] ∧ SqL K H l [.ref a] ∧ Told K H a b t p r ∧ 0 < p ∧ p ≤ 1000 ∧ t ≤ 1000 ∧ b.length < 1000 ∧ r.length < 1000 ∧
  ∀ (v : V) (H' : Hp), Same H H' → LeastV (safeP b t p r) (max t 2 + p) v → Q v H'
/-- least_round(told) -/
def spLr (K : PySem.W.Frag) : Sp := fun vs H Q _ => ∃ (a : Addr) (b : List Nat) (t p : Nat) (r : List Nat), vs = [.ref a] ∧ Told K H a b t p r ∧ 0 < p ∧ p ≤ 1000 ∧ t ≤ 1000 ∧ b.length < 1000 ∧ r.length < 1000 ∧
  ∀ (v : V) (H' : Hp), Same H H' → LeastV (safeP b t p r) (max t 2 + p) v → Q v H'
section
variable {P : Program} {w : World} {K : PySem.W.Frag} {mg : Str → Option Value} {base : Heap}
theorem ok_sr {f fIs fNt : Addr} {fd fdIs fdNt : FuncData} (F : Fun K "safe_rounds" "safe_rounds" sSr f fd)
    (GIs : FnOk P w K mg base CX0 1 fIs fdIs ["told", "by"] (spIs K)) (bIs : Binds K fdIs ["told", "by"] []) (kIs : PySem.W.keepIn K (.ref fIs) = true) (mIs : mg "is_safe_round" = some (.ref fIs))
    (GNt : FnOk P w K mg base CX0 2 fNt fdNt ["some", "tail", "period", "rests"] (spNt K)) (bNt : Binds K fdNt ["some", "tail", "period", "rests"] []) (kNt : PySem.W.keepIn K (.ref fNt) = true) (mNt : mg "numbers_told" = some (.ref fNt))
    (z_max : mg "max" = none) (z_range : mg "range" = none) : FnOk P w K mg base CX0 3 f fd ["told"] (spSr K) := by
  refine F.ok scSr (fun vs H Q E h => ?_) (fun cdv A outer s H vs Q E hr h => ?_)
  · obtain ⟨_, _, _, _, _, rfl, _⟩ := h
    rfl
  obtain ⟨a, b, t, p, r, rfl, told, hp, hp2, ht, hb, hrl, hbt, k⟩ := h
  obtain ⟨bl, rl, h1, h2, h3⟩ := id told
  refine ⟨_, (pss_cons (ps_asg (pv 0) (pg_tup rfl (pgs_cons (pg_name (i := 1) scSr.nd rfl (.inl rfl)) (pgs_cons (pg_name (i := 2) scSr.nd rfl (.inl rfl)) (pgs_cons (pg_name (i := 3) scSr.nd rfl (.inl rfl)) (pgs_cons (pg_name (i := 1) scSr.nd rfl (.inl rfl)) pgs_nil))))))
  (pss_cons (ps_set (i := 4) scSr.nd rfl (.inr rfl) (pe_callB (call_max2 rfl) rfl z_max (by decide +kernel) (pa_cons (pv 2) (pa_cons pe_int pa_nil))))
  (pss_cons (ps_setLc (i := 5) (own := [("by", 7)]) (g := gName 7) rfl scSr.nd rfl rfl (sw_true rfl rfl rfl (by decide +kernel)) (pi_range2 rfl z_range (pa_cons pe_int (pa_cons (pv 4) pa_nil))) (blkOk_by (own := [("by", 7)]) (N := NSr) (sc := defScope sSr) (by decide +kernel)) (fun _ _ _ _ _ => (pg_name (i := 7) scSr.nd rfl (Or.inl rfl))) (fun _ _ _ _ _ => (pts_one (pt_val (pe_call GIs (hr.mono (by decide)) rfl mIs kIs bIs .nil pass0 (pa_cons (pv 0) (pa_cons (pv 7) pa_nil)))))) (fun _ _ _ _ _ => (pv 7)))
  (pss_cons (ps_setLc (i := 6) (own := [("rest", 8)]) (g := gName 8) rfl scSr.nd rfl rfl (sw_true rfl rfl rfl (by decide +kernel)) (pi_range1 rfl z_range (pa_cons (pv 3) pa_nil)) (blkOk_by (own := [("rest", 8)]) (N := NSr) (sc := defScope sSr) (by decide +kernel)) (fun _ _ _ _ _ => (pg_name (i := 8) scSr.nd rfl (Or.inl rfl))) (fun _ _ _ _ _ => (pts_one (pt_val (pe_call GIs (hr.mono (by decide)) rfl mIs kIs bIs .nil pass0 (pa_cons (pv 0) (pa_cons (pe_op op_add (pv 4) (pv 8)) pa_nil)))))) (fun _ _ _ _ _ => (pv 8)))
  (pss_one (ps_ret (pe_call GNt (hr.mono (by decide)) rfl mNt kNt bNt .nil pass0 (pa_cons (pv 5) (pa_cons (pv 4) (pa_cons (pv 3) (pa_cons (pv 6) pa_nil))))))))))), ?_⟩
  refine ⟨_, rfl, a, _, rfl, h1, rfl, _, _, rfl, _, _, rfl, _, _, rfl, _, _, rfl, rfl, ?_⟩
  -- start
  have est : (if (2 : Int) > (t : Int) then (2 : Int) else (t : Int)) = ((max t 2 : Nat) : Int) := by
    by_cases c : (2 : Int) > (t : Int)
    · rw [if_pos c]
      omega
    · rw [if_neg c]
      omega
  refine ⟨_, rfl, (t : Int), 2, rfl, ?_⟩
  rw [est]
  generalize hst : max t 2 = st at *
  have h2st : 2 ≤ st := by omega
  -- some
  refine ⟨_, rfl, 2, (st : Int), rfl, ⟨by decide, by decide, by omega, by omega⟩, fun M hM => ?_⟩
  have em : ((st : Int) - 2).toNat = st - 2 := by omega
  rw [em]
  refine lc_f (walk_range (lo := 2) (n := st - 2)) (fun i => if (fun i => safeP b t p r (2 + i)) i = true then some (.int (((2 : Nat) : Int) + (i : Int))) else none) hM (by rw [sizeLine_eq]; omega) (fun _ _ => trivial) ?_ ?_
  · rintro j x H2 H2' hj s2 ⟨rfl, rfl⟩ OK NO ok no
    refine ⟨rfl, ?_⟩
    refine ⟨_, rfl, _, rfl, a, b, t, p, r, 2 + j, ?_, told.keep s2, by omega, hp, hb, hrl, fun H3 s3 => ⟨_, rfl, ite2 (fun h => ?_) (fun h => ?_)⟩⟩
    · show [V.ref a, V.int ((2 : Int) + (j : Int))] ++ [] = [V.ref a, V.int ((2 + j : Nat) : Int)]
      rw [show ((2 : Int) + (j : Int)) = ((2 + j : Nat) : Int) by omega]
      rfl
    · exact ⟨_, rfl, ok _ _ s3 (if_pos h)⟩
    · exact no _ s3 (if_neg h)
  intro H2 s2 eM
  rw [from_lo] at eM
  have lM : (((List.range (st - 2)).filter fun i => safeP b t p r (2 + i)).map fun i => 2 + i).length < 64 := by
    rw [List.length_map]
    have := List.length_filter_le (fun i => safeP b t p r (2 + i)) (List.range (st - 2))
    rw [List.length_range] at this
    omega
  generalize hso : (((List.range (st - 2)).filter fun i => safeP b t p r (2 + i)).map fun i => 2 + i) = so at eM lM
  -- rests
  refine ⟨_, rfl, _, rfl, by omega, by omega, fun N hN => ?_⟩
  have ep : ((p : Nat) : Int).toNat = p := by omega
  rw [ep]
  refine lc_f (walk_range (lo := 0) (n := p)) (fun i => if safeP b t p r ((fun i => st + i) i) = true then some (.int ((0 : Int) + (i : Int))) else none) hN (by rw [sizeLine_eq]; omega) (fun _ _ => trivial) ?_ ?_
  · rintro j x H3 H3' hj s3 ⟨rfl, rfl⟩ OK NO ok no
    refine ⟨rfl, ?_⟩
    refine ⟨_, rfl, _, rfl, _, rfl, o_add (k := ((st + j : Nat) : Int)) (by omega) ?_⟩
    refine ⟨a, b, t, p, r, st + j, rfl, told.keep (s2.trans s3), by omega, hp, hb, hrl, fun H4 s4 => ⟨_, rfl, ite2 (fun h => ?_) (fun h => ?_)⟩⟩
    · exact ⟨_, rfl, ok _ _ s4 (if_pos h)⟩
    · exact no _ s4 (if_neg h)
  intro H3 s3 eN
  rw [trues (safeP b t p r) (fun i => st + i) id p] at eN
  dsimp only [gName]
  refine ⟨_, rfl, _, rfl, _, rfl, _, rfl, M, st, p, N, so, flt p (fun i => safeP b t p r (st + i)), rfl, .inl (SqL.of (s3 _ _ eM)), .inl (SqL.of eN), lM, ?_, by omega, hp, by omega, fun x hx => (flt_mem.mp hx).1, fun a' H' b' t' p' r' s' told' canon' h1 h2 => ?_⟩
  · exact Nat.lt_of_le_of_lt flt_len (by omega)
  have eq : seqOf so st p (flt p fun i => safeP b t p r (st + i)) = gS b t p r := by
    rw [← hso, ← hst]
    exact gS_seq hp hbt
  rw [eq] at canon'
  exact k a' H' b' t' p' r' ((s2.trans s3).trans s') told' canon' h1 h2
theorem ok_lc {f fIs : Addr} {fd fdIs : FuncData} (F : Fun K "least_common" "least_common" sLc f fd)
    (GIs : FnOk P w K mg base CX0 1 fIs fdIs ["told", "by"] (spIs K)) (bIs : Binds K fdIs ["told", "by"] []) (kIs : PySem.W.keepIn K (.ref fIs) = true) (mIs : mg "is_safe_round" = some (.ref fIs))
    (z_max : mg "max" = none) (z_range : mg "range" = none) (z_all : mg "all" = none) (z_gcd : mg "gcd" = some (.builtin "math.gcd")) : FnOk P w K mg base CX0 2 f fd ["rows", "is_even"] (spLc K) := by
  refine F.ok scLc (fun vs H Q E h => ?_) (fun cdv A outer s H vs Q E hr h => ?_)
  · obtain ⟨_, _, _, _, _, _, rfl, _⟩ := h
    rfl
  obtain ⟨l, a, b, t, p, r, rfl, hl, told, hp, hp2, ht, hb, hrl, k⟩ := h
  obtain ⟨bl, rl, h1, h2, h3⟩ := id told
  refine ⟨_, (pss_cons (ps_set (i := 2) scLc.nd rfl (.inl rfl) pe_int)
  (pss_cons (ps_set (i := 3) scLc.nd rfl (.inl rfl) (pe_ifExp (pt_val (pv 1)) pe_int pe_int))
  (pss_cons (ps_for PassesOwn.never rfl (pi_list (pv 0)) (pg_tup rfl (pgs_cons (pg_name (i := 4) scLc.nd rfl (.inl rfl)) (pgs_cons (pg_name (i := 5) scLc.nd rfl (.inl rfl)) (pgs_cons (pg_name (i := 6) scLc.nd rfl (.inl rfl)) (pgs_cons (pg_name (i := 4) scLc.nd rfl (.inl rfl)) pgs_nil))))) (pss_cons (ps_set (i := 2) scLc.nd rfl (.inl rfl) (pe_callB (call_max2 rfl) rfl z_max (by decide +kernel) (pa_cons (pv 2) (pa_cons (pv 5) pa_nil))))
    (pss_one (ps_set (i := 3) scLc.nd rfl (.inl rfl) (pe_op op_fdiv (pe_op op_mul (pv 3) (pv 6)) (pe_callBfun cr_gcd rfl z_gcd (pa_cons (pv 3) (pa_cons (pv 6) pa_nil))))))))
  (pss_cons (ps_for PassesOwn.never rfl (pi_range2 rfl z_range (pa_cons pe_int (pa_cons (pe_op op_add (pv 2) (pv 3)) pa_nil))) (pg_name (i := 7) scLc.nd rfl (.inr rfl)) (pss_one (ps_if (PW.pt (pw_and (PW.pt (pw_or (pt_not (pt_val (pv 1))) (pw_or1 (pt_cmpR op_eq (pe_op op_mod (pv 7) pe_int) pe_int (nomark _))))) (pw_and1 (pt_val (pe_callB (cr_all rfl) rfl z_all (by decide +kernel) (pa_cons (pe_lc (own := [("told", 8)]) (g := gName 8) (tt := tYes) rfl scLc.nd (pi_list (pv 0)) (blkOk_by (own := [("told", 8)]) (N := NLc) (sc := defScope sLc) (by decide +kernel)) (fun _ _ _ _ _ => (pg_name (i := 8) scLc.nd rfl (Or.inl rfl))) (fun _ _ _ _ _ => pts_nil) (fun _ _ _ _ _ => (pe_call GIs (hr.mono (by decide)) rfl mIs kIs bIs .nil pass0 (pa_cons (pv 8) (pa_cons (pv 7) pa_nil))))) pa_nil)))))) (pss_one (ps_ret (pv 7))) pss_nil)))
  (pss_one (ps_ret pe_non)))))), ?_⟩
  refine ⟨_, rfl, _, rfl, iteF ?_⟩
  dsimp only [gName]
  refine seq_first (fun σ H1 => H1 = H ∧ ∃ v1 v2 v3, σ = [some (.ref l), some (.bl false), some (.int ((max t 2 : Nat) : Int)), some (.int (p : Int)), v1, v2, v3, none, none]) ?_ ?_
  · rintro σ H1 ⟨e1, v1, v2, v3, rfl⟩
    obtain rfl : H = H1 := e1.symm
    -- for number in range(2, start + period)
    refine ⟨_, rfl, _, rfl, o_add (k := ((max t 2 + p : Nat) : Int)) (by omega) ?_⟩
    refine ⟨2, ((max t 2 + p : Nat) : Int), rfl, ⟨by decide, by decide, by omega, by omega⟩, ?_⟩
    have em : (((max t 2 + p : Nat) : Int) - 2).toNat = max t 2 + p - 2 := by omega
    rw [em]
    refine for_range (lo := 2) (n := max t 2 + p - 2) (fun i σ H2 => Same H H2 ∧ (∃ v, σ = [some (.ref l), some (.bl false), some (.int ((max t 2 : Nat) : Int)), some (.int (p : Int)), v1, v2, v3, v, none]) ∧ ∀ k, 2 ≤ k → k < i + 2 → safeP b t p r k = false) ⟨fun _ _ e => e, ⟨none, rfl⟩, fun k h1 h2 => by omega⟩ ?_ ?_
    · rintro i σ H2 hi ⟨s2, ⟨v, rfl⟩, hk⟩
      rw [show ((2 : Int) + (i : Int)) = ((i + 2 : Nat) : Int) by omega]
      refine ⟨_, rfl, _, rfl, iteT ?_⟩
      refine ⟨_, rfl, l, rfl, ⟨_, Same.sqL s2 hl⟩, fun M hM => ?_⟩
      refine lc_s (xs := [.ref a]) (walk_list (K := K) (a := l)) (fun _ => some (.bl (safeP b t p r (i + 2)))) hM (by rw [sizeLine_eq]; show 1 < _; decide) (fun H' s => Same.sqL (s2.trans s) hl) ?_ ?_
      · intro x H3 hx s3 OK NO ok no
        obtain rfl := List.mem_singleton.mp hx
        refine ⟨rfl, ?_⟩
        exact ⟨_, rfl, _, rfl, a, b, t, p, r, i + 2, rfl, told.keep (s2.trans s3), by omega, hp, hb, hrl, fun H4 s4 => ok _ _ s4 rfl⟩
      intro H3 s3 eM
      refine ⟨M, [safeP b t p r (i + 2)], rfl, SqL.of eM, _, rfl, ?_⟩
      have ea : ([safeP b t p r (i + 2)].all id) = safeP b t p r (i + 2) := by
        rw [List.all_cons, List.all_nil, Bool.and_true]
        rfl
      rw [ea]
      refine ite2 (fun h => ?_) (fun h => ?_)
      · exact ⟨_, rfl, k _ H3 (s2.trans s3) (.inl ⟨i + 2, by omega, by omega, h, hk, rfl⟩)⟩
      · refine ⟨s2.trans s3, ⟨_, rfl⟩, fun k' h1 h2 => ?_⟩
        by_cases e : k' = i + 2
        · rw [e]
          exact Bool.eq_false_iff.mpr h
        · exact hk k' h1 (by omega)
    · rintro σ H2 ⟨s2, ⟨v, rfl⟩, hk⟩
      exact k _ H2 s2 (.inr ⟨fun k' h1 h2 => hk k' h1 (by omega), rfl⟩)
  intro rest
  -- for _, tail, by, _ in rows
  refine ⟨_, rfl, l, rfl, ⟨_, hl⟩, for_list (K := K) (a := l) (xs := [.ref a]) (fun i σ H1 => H1 = H ∧ ((i = 0 ∧ σ = [some (.ref l), some (.bl false), some (.int 2), some (.int 1), none, none, none, none, none]) ∨ (i = 1 ∧ ∃ v1 v2 v3, σ = [some (.ref l), some (.bl false), some (.int ((max t 2 : Nat) : Int)), some (.int (p : Int)), v1, v2, v3, none, none]))) ⟨rfl, .inl ⟨rfl, rfl⟩⟩ (fun i σ H1 _ z => by rw [z.1]; exact hl) ?_ ?_⟩
  · rintro i x σ H1 hx ⟨e1, hσ⟩
    obtain rfl : H = H1 := e1.symm
    rcases hσ with ⟨rfl, rfl⟩ | ⟨rfl, _⟩
    · obtain rfl : V.ref a = x := Option.some.inj hx
      refine ⟨a, _, rfl, h1, rfl, _, _, rfl, _, _, rfl, _, _, rfl, _, _, rfl, rfl, ?_⟩
      have est : (if (t : Int) > (2 : Int) then (t : Int) else (2 : Int)) = ((max t 2 : Nat) : Int) := by
        by_cases c : (t : Int) > (2 : Int)
        · rw [if_pos c]
          omega
        · rw [if_neg c]
          omega
      refine ⟨_, rfl, _, rfl, 2, (t : Int), rfl, ?_⟩
      rw [est]
      refine ⟨_, rfl, _, rfl, _, _, rfl, rfl, .inl ⟨by decide, by decide⟩, ?_⟩
      refine ⟨_, rfl, _, rfl, 1, (p : Int), rfl, ?_⟩
      have eg : ((Nat.gcd (Int.natAbs 1) (Int.natAbs (p : Int)) : Nat) : Int) = 1 := by
        show ((Nat.gcd 1 p : Nat) : Int) = 1
        rw [Nat.gcd_one_left]
        rfl
      rw [eg]
      refine ⟨_, _, rfl, rfl, ⟨by decide, by decide⟩, ?_⟩
      have ev : (1 : Int) * (p : Int) / 1 = (p : Int) := by rw [Int.one_mul, Int.ediv_one]
      refine ⟨rfl, .inr ⟨rfl, some (.ref rl), some (.int (t : Int)), some (.int (p : Int)), ?_⟩⟩
      show [some (V.ref l), some (V.bl false), some (V.int ((max t 2 : Nat) : Int)), some (V.int ((1 : Int) * (p : Int) / 1)), some (.ref rl), some (.int (t : Int)), some (.int (p : Int)), none, none] = _
      rw [ev]
    · cases hx
  · rintro σ H1 ⟨e1, hσ⟩
    rcases hσ with ⟨h, _⟩ | ⟨_, v1, v2, v3, rfl⟩
    · cases h
    · exact rest _ _ ⟨e1, v1, v2, v3, rfl⟩
theorem ok_lr {f fLc : Addr} {fd fdLc : FuncData} (F : Fun K "least_round" "least_round" sLr f fd)
    (GLc : FnOk P w K mg base CX0 2 fLc fdLc ["rows", "is_even"] (spLc K)) (bLc : Binds K fdLc ["rows", "is_even"] []) (kLc : PySem.W.keepIn K (.ref fLc) = true) (mLc : mg "least_common" = some (.ref fLc)) : FnOk P w K mg base CX0 3 f fd ["told"] (spLr K) := by
  refine F.ok scLr (fun vs H Q E h => ?_) (fun cdv A outer s H vs Q E hr h => ?_)
  · obtain ⟨_, _, _, _, _, rfl, _⟩ := h
    rfl
  obtain ⟨a, b, t, p, r, rfl, told, hp, hp2, ht, hb, hrl, k⟩ := h
  refine ⟨_, (pss_one (ps_ret (pe_call GLc (hr.mono (by decide)) rfl mLc kLc bLc .nil pass0 (pa_cons (pe_lst (pa_cons (pv 0) pa_nil)) (pa_cons pe_bl pa_nil))))), ?_⟩
  refine ⟨_, rfl, (by show 1 ≤ sizeLine; decide), fun l hl => ?_⟩
  have s1 := Same.new (o := .lst [.ref a]) hl
  exact ⟨l, a, b, t, p, r, rfl, SqL.of upd_same, told.keep s1, hp, hp2, ht, hb, hrl, fun v H' s' z => k v H' (s1.trans s') z⟩
end
end My

set_option Elab.async false
set_option linter.all false
set_option maxRecDepth 100000
set_option maxHeartbeats 2000000
namespace My
open PySem L2

open Nm
abbrev sLa : Stmt := top 17
abbrev NLa : List Str := ["script", "base", "told_now", "found", "safe", "by_now", "multiples", "far", "due", "zfound", "k", "n"]
theorem scLa : FnScope ["script", "base", "told_now", "found", "safe", "by_now", "multiples", "far", "due", "zfound", "k", "n"] ["script"] (defScope sLa) := ⟨rfl, rfl, rfl, by decide +kernel, rfl, by decide +kernel, by decide +kernel⟩
/-- the law -/
def spLaw (K : PySem.W.Frag) : Sp := fun vs H Q _ => ∃ (a : Addr) (ns : List Int), vs = [.ref a] ∧ SqL K H a (ns.map V.int) ∧ ns.length ≤ 63 ∧ ∀ H', Q (.bl true) H'
theorem kp_same {f c : Addr} {H0 H1 H2 : Hp} (s : Same H0 H1) (hf : H0 f = none) (hc : H0 c = none) (k : Kp f c H1 H2) : Same H0 H2 := fun b o e => k b o (s b o e) (ne_of_none e hf) (ne_of_none e hc)
theorem nums_nv (ns : List Nat) : SeqAt.shaped (.list (ns.map dn)) = true := by
  simp [SeqAt.shaped, PyData.canLay0, PyData.depth, lay_nv, dep_nv]
theorem eqv_lst (ns : List Nat) : PyData.eqv (.list (ns.map dn)) (.list (([] : List Nat).map dn)) = decide (ns = []) := by
  cases ns with
  | nil => rfl
  | cons n r => simp [PyData.eqv, PyData.eqvAll]
def selN (s : Nat → Bool) : V → Option V
  | .int z => if s z.toNat = true then some (V.int z) else none
  | _ => none
theorem selN_at {s : Nat → Bool} (n : Nat) : selN s (.int (n : Int)) = if s n = true then some (V.int (n : Int)) else none := rfl
theorem sel_nv (s : Nat → Bool) : ∀ b : List Nat, (nv b).filterMap (selN s) = nv (b.filter s)
  | [] => rfl
  | n :: b => by
    show List.filterMap _ (V.int (n : Int) :: nv b) = _
    rw [List.filterMap_cons, List.filter_cons, sel_nv s b, selN_at]
    by_cases h : s n = true
    · simp [h]
    · simp [h]
/-- the row of truths from 1 on -/
abbrev tv (f : Nat → Bool) (j : Nat) : List V := (List.range j).map fun i => V.bl (f (i + 1))
theorem tv_snoc (f : Nat → Bool) (j : Nat) : tv f j ++ [V.bl (f (j + 1))] = tv f (j + 1) := by
  unfold tv
  rw [List.range_succ, List.map_append]
  rfl
theorem tv_at {f : Nat → Bool} {j n : Nat} (h1 : 0 < n) (h2 : n ≤ j) : atI (tv f j) ((n - 1 : Nat) : Int) = some (.bl (f n)) := by
  have e : (tv f j)[n - 1]? = some (.bl (f n)) := by
    rw [List.getElem?_map, List.getElem?_range (by omega)]
    show some (V.bl (f (n - 1 + 1))) = _
    rw [show n - 1 + 1 = n by omega]
  exact atI_nat e
theorem tv_all (b : List Nat) (t p : Nat) (r : List Nat) : [V.bl false, V.bl false] ++ (tv (safeP b t p r) 60).drop 1 = bv (gS b t p r) 61 := by
  refine List.ext_getElem? fun i => ?_
  have ev : ∀ k, (tv (safeP b t p r) 60)[k]? = if k < 60 then some (V.bl (safeP b t p r (k + 1))) else none := fun k => by
    unfold tv
    by_cases hk : k < 60
    · rw [if_pos hk, List.getElem?_map, List.getElem?_range hk]
      rfl
    · rw [if_neg hk, List.getElem?_eq_none (by rw [List.length_map, List.length_range]; omega)]
  have eb : (bv (gS b t p r) 61)[i]? = if i < 61 then some (V.bl (gS b t p r i)) else none := by
    unfold bv
    by_cases hk : i < 61
    · rw [if_pos hk, List.getElem?_map, List.getElem?_range hk]
      rfl
    · rw [if_neg hk, List.getElem?_eq_none (by rw [List.length_map, List.length_range]; omega)]
  rw [eb]
  match i with
  | 0 => rfl
  | 1 => rfl
  | i + 2 =>
    show ((tv (safeP b t p r) 60).drop 1)[i]? = _
    rw [List.getElem?_drop, ev, Nat.add_comm 1 i]
    by_cases hk : i + 1 < 60
    · rw [if_pos hk, if_pos (by omega)]
      unfold gS
      rw [decide_eq_true (by omega), Bool.true_and]
    · rw [if_neg hk, if_neg (by omega)]
theorem cut_one (xs : List V) : cutV xs (some 1) none = xs.drop 1 := by
  unfold cutV
  cases xs with
  | nil => rfl
  | cons x r =>
    have e1 : HT.sIx (x :: r).length 0 (some 1) = 1 := by
      unfold HT.sIx
      simp
    have e2 : HT.sIx (x :: r).length (x :: r).length none = (x :: r).length := rfl
    rw [e1, e2]
    exact List.take_of_length_le (by simp)
/-- what the law looks at says whether a round is safe -/
theorem forty_is {b : List Nat} {t p : Nat} {r : List Nat} {q : Nat} {sq : Nat → Bool} (hp : 0 < p) (hp2 : p ≤ 12) (ht : t ≤ 6) (hq : 0 < q) (hb : ∀ n ∈ b, n < t) (hr : ∀ x ∈ r, x < p) (e : seqOf b t p r = sq) :
    decide ((((List.range 39).map fun i => q * (i + 1)).filter sq) = []) = safeP b t p r q := by
  rw [Bool.eq_iff_iff, decide_eq_true_eq, safe_iff hp hp2 hq hb hr, safe_forty (s := seqOf b t p r) seqOf_per hp hp2 ht hq, e, List.filter_eq_nil_iff]
  constructor
  · intro h k h1 h2
    have := h (q * k) (List.mem_map.mpr ⟨k - 1, List.mem_range.mpr (by omega), by rw [show k - 1 + 1 = k by omega]⟩)
    exact Bool.eq_false_iff.mpr this
  · intro h x hx
    obtain ⟨i, hi, rfl⟩ := List.mem_map.mp hx
    have := h (i + 1) (by omega) (by have := List.mem_range.mp hi; omega)
    rw [this]
    exact Bool.false_ne_true
/-- the least one is the first that is due -/
theorem first_due {f : Nat → Bool} {st p m : Nat} {v : V} (h2 : 2 ≤ st) (hp : 0 < p) (hm : st + p ≤ 61) (per : ∀ n, st ≤ n → f (n + p) = f n) (l : LeastV f (st + p) v) :
    (((List.range 59).filter fun i => f (2 + i)).map fun i => 2 + i) = [] ∧ v = .non ∨ ∃ (n : Nat) (rest : List Nat), (((List.range 59).filter fun i => f (2 + i)).map fun i => 2 + i) = n :: rest ∧ v = .int (n : Int) := by
  rcases l with ⟨n, n2, nm, fn, low, rfl⟩ | ⟨no, rfl⟩
  · refine .inr ?_
    have split : List.range 59 = List.range (n - 2) ++ (n - 2) :: (List.range' (n - 1) (59 - (n - 1))) := by
      rw [List.range_eq_range', List.range_eq_range']
      have a1 : List.range' 0 59 = List.range' 0 (n - 2) ++ List.range' (n - 2) (59 - (n - 2)) := by
        have := List.range'_append (s := 0) (m := n - 2) (n := 59 - (n - 2)) (step := 1)
        rw [show n - 2 + (59 - (n - 2)) = 59 by omega] at this
        rw [← this]
        simp
      rw [a1, show 59 - (n - 2) = (59 - (n - 1)) + 1 by omega, List.range'_succ]
      rw [show n - 2 + 1 = n - 1 by omega]
    refine ⟨n, ((List.range' (n - 1) (59 - (n - 1))).filter fun i => f (2 + i)).map fun i => 2 + i, ?_, rfl⟩
    rw [split, List.filter_append, List.filter_cons]
    have e1 : (List.range (n - 2)).filter (fun i => f (2 + i)) = [] := by
      rw [List.filter_eq_nil_iff]
      intro i hi
      rw [low (2 + i) (by omega) (by have := List.mem_range.mp hi; omega)]
      exact Bool.false_ne_true
    rw [e1, if_pos (by rw [show 2 + (n - 2) = n by omega]; exact fn), List.nil_append, List.map_cons, show 2 + (n - 2) = n by omega]
  · refine .inl ⟨?_, rfl⟩
    have all : ∀ n, 2 ≤ n → f n = false := by
      intro n
      induction n using Nat.strongRecOn with
      | ind n ih =>
        intro h
        by_cases hn : n < st + p
        · exact no n h hn
        · have := per (n - p) (by omega)
          rw [show n - p + p = n by omega] at this
          rw [this]
          exact ih (n - p) (by omega) (by omega)
    rw [List.map_eq_nil_iff, List.filter_eq_nil_iff]
    intro i _
    rw [all (2 + i) (by omega)]
    exact Bool.false_ne_true
/-- there is none just if great multiples of the period are told -/
theorem none_is {b : List Nat} {t p : Nat} {r : List Nat} {v : V} (hp : 0 < p) (hp2 : p ≤ 12) (hb : ∀ n ∈ b, n < t) (hr : ∀ x ∈ r, x < p) (l : LeastV (safeP b t p r) (max t 2 + p) v) :
    decide (v = .non) = seqOf b t p r (p * (t + 1)) := by
  have key := safe_some (s := seqOf b t p r) seqOf_per hp
  rw [Bool.eq_iff_iff, decide_eq_true_eq]
  rcases l with ⟨n, n2, nm, fn, low, rfl⟩ | ⟨no, rfl⟩
  · have z := key.mp ⟨n, n2, (safe_iff hp hp2 (by omega) hb hr).mp fn⟩
    constructor
    · intro h
      cases h
    · intro h
      rw [z] at h
      cases h
  · refine ⟨fun _ => ?_, fun _ => rfl⟩
    refine Bool.of_not_eq_false fun z => ?_
    obtain ⟨q, hq, hs⟩ := key.mpr z
    have fq := (safe_iff hp hp2 (by omega) hb hr).mpr hs
    have all : ∀ n, 2 ≤ n → safeP b t p r n = false := by
      intro n
      induction n using Nat.strongRecOn with
      | ind n ih =>
        intro h
        by_cases hn : n < max t 2 + p
        · exact no n h hn
        · have := safe_per (p := p) (r := r) (q := n - p) (by omega) (by omega) hb
          rw [show n - p + p = n by omega] at this
          rw [this]
          exact ih (n - p) (by omega) (by omega)
    rw [all q hq] at fq
    cases fq
theorem canonZ : Canon (gS [0, 1, 2] 3 1 []) [] 3 1 [0] where
  pos := by decide
  per := gS_per (by decide)
  least := fun q _ h _ => h
  low := .inr (by decide)
  be := by decide
  re := by decide
theorem leastZ {v : V} (l : LeastV (safeP [0, 1, 2] 3 1 []) (max 3 2 + 1) v) : v = .int 3 := by
  have f2 : safeP [0, 1, 2] 3 1 [] 2 = false := by decide
  have f3 : safeP [0, 1, 2] 3 1 [] 3 = true := by decide
  rcases l with ⟨n, n2, nm, fn, low, rfl⟩ | ⟨no, _⟩
  · have h3 : n < 4 := nm
    have : n ≠ 2 := fun z => by rw [z, f2] at fn; cases fn
    have : n = 3 := by omega
    rw [this]
    rfl
  · have := no 3 (by decide) (by decide)
    rw [f3] at this
    cases this
end My

set_option Elab.async false
set_option linter.all false
set_option maxRecDepth 100000
set_option maxHeartbeats 2000000
namespace My
open PySem L2

open Nm
def gSw : List Value → List Value → List Value := fun us ws => match us, ws with | [], [n, t] => [t, n] | _, _ => []
def vSw : List V → List V → List V := fun us ws => match us, ws with | [], [n, t] => [t, n] | _, _ => []
def gId : List Value → List Value → List Value := fun us ws => match us, ws with | [], [n, t] => [n, t] | _, _ => []
def vId : List V → List V → List V := fun us ws => match us, ws with | [], [n, t] => [n, t] | _, _ => []
def gOn : List Value → List Value → List Value := fun us ws => match us, ws with | [], [t] => [t] | _, _ => []
def vOn : List V → List V → List V := fun us ws => match us, ws with | [], [t] => [t] | _, _ => []
theorem same_but {S : Addr} {H0 H : Hp} {o : HO} (s : Same H0 H) (h : H0 S = none) : Same H0 (upd H S o) := fun b u e => by rw [upd_ne (ne_of_none e h)]; exact s _ _ e
section
variable {P : Program} {w : World} {K : PySem.W.Frag} {mg : Str → Option Value} {base : Heap}
theorem ok_law {f fDt fFe fHa fNt fLt fIn fIs fSr fLr : Addr} {fd fdDt fdFe fdHa fdNt fdLt fdIn fdIs fdSr fdLr : FuncData} (F : Fun K "law" "law" sLa f fd)
    (GDt : FnOk P w K mg base CX0 2 fDt fdDt ["feed"] (spDt K)) (bDt : Binds K fdDt ["feed"] []) (kDt : PySem.W.keepIn K (.ref fDt) = true) (mDt : mg "_law_drawn_told" = some (.ref fDt))
    (GFe : FnOk P w K mg base CX0 1 fFe fdFe ["script", "base"] (spFe K)) (bFe : Binds K fdFe ["script", "base"] []) (kFe : PySem.W.keepIn K (.ref fFe) = true) (mFe : mg "_law_feed" = some (.ref fFe))
    (GHa : FnOk P w K mg base CX0 1 fHa fdHa ["told_now", "number"] (spHa K)) (bHa : Binds K fdHa ["told_now", "number"] []) (kHa : PySem.W.keepIn K (.ref fHa) = true) (mHa : mg "_law_has" = some (.ref fHa))
    (GNt : FnOk P w K mg base CX0 2 fNt fdNt ["some", "tail", "period", "rests"] (spNt K)) (bNt : Binds K fdNt ["some", "tail", "period", "rests"] []) (kNt : PySem.W.keepIn K (.ref fNt) = true) (mNt : mg "numbers_told" = some (.ref fNt))
    (GLt : FnOk P w K mg base CX0 1 fLt fdLt ["some", "far"] (spLt K)) (bLt : Binds K fdLt ["some", "far"] []) (kLt : PySem.W.keepIn K (.ref fLt) = true) (mLt : mg "_law_told" = some (.ref fLt))
    (GIn : FnOk P w K mg base CX0 1 fIn fdIn ["told", "number"] (spIn K)) (bIn : Binds K fdIn ["told", "number"] []) (kIn : PySem.W.keepIn K (.ref fIn) = true) (mIn : mg "is_in" = some (.ref fIn))
    (GIs : FnOk P w K mg base CX0 1 fIs fdIs ["told", "by"] (spIs K)) (bIs : Binds K fdIs ["told", "by"] []) (kIs : PySem.W.keepIn K (.ref fIs) = true) (mIs : mg "is_safe_round" = some (.ref fIs))
    (GSr : FnOk P w K mg base CX0 3 fSr fdSr ["told"] (spSr K)) (bSr : Binds K fdSr ["told"] []) (kSr : PySem.W.keepIn K (.ref fSr) = true) (mSr : mg "safe_rounds" = some (.ref fSr))
    (GLr : FnOk P w K mg base CX0 3 fLr fdLr ["told"] (spLr K)) (bLr : Binds K fdLr ["told"] []) (kLr : PySem.W.keepIn K (.ref fLr) = true) (mLr : mg "least_round" = some (.ref fLr))
    (KBSrt : KBinds K fdSr ["told"] ["told"] gOn vOn) (KBLrt : KBinds K fdLr ["told"] ["told"] gOn vOn) (KBIsbt : KBinds K fdIs ["told", "by"] ["by", "told"] gSw vSw) (KBIstb : KBinds K fdIs ["told", "by"] ["told", "by"] gId vId)
    (z_range : mg "range" = none) (z_repr : mg "repr" = none) : FnG P w K mg base CX0 4 f fd ["script"] (spLaw K) := by
  refine fng_of F scLa (fun vs H Q E h => ?_) (fun cdv A outer s H vs Q E ns hr h => ?_)
  · obtain ⟨_, _, rfl, _⟩ := h
    rfl
  obtain ⟨a, nums, rfl, hS, h63, k⟩ := h
  refine ⟨_, (pss_cons (ps_for PassesOwn.never rfl (pi_range1 rfl z_range (pa_cons pe_int pa_nil)) (pg_name (i := 1) scLa.nd rfl (.inl rfl)) (pss_cons (ps_set (i := 2) scLa.nd rfl (.inr rfl) (pe_call GDt (hr.mono (by decide)) rfl mDt kDt bDt .nil pass0 (pa_cons (pe_call GFe (hr.mono (by decide)) rfl mFe kFe bFe .nil pass0 (pa_cons (pv 0) (pa_cons (pv 1) pa_nil))) pa_nil)))
    (pss_cons (ps_set (i := 3) scLa.nd rfl (.inl rfl) (pe_call GNt (hr.mono (by decide)) rfl mNt kNt bNt .nil pass0 (pa_cons (pe_ix ix_tup (pv 2) pe_int (fun _ _ => rfl)) (pa_cons (pe_ix ix_tup (pv 2) pe_int (fun _ _ => rfl)) (pa_cons (pe_ix ix_tup (pv 2) pe_int (fun _ _ => rfl)) (pa_cons (pe_ix ix_tup (pv 2) pe_int (fun _ _ => rfl)) pa_nil))))))
    (pss_cons (ps_set (i := 4) scLa.nd rfl (.inr rfl) (pe_lst pa_nil))
    (pss_cons (ps_for PassesOwn.never rfl (pi_range2 rfl z_range (pa_cons pe_int (pa_cons pe_int pa_nil))) (pg_name (i := 5) scLa.nd rfl (.inr rfl)) (pss_cons (ps_setLc (i := 6) (own := [("k", 10)]) (g := gName 10) (tt := tYes) rfl scLa.nd rfl rfl (sw_true rfl rfl rfl (by decide +kernel)) (pi_range2 rfl z_range (pa_cons pe_int (pa_cons pe_int pa_nil))) (blkOk_by (own := [("k", 10)]) (N := NLa) (sc := defScope sLa) (by decide +kernel)) (fun _ _ _ _ _ => (pg_name (i := 10) scLa.nd rfl (Or.inl rfl))) (fun _ _ _ _ _ => pts_nil) (fun _ _ _ _ _ => (pe_op op_mul (pv 5) (pv 10))))
      (pss_cons (ps_expr (pe_bm PySem.F.plainAttrs_list PySem.F.slot_list_append PySem.F.type_list_append mt_append (pv 4) (pa_cons (pe_cmpR (op_eqD hr.units) (pe_lc (own := [("n", 11)]) (g := gName 11) rfl scLa.nd (pi_list (pv 6)) (blkOk_by (own := [("n", 11)]) (N := NLa) (sc := defScope sLa) (by decide +kernel)) (fun _ _ _ _ _ => (pg_name (i := 11) scLa.nd rfl (Or.inl rfl))) (fun _ _ _ _ _ => (pts_one (pt_val (pe_call GHa (hr.mono (by decide)) rfl mHa kHa bHa .nil pass0 (pa_cons (pv 2) (pa_cons (pv 11) pa_nil)))))) (fun _ _ _ _ _ => (pv 11))) (pe_lst pa_nil) (nomark _)) pa_nil)))
      (pss_one (ps_if (pt_cmpR op_ne (pe_call GIs (hr.mono (by decide)) rfl mIs kIs bIs .nil pass0 (pa_cons (pv 3) (pa_cons (pv 5) pa_nil))) (pe_ix ix_list (pv 4) (pe_un un_neg pe_int) (fun _ _ => rfl)) (nomark _)) (pss_one (ps_ret pe_bl)) pss_nil)))))
    (pss_cons (ps_set (i := 7) scLa.nd rfl (.inr rfl) (pe_call GSr (hr.mono (by decide)) rfl mSr kSr bSr .nil pass0 (pa_cons (pv 3) pa_nil)))
    (pss_cons (ps_if (PW.pt (pw_or (pt_cmpR (op_neD hr.units) (pe_lc (own := [("by_now", 5)]) (g := gName 5) rfl scLa.nd (pi_range2 rfl z_range (pa_cons pe_int (pa_cons pe_int pa_nil))) (blkOk_by (own := [("by_now", 5)]) (N := NLa) (sc := defScope sLa) (by decide +kernel)) (fun _ _ _ _ _ => (pg_name (i := 5) scLa.nd rfl (Or.inl rfl))) (fun _ _ _ _ _ => (pts_one (pt_cmpR op_ne (pe_call GIn (hr.mono (by decide)) rfl mIn kIn bIn .nil pass0 (pa_cons (pv 7) (pa_cons (pv 5) pa_nil))) (pe_ix (ix_listK (K := K) rfl) (pv 4) (pe_op op_sub (pv 5) pe_int) (fun _ _ => rfl)) (nomark _)))) (fun _ _ _ _ _ => (pv 5))) (pe_lst pa_nil) (nomark _)) (pw_or (pt_val (pe_call GIn (hr.mono (by decide)) rfl mIn kIn bIn .nil pass0 (pa_cons (pv 7) (pa_cons pe_int pa_nil)))) (pw_or1 (pt_val (pe_call GIn (hr.mono (by decide)) rfl mIn kIn bIn .nil pass0 (pa_cons (pv 7) (pa_cons pe_int pa_nil)))))))) (pss_one (ps_ret pe_bl)) pss_nil)
    (pss_cons (ps_if (pt_cmpR op_ne (pe_callB (call_reprD ns hr.units) rfl z_repr (by decide +kernel) (pa_cons (pv 7) pa_nil)) (pe_callB (call_reprD ns hr.units) rfl z_repr (by decide +kernel) (pa_cons (pe_call GLt (hr.mono (by decide)) rfl mLt kLt bLt .nil pass0 (pa_cons (pe_op op_cat (pe_lst (pa_cons pe_bl (pa_cons pe_bl pa_nil))) (pe_slice sl_list (pv 4) (po_some pe_int) po_none)) (pa_cons pe_int pa_nil))) pa_nil)) (nomark _)) (pss_one (ps_ret pe_bl)) pss_nil)
    (pss_cons (ps_setLc (i := 8) (own := [("by_now", 5)]) (g := gName 5) rfl scLa.nd rfl rfl (sw_true rfl rfl rfl (by decide +kernel)) (pi_range2 rfl z_range (pa_cons pe_int (pa_cons pe_int pa_nil))) (blkOk_by (own := [("by_now", 5)]) (N := NLa) (sc := defScope sLa) (by decide +kernel)) (fun _ _ _ _ _ => (pg_name (i := 5) scLa.nd rfl (Or.inl rfl))) (fun _ _ _ _ _ => (pts_one (pt_val (pe_ix (ix_listK (K := K) rfl) (pv 4) (pe_op op_sub (pv 5) pe_int) (fun _ _ => rfl))))) (fun _ _ _ _ _ => (pv 5)))
    (pss_cons (ps_if (pt_cmpR op_ne (pe_call GLr (hr.mono (by decide)) rfl mLr kLr bLr .nil pass0 (pa_cons (pv 3) pa_nil)) (pe_ifExp (pt_cmpR (op_neD hr.units) (pv 8) (pe_lst pa_nil) (nomark _)) (pe_ix ix_list (pv 8) pe_int (fun _ _ => rfl)) pe_non) (nomark _)) (pss_one (ps_ret pe_bl)) pss_nil)
    (pss_one (ps_if (pt_cmpR op_ne (pe_cmpR op_isN (pe_call GLr (hr.mono (by decide)) rfl mLr kLr bLr .nil pass0 (pa_cons (pv 3) pa_nil)) pe_non (nomark _)) (pe_call GIn (hr.mono (by decide)) rfl mIn kIn bIn .nil pass0 (pa_cons (pv 3) (pa_cons (pe_op op_mul (pe_ix ix_tup (pv 3) pe_int (fun _ _ => rfl)) (pe_op op_add (pe_ix ix_tup (pv 3) pe_int (fun _ _ => rfl)) pe_int)) pa_nil))) (nomark _)) (pss_one (ps_ret pe_bl)) pss_nil))))))))))))
  (pss_cons (ps_set (i := 9) scLa.nd rfl (.inl rfl) (pe_tup (pa_cons (pe_tup (pa_cons pe_int (pa_cons pe_int (pa_cons pe_int pa_nil)))) (pa_cons pe_int (pa_cons pe_int (pa_cons (pe_tup pa_nil) pa_nil))))))
  (pss_cons (ps_if (PW.pt (pw_or (pt_cmpR (op_neD hr.units) (pe_callW GSr (hr.mono (by decide)) rfl mSr kSr KBSrt pass0 (pk_cons (pv 9) pk_nil)) (pe_tup (pa_cons (pe_tup pa_nil) (pa_cons pe_int (pa_cons pe_int (pa_cons (pe_tup (pa_cons pe_int pa_nil)) pa_nil))))) (nomark _)) (pw_or1 (pt_cmpR op_ne (pe_callW GLr (hr.mono (by decide)) rfl mLr kLr KBLrt pass0 (pk_cons (pv 9) pk_nil)) pe_int (nomark _))))) (pss_one (ps_ret pe_bl)) pss_nil)
  (pss_one (ps_ret (pe_and (pe_cmpR op_is_bl (pe_callW GIs (hr.mono (by decide)) rfl mIs kIs KBIsbt pass0 (pk_cons pe_int (pk_cons (pv 9) pk_nil))) pe_bl (nomark _)) (pe_one (pe_cmpR op_is_bl (pe_callW GIs (hr.mono (by decide)) rfl mIs kIs KBIstb pass0 (pk_cons (pv 9) (pk_cons pe_int pk_nil))) pe_bl (nomark _))))))))), ?_⟩
  refine ⟨4, rfl, by decide, by decide, for_range (lo := 0) (n := 4) (fun i σ H1 => Same H H1 ∧ ∃ v1 v2 v3 v4 v5 v6 v7 v8, σ = [some (.ref a), v1, v2, v3, v4, v5, v6, v7, v8, none, none, none]) ⟨fun _ _ e => e, none, none, none, none, none, none, none, none, rfl⟩ ?_ ?_⟩
  · rintro i σ H0 hi ⟨s0, v1, v2, v3, v4, v5, v6, v7, v8, rfl⟩
    -- told_now
    refine ⟨_, rfl, _, rfl, a, nums, _, rfl, Same.sqL s0 hS, h63, fun fe c H1 s1 D hf hc => ?_⟩
    refine ⟨fe, c, rfl, D, fun ta H2 b t p r kp dr ht hp hp2 hb hr2 hlt hbt => ?_⟩
    have s02 : Same H H2 := s0.trans (kp_same s1 hf hc kp)
    clear kp D
    obtain ⟨sl, rl, d1, d2, d3⟩ := id dr
    dsimp only [gName]
    -- found
    refine ⟨_, rfl, ta, _, 0, .ref sl, rfl, rfl, SqT.of d1, rfl, ?_⟩
    refine ⟨_, rfl, ta, _, 1, .int (t : Int), rfl, rfl, SqT.of d1, rfl, ?_⟩
    refine ⟨_, rfl, ta, _, 2, .int (p : Int), rfl, rfl, SqT.of d1, rfl, ?_⟩
    refine ⟨_, rfl, ta, _, 3, .ref rl, rfl, rfl, SqT.of d1, rfl, ?_⟩
    refine ⟨sl, t, p, rl, b, r, rfl, .inl (SqL.of d2), .inl (SqL.of d3), by omega, by omega, by omega, hp, by omega, hlt, fun fa H3 b' t' p' r' s3 told canon ht' hp' => ?_⟩
    have dr := dr.keep s3
    have s03 := s02.trans s3
    clear d1 d2 d3 s02 s3
    have hpp := canon.pos
    have lb' : b'.length ≤ 6 := by rw [canon.be]; exact Nat.le_trans flt_len (by omega)
    have lr' : r'.length ≤ 12 := by rw [canon.re]; exact Nat.le_trans flt_len (by omega)
    have bb : ∀ n ∈ b', n < t' := fun n hn => by
      rw [canon.be] at hn
      exact (flt_mem.mp hn).1
    have br : ∀ n ∈ r', n < p' := fun n hn => by
      rw [canon.re] at hn
      exact (flt_mem.mp hn).1
    have eseq : seqOf b' t' p' r' = seqOf b t p r := funext fun n => by
      have := seq_canon canon.pos canon.per n
      rw [← canon.be, ← canon.re] at this
      exact this
    dsimp only [gName]
    -- safe = []
    refine ⟨(by show 0 ≤ sizeLine; decide), fun S nS => ?_⟩
    dsimp only [gName]
    have sS := Same.new (o := .lst []) nS
    have eS0 : (upd H3 S (.lst [])) S = some (.lst (tv (safeP b' t' p' r') 0)) := upd_same
    generalize (upd H3 S (.lst [])) = H4 at sS eS0 ⊢
    refine seq_first (fun σ H5 => Same H3 H5 ∧ H5 S = some (.lst (tv (safeP b' t' p' r') 60)) ∧ ∃ v5 v6, σ = [some (.ref a), some (.int ((0 : Int) + (i : Int))), some (.ref ta), some (.ref fa), some (.ref S), v5, v6, v7, v8, none, none, none]) ?_ ?_
    rotate_left
    · intro rest
      -- for by_now in range(1, 61)
      refine ⟨1, 61, rfl, ⟨by decide, by decide, by decide, by decide⟩, for_range (lo := 1) (n := 60) (fun j σ H5 => Same H3 H5 ∧ H5 S = some (.lst (tv (safeP b' t' p' r') j)) ∧ ∃ v5 v6, σ = [some (.ref a), some (.int ((0 : Int) + (i : Int))), some (.ref ta), some (.ref fa), some (.ref S), v5, v6, v7, v8, none, none, none]) ⟨sS, eS0, _, _, rfl⟩ ?_ (fun σ H5 z => rest σ H5 z)⟩
      rintro j σ H5 hj ⟨s5, eS, v5, v6, rfl⟩
      rw [show ((1 : Int) + (j : Int)) = ((j + 1 : Nat) : Int) by omega]
      -- multiples
      refine ⟨1, 40, rfl, ⟨by decide, by decide, by decide, by decide⟩, fun M hM => ?_⟩
      have n39 : ((40 : Int) - 1).toNat = 39 := rfl
      rw [n39]
      refine lc_f (walk_range (lo := 1) (n := 39)) (fun i => some (.int (((j + 1) * (i + 1) : Nat) : Int))) hM (by rw [sizeLine_eq]; decide) (fun _ _ => trivial) ?_ ?_
      · rintro x0 x H6 H6' hx0 s6 ⟨rfl, rfl⟩ OK NO ok no
        refine ⟨rfl, ?_⟩
        refine ⟨_, rfl, _, rfl, _, _, rfl, rfl, .inl ⟨by omega, by omega⟩, ok _ _ (fun _ _ e => e) ?_⟩
        show some (V.int (((j + 1) * (x0 + 1) : Nat) : Int)) = some (V.int (((j + 1 : Nat) : Int) * ((1 : Int) + (x0 : Int))))
        rw [show ((1 : Int) + (x0 : Int)) = ((x0 + 1 : Nat) : Int) by omega, ← Int.natCast_mul]
      intro H6 s6 eM
      have eM : H6 M = some (.lst (nv ((List.range 39).map fun i => (j + 1) * (i + 1)))) := by
        rw [eM]
        unfold nv
        rw [List.map_map, ← List.filterMap_eq_map]
        rfl
      generalize hmu : ((List.range 39).map fun i => (j + 1) * (i + 1)) = mu at eM
      have lmu : mu.length = 39 := by rw [← hmu, List.length_map, List.length_range]
      have eS6 := s6 _ _ eS
      have s36 := s5.trans s6
      dsimp only [gName]
      -- safe.append([..] == [])
      refine ⟨_, rfl, .inl ⟨rfl, _, SqL.of eS6⟩, ?_⟩
      refine ⟨_, rfl, M, rfl, ⟨_, SqL.of eM⟩, fun N hN => ?_⟩
      refine lc_s (walk_list (K := K) (a := M)) (selN (seqOf b t p r)) hN (by rw [List.length_map, lmu, sizeLine_eq]; decide) (fun H' s => SqL.of (s _ _ eM)) ?_ ?_
      · intro x H7 hx s7 OK NO ok no
        obtain ⟨z, hz, rfl⟩ := nv_mem hx
        refine ⟨rfl, ?_⟩
        refine ⟨_, rfl, _, rfl, ta, b, t, p, r, z, rfl, dr.keep (s36.trans s7), hp, _, rfl, ite2 (fun h => ?_) (fun h => ?_)⟩
        · exact ⟨_, rfl, ok _ _ (fun _ _ e => e) (if_pos h)⟩
        · exact no _ (fun _ _ e => e) (if_neg h)
      intro H7 s7 eN
      have eN : H7 N = some (.lst (nv (mu.filter (seqOf b t p r)))) := by rw [eN, sel_nv]
      refine ⟨(by show 0 ≤ sizeLine; decide), fun O hO => ?_⟩
      refine ⟨.list ((mu.filter (seqOf b t p r)).map dn), .list ([].map dn), .lst (SqL.of (Same.new hO _ _ eN)) (dp_nv _), .lst (SqL.of upd_same) .nil, nums_nv _, nums_nv [], ?_⟩
      rw [eqv_lst, ← hmu, forty_is hpp (by omega) (by omega) (by omega) bb br eseq]
      have s8 := s7.trans (Same.new (o := .lst []) hO)
      generalize (upd H7 O (.lst [])) = H8 at s8 ⊢
      have eS8 := s8 _ _ eS6
      refine ⟨S, _, _, rfl, rfl, eS8, (by rw [List.length_map, List.length_range, sizeLine_eq]; omega), ?_⟩
      rw [tv_snoc]
      have s9 : Same H3 (upd H8 S (.lst (tv (safeP b' t' p' r') (j + 1)))) := same_but (s36.trans s8) nS
      have eS9 : (upd H8 S (.lst (tv (safeP b' t' p' r') (j + 1)))) S = some (.lst (tv (safeP b' t' p' r') (j + 1))) := upd_same
      generalize (upd H8 S (.lst (tv (safeP b' t' p' r') (j + 1)))) = H9 at s9 eS9 ⊢
      clear s8 eS8 eN hO hN eM hM s6 s7 eS6 s36
      -- if is_safe_round(found, by_now) != safe[-1]
      refine ⟨_, rfl, _, rfl, fa, b', t', p', r', j + 1, rfl, told.keep s9, by omega, hpp, by omega, by omega, fun Ha sa => ?_⟩
      have eSa := sa _ _ eS9
      refine ⟨_, rfl, 1, rfl, S, _, -1, .bl (safeP b' t' p' r' (j + 1)), rfl, rfl, SqL.of eSa, ?_, rfl, _, rfl, ?_⟩
      · rw [← tv_snoc]
        exact atI_last _ _
      refine iteF' (by rw [decide_eq_true rfl]; rfl) ?_
      exact ⟨s9.trans sa, eSa, _, _, rfl⟩
    rintro σ H5 ⟨s5, eS, v5, v6, rfl⟩
    clear sS eS0 nS
    have told := told.keep s5
    have s05 := s03.trans s5
    clear s03 s5 dr
    generalize hf : safeP b' t' p' r' = fs at eS ⊢
    -- far = safe_rounds(found)
    refine ⟨_, rfl, fa, b', t', p', r', rfl, told, hpp, by omega, by omega, by omega, by omega, bb, fun ga H6 b2 t2 p2 r2 s6 told2 canon2 ht2 hp2' => ?_⟩
    have told := told.keep s6
    have eS := s6 _ _ eS
    have s06 := s05.trans s6
    clear s05 s6
    have g_is : ∀ n, seqOf b2 t2 p2 r2 n = gS b' t' p' r' n := fun n => by
      have := seq_canon canon2.pos canon2.per n
      rw [← canon2.be, ← canon2.re] at this
      exact this
    have g_hi : ∀ n, 2 ≤ n → gS b' t' p' r' n = fs n := fun n hn => by
      unfold gS
      rw [decide_eq_true hn, Bool.true_and, hf]
    have lb2 : b2.length ≤ 6 := by rw [canon2.be]; exact Nat.le_trans flt_len (by omega)
    have lr2 : r2.length ≤ 12 := by rw [canon2.re]; exact Nat.le_trans flt_len (by omega)
    have bb2 : ∀ n ∈ b2, n < 10000000 := fun n hn => by
      rw [canon2.be] at hn
      have := (flt_mem.mp hn).1
      omega
    have br2 : ∀ n ∈ r2, n < 10000000 := fun n hn => by
      rw [canon2.re] at hn
      have := (flt_mem.mp hn).1
      omega
    obtain ⟨w1, w2, w3, w4⟩ := show_told (t := t2) (p := p2) bb2 br2 (by omega) (by omega) (by omega) (by omega)
    dsimp only [gName]
    -- if [by_now for by_now in range(2, 61) if ..] != [] or ..
    refine ⟨2, 61, rfl, ⟨by decide, by decide, by decide, by decide⟩, fun M hM => ?_⟩
    have n59 : ((61 : Int) - 2).toNat = 59 := rfl
    rw [n59]
    refine lc_f (walk_range (lo := 2) (n := 59)) (fun _ => none) hM (by rw [sizeLine_eq]; decide) (fun _ _ => trivial) ?_ ?_
    · rintro j x H7 H7' hj s7 ⟨rfl, rfl⟩ OK NO ok no
      refine ⟨rfl, ?_⟩
      refine ⟨_, rfl, _, rfl, ga, b2, t2, p2, r2, j + 2, ?_, told2.keep s7, canon2.pos, ?_⟩
      · show [V.ref ga, V.int ((2 : Int) + (j : Int))] ++ [] = [V.ref ga, V.int ((j + 2 : Nat) : Int)]
        rw [show ((2 : Int) + (j : Int)) = ((j + 2 : Nat) : Int) by omega]
        rfl
      refine ⟨_, rfl, _, rfl, c_sub (k := ((j + 2 - 1 : Nat) : Int)) (by omega) ?_⟩
      refine ⟨S, _, _, .bl (fs (j + 2)), rfl, rfl, SqL.of (s7 _ _ eS), tv_at (by omega) (by omega), rfl, _, rfl, ?_⟩
      refine iteF' (by rw [g_is, g_hi _ (by omega), decide_eq_true rfl]; rfl) ?_
      exact no _ (fun _ _ e => e) rfl
    intro H7 s7 eM
    have eM : H7 M = some (.lst []) := by rw [eM]; simp
    refine ⟨(by show 0 ≤ sizeLine; decide), fun N hN => ?_⟩
    refine ⟨.list ([].map dn), .list ([].map dn), .lst (SqL.of (Same.new hN _ _ eM)) .nil, .lst (SqL.of upd_same) .nil, nums_nv [], nums_nv [], _, rfl, ?_⟩
    rw [eqv_lst]
    refine iteF' rfl ?_
    have s8 := s7.trans (Same.new (o := .lst []) hN)
    have told := told.keep s8
    have told2 := told2.keep s8
    have eS := s8 _ _ eS
    have s08 := s06.trans s8
    generalize (upd H7 N (.lst [])) = H8 at told told2 eS s08 ⊢
    clear s8 hN eM s7 hM s06
    refine ⟨_, rfl, ga, b2, t2, p2, r2, 0, rfl, told2, canon2.pos, _, rfl, ?_⟩
    refine iteF' (by rw [g_is]; rfl) ?_
    refine ⟨_, rfl, ga, b2, t2, p2, r2, 1, rfl, told2, canon2.pos, _, rfl, ?_⟩
    refine iteF' (by rw [g_is]; rfl) ?_
    -- if repr(far) != repr(..)
    refine ⟨_, rfl, ga, dTold b2 t2 p2 r2, rfl, told2.dp, w1, w2, w3, w4, ?_⟩
    refine ⟨(by show 2 ≤ sizeLine; decide), fun U hU => ?_⟩
    refine ⟨_, rfl, 1, rfl, S, _, rfl, SqL.of (Same.new hU _ _ eS), fun V1 hV => ?_⟩
    rw [cut_one]
    have sv := (Same.new (o := .lst [.bl false, .bl false]) hU).trans (Same.new (o := .lst ((tv fs 60).drop 1)) hV)
    have eU : (upd (upd H8 U (.lst [.bl false, .bl false])) V1 (.lst ((tv fs 60).drop 1))) U = some (.lst [.bl false, .bl false]) := Same.new hV _ _ upd_same
    have eV : (upd (upd H8 U (.lst [.bl false, .bl false])) V1 (.lst ((tv fs 60).drop 1))) V1 = some (.lst ((tv fs 60).drop 1)) := upd_same
    generalize (upd (upd H8 U (.lst [.bl false, .bl false])) V1 (.lst ((tv fs 60).drop 1))) = H9 at sv eU eV ⊢
    refine ⟨U, V1, _, _, rfl, rfl, eU, eV, (by rw [List.length_drop, List.length_map, List.length_range, sizeLine_eq]; show 2 + (60 - 1) ≤ _; omega), fun W hW => ?_⟩
    have sw := sv.trans (Same.new (o := .lst ([.bl false, .bl false] ++ (tv fs 60).drop 1)) hW)
    have eW : (upd H9 W (.lst ([.bl false, .bl false] ++ (tv fs 60).drop 1))) W = some (.lst (bv (gS b' t' p' r') 61)) := by
      rw [upd_same, ← tv_all, hf]
    generalize (upd H9 W (.lst ([.bl false, .bl false] ++ (tv fs 60).drop 1))) = Ha at sw eW ⊢
    refine ⟨W, 30, 61, gS b' t' p' r', max t' 2, p', rfl, eW, gS_per bb, hpp, by omega, by omega, by omega, by omega, fun a3 Hb b3 t3 p3 r3 sb told3 canon3 => ?_⟩
    obtain ⟨rfl, rfl, rfl, rfl⟩ := canon2.uniq canon3
    refine ⟨a3, dTold b2 t2 p2 r2, rfl, told3.dp, w1, w2, w3, w4, ?_⟩
    generalize (dTold b2 t2 p2 r2).shown = zz
    refine ⟨rfl, _, rfl, ?_⟩
    refine iteF' (by rw [decide_eq_true rfl]; rfl) ?_
    have s8b := sw.trans sb
    have told := told.keep s8b
    have eS := s8b _ _ eS
    have s0b := s08.trans s8b
    clear s8b sw sb eW hW eU eV hV hU sv s08 told2 told3 canon3 w1 w2 w3 w4
    -- due
    refine ⟨2, 61, rfl, ⟨by decide, by decide, by decide, by decide⟩, fun M hM => ?_⟩
    rw [n59]
    refine lc_f (walk_range (lo := 2) (n := 59)) (fun i => if (fun i => fs (2 + i)) i = true then some (.int (((2 : Nat) : Int) + (i : Int))) else none) hM (by rw [sizeLine_eq]; decide) (fun _ _ => trivial) ?_ ?_
    · rintro j x Hc Hc' hj sc ⟨rfl, rfl⟩ OK NO ok no
      refine ⟨rfl, ?_⟩
      refine ⟨_, rfl, _, rfl, c_sub (k := ((2 + j - 1 : Nat) : Int)) (by omega) ?_⟩
      refine ⟨S, _, _, .bl (fs (2 + j)), rfl, rfl, SqL.of (sc _ _ eS), tv_at (by omega) (by omega), _, rfl, ?_⟩
      refine ite2 (fun h => ?_) (fun h => ?_)
      · exact ⟨_, rfl, ok _ _ (fun _ _ e => e) (if_pos h)⟩
      · exact no _ (fun _ _ e => e) (if_neg h)
    intro Hc sc eD
    rw [from_lo] at eD
    have told := told.keep sc
    have s0c := s0b.trans sc
    clear sc hM s0b
    dsimp only [gName]
    have perf : ∀ n, max t' 2 ≤ n → fs (n + p') = fs n := fun n hn => by
      rw [← hf]
      exact safe_per (by omega) (by omega) bb
    -- if least_round(found) != ..
    refine seq_first (fun σ Hd => Same Hc Hd ∧ σ = [some (.ref a), some (.int ((0 : Int) + (i : Int))), some (.ref ta), some (.ref fa), some (.ref S), v5, v6, some (.ref ga), some (.ref M), none, none, none]) ?_ ?_
    · rintro σ Hd ⟨sd, rfl⟩
      -- if (least_round(found) is None) != is_in(found, ..)
      have toldd := told.keep sd
      refine ⟨_, rfl, fa, b', t', p', r', rfl, toldd, hpp, by omega, by omega, by omega, by omega, fun v He se lv => ?_⟩
      have tolde := toldd.keep se
      obtain ⟨bl1, rl1, g1, g2, g3⟩ := id tolde
      refine ⟨rfl, _, rfl, _, rfl, fa, _, 2, .int (p' : Int), rfl, rfl, g1, rfl, ?_⟩
      refine ⟨_, rfl, fa, _, 1, .int (t' : Int), rfl, rfl, g1, rfl, c_add (k := ((t' + 1 : Nat) : Int)) (by omega) ?_⟩
      refine ⟨_, _, rfl, rfl, .inl ⟨by omega, by omega⟩, fa, b', t', p', r', p' * (t' + 1), ?_, tolde, hpp, rfl, _, rfl, ?_⟩
      · show [V.ref fa, V.int ((p' : Int) * ((t' + 1 : Nat) : Int))] ++ [] = [V.ref fa, V.int ((p' * (t' + 1) : Nat) : Int)]
        rw [← Int.natCast_mul]
        rfl
      rw [hf] at lv
      rw [none_is (v := v) hpp (by omega) bb br (by rw [hf]; exact lv)]
      refine iteF' (by rw [decide_eq_true rfl]; rfl) ?_
      exact ⟨(s0c.trans sd).trans se, _, _, _, _, _, _, _, _, rfl⟩
    intro rest
    refine ⟨_, rfl, fa, b', t', p', r', rfl, told, hpp, by omega, by omega, by omega, by omega, fun v Hd sd lv => ?_⟩
    rw [hf] at lv
    have eDd := sd _ _ eD
    refine ⟨_, rfl, (by show 0 ≤ sizeLine; decide), fun N hN => ?_⟩
    refine ⟨.list ((((List.range 59).filter fun i => fs (2 + i)).map fun i => 2 + i).map dn), .list ([].map dn), .lst (SqL.of (Same.new hN _ _ eDd)) (dp_nv _), .lst (SqL.of upd_same) .nil, nums_nv _, nums_nv [], _, rfl, ?_⟩
    rw [eqv_lst]
    have sn := sd.trans (Same.new (o := .lst []) hN)
    have eDn := (Same.new (o := .lst []) hN) _ _ eDd
    generalize (upd Hd N (.lst [])) = He at sn eDn ⊢
    rcases first_due (st := max t' 2) (p := p') (m := 61) (by omega) hpp (by omega) perf lv with ⟨e, rfl⟩ | ⟨n, rst, e, rfl⟩
    · refine iteF' (by rw [decide_eq_true e]; rfl) ?_
      refine ⟨rfl, _, rfl, ?_⟩
      refine iteF' (by decide) ?_
      exact rest _ _ ⟨sn, rfl⟩
    · refine iteT' (by rw [decide_eq_false (by rw [e]; exact fun z => (nomatch z))]; rfl) ?_
      rw [e] at eDn
      refine ⟨_, rfl, M, _, 0, .int (n : Int), rfl, rfl, SqL.of eDn, (by exact atI_nat (j := 0) rfl), ?_⟩
      refine ⟨rfl, _, rfl, ?_⟩
      refine iteF' (by rw [decide_eq_true rfl]; rfl) ?_
      exact rest _ _ ⟨sn, rfl⟩
  · rintro σ H1 ⟨s1, v1, v2, v3, v4, v5, v6, v7, v8, rfl⟩
    -- zfound = ((0, 1, 2), 3, 1, ())
    refine ⟨(by show 3 ≤ sizeLine; decide), fun l1 n1 => ?_⟩
    refine ⟨(by show 0 ≤ sizeLine; decide), fun l2 n2 => ?_⟩
    refine ⟨(by show 4 ≤ sizeLine; decide), fun za n3 => ?_⟩
    have t1 := Same.new (o := .tup [.int 0, .int 1, .int 2]) n1
    have t2 := Same.new (o := .tup []) n2
    have t3 := Same.new (o := .tup [.ref l1, .int 3, .int 1, .ref l2]) n3
    have told : Told K _ za [0, 1, 2] 3 1 [] := ⟨l1, l2, SqT.of upd_same, SqT.of (t3 _ _ (t2 _ _ upd_same)), SqT.of (t3 _ _ upd_same)⟩
    generalize (upd (upd (upd H1 l1 (.tup [.int 0, .int 1, .int 2])) l2 (.tup [])) za (.tup [.ref l1, .int 3, .int 1, .ref l2])) = H2 at told ⊢
    clear t1 t2 t3 n1 n2 n3
    dsimp only [gName]
    -- if safe_rounds(told=zfound) != .. or least_round(told=zfound) != 3
    refine ⟨_, rfl, za, [0, 1, 2], 3, 1, [], rfl, told, by decide, by decide, by decide, by decide, by decide, by decide, fun fa H3 b t p r s3 told3 canon _ _ => ?_⟩
    obtain ⟨rfl, rfl, rfl, rfl⟩ := canon.uniq canonZ
    refine ⟨(by show 0 ≤ sizeLine; decide), fun q1 m1 => ?_⟩
    refine ⟨(by show 1 ≤ sizeLine; decide), fun q2 m2 => ?_⟩
    refine ⟨(by show 4 ≤ sizeLine; decide), fun q3 m3 => ?_⟩
    have t1 := Same.new (o := .tup []) m1
    have t2 := Same.new (o := .tup [.int 0]) m2
    have t3 := Same.new (o := .tup [.ref q1, .int 3, .int 1, .ref q2]) m3
    have told4 : Told K _ q3 [] 3 1 [0] := ⟨q1, q2, SqT.of upd_same, SqT.of (t3 _ _ (t2 _ _ upd_same)), SqT.of (t3 _ _ upd_same)⟩
    have told := told.keep (((s3.trans t1).trans t2).trans t3)
    refine ⟨dTold [] 3 1 [0], dTold [] 3 1 [0], (told3.keep ((t1.trans t2).trans t3)).dp, told4.dp, sh_told _ _ _ _, sh_told _ _ _ _, _, rfl, ?_⟩
    refine iteF' (by rw [eqv_told]; rfl) ?_
    refine ⟨_, rfl, za, [0, 1, 2], 3, 1, [], rfl, told, by decide, by decide, by decide, by decide, by decide, fun v H4 s4 lv => ?_⟩
    obtain rfl := leastZ lv
    refine ⟨rfl, _, rfl, ?_⟩
    refine iteF' (by decide) ?_
    have told := told.keep s4
    -- return is_safe_round(by=4, told=zfound) is True and ..
    refine ⟨_, rfl, za, [0, 1, 2], 3, 1, [], 4, rfl, told, by decide, by decide, by decide, by decide, fun H5 s5 => ?_⟩
    refine ⟨_, _, rfl, rfl, _, rfl, ?_⟩
    refine iteT' (by decide) ?_
    refine ⟨_, rfl, za, [0, 1, 2], 3, 1, [], 1, rfl, told.keep s5, by decide, by decide, by decide, by decide, fun H6 s6 => ?_⟩
    refine ⟨_, _, rfl, rfl, ?_⟩
    have eg : decide (safeP [0, 1, 2] 3 1 [] 1 = false) = true := by decide
    rw [eg]
    exact k _
end
end My

set_option Elab.async false
set_option linter.all false
set_option maxRecDepth 100000
set_option maxHeartbeats 4000000
namespace My
open PySem L2
theorem gSw_len {us ws : List Value} (h : (gSw us ws).length = 2) : ∃ n t, us = [] ∧ ws = [n, t] := by
  unfold gSw at h
  split at h
  · exact ⟨_, _, rfl, rfl⟩
  · cases h
theorem gId_len {us ws : List Value} (h : (gId us ws).length = 2) : ∃ n t, us = [] ∧ ws = [n, t] := by
  unfold gId at h
  split at h
  · exact ⟨_, _, rfl, rfl⟩
  · cases h
theorem gOn_len {us ws : List Value} (h : (gOn us ws).length = 1) : ∃ t, us = [] ∧ ws = [t] := by
  unfold gOn at h
  split at h
  · exact ⟨_, rfl, rfl⟩
  · cases h
theorem kb_sw {K : PySem.W.Frag} {fd : FuncData} (h : ∀ {s : Shared} (n t : Value), BindsTo s fd ⟨[], (["by", "told"] : List Str).zip [n, t]⟩ ((["told", "by"] : List Str).zip [t, n])) : KBinds K fd ["told", "by"] ["by", "told"] gSw vSw :=
  ⟨fun s us ws _ hl => by
    obtain ⟨n, t, rfl, rfl⟩ := gSw_len hl
    exact h n t, fun {vs us zs ws} a b => by
    match a, b with
    | .nil, .cons a1 (.cons a2 .nil) => exact .cons a2 (.cons a1 .nil)
    | .nil, .nil => exact .nil
    | .nil, .cons _ .nil => exact .nil
    | .nil, .cons _ (.cons _ (.cons _ _)) => exact .nil
    | .cons _ _, _ => exact .nil⟩
theorem kb_id {K : PySem.W.Frag} {fd : FuncData} (h : ∀ {s : Shared} (n t : Value), BindsTo s fd ⟨[], (["told", "by"] : List Str).zip [n, t]⟩ ((["told", "by"] : List Str).zip [n, t])) : KBinds K fd ["told", "by"] ["told", "by"] gId vId :=
  ⟨fun s us ws _ hl => by
    obtain ⟨n, t, rfl, rfl⟩ := gId_len hl
    exact h n t, fun {vs us zs ws} a b => by
    match a, b with
    | .nil, .cons a1 (.cons a2 .nil) => exact .cons a1 (.cons a2 .nil)
    | .nil, .nil => exact .nil
    | .nil, .cons _ .nil => exact .nil
    | .nil, .cons _ (.cons _ (.cons _ _)) => exact .nil
    | .cons _ _, _ => exact .nil⟩
theorem kb_on {K : PySem.W.Frag} {fd : FuncData} (h : ∀ {s : Shared} (t : Value), BindsTo s fd ⟨[], (["told"] : List Str).zip [t]⟩ ((["told"] : List Str).zip [t])) : KBinds K fd ["told"] ["told"] gOn vOn :=
  ⟨fun s us ws _ hl => by
    obtain ⟨t, rfl, rfl⟩ := gOn_len hl
    exact h t, fun {vs us zs ws} a b => by
    match a, b with
    | .nil, .cons a1 .nil => exact .cons a1 .nil
    | .nil, .nil => exact .nil
    | .nil, .cons _ (.cons _ _) => exact .nil
    | .cons _ _, _ => exact .nil⟩
theorem all_mk {l : PySem.W.OpenLaw} {w : World} {K : PySem.W.Frag} {h : Heap} {mg : Str → Option Value} {fa fIn fLp fNt fIs fSr fLr fLc fFe fTa fDt fHa fLt fLa : Addr} (X : K.In h) (G : h.Ns mainGlobals mg) (hfa : mg "law" = some (.ref fa))
    {odIn anIn odLp anLp odNt anNt odIs anIs odSr anSr odLr anLr odLc anLc odFe anFe odTa anTa odDt anDt odHa anHa odLt anLt odLa anLa : Option Addr} {slIn slLp slNt slIs slSr slLr slLc slFe slTa slDt slHa slLt slLa : Array (Option Value)} {ocIn kVIn dcIn pmIn cdIn ctIn ocLp kVLp dcLp pmLp cdLp ctLp ocNt kVNt dcNt pmNt cdNt ctNt ocIs kVIs dcIs pmIs cdIs ctIs ocSr kVSr dcSr pmSr cdSr ctSr ocLr kVLr dcLr pmLr cdLr ctLr ocLc kVLc dcLc pmLc cdLc ctLc ocFe kVFe dcFe pmFe cdFe ctFe ocTa kVTa dcTa pmTa cdTa ctTa ocDt kVDt dcDt pmDt cdDt ctDt ocHa kVHa dcHa pmHa cdHa ctHa ocLt kVLt dcLt pmLt cdLt ctLt ocLa kVLa dcLa pmLa cdLa ctLa : Value}
    (aIn : PySem.W.nsIn K mainGlobals "is_in" = some (some (.ref fIn)))
    (lIn : K.lookup fIn = some ⟨ocIn, odIn, .func (PySem.W.fnOf "is_in" "is_in" (defArgs sIn) (defBody sIn) (defScope sIn) .none kVIn dcIn pmIn anIn cdIn ctIn), slIn⟩)
    (cIn : PySem.W.codeIn K cdIn "is_in" = true)
    (kIn : PySem.W.keepIn K (.ref fIn) = true)
    (aLp : PySem.W.nsIn K mainGlobals "least_period" = some (some (.ref fLp)))
    (lLp : K.lookup fLp = some ⟨ocLp, odLp, .func (PySem.W.fnOf "least_period" "least_period" (defArgs sLp) (defBody sLp) (defScope sLp) .none kVLp dcLp pmLp anLp cdLp ctLp), slLp⟩)
    (cLp : PySem.W.codeIn K cdLp "least_period" = true)
    (kLp : PySem.W.keepIn K (.ref fLp) = true)
    (aNt : PySem.W.nsIn K mainGlobals "numbers_told" = some (some (.ref fNt)))
    (lNt : K.lookup fNt = some ⟨ocNt, odNt, .func (PySem.W.fnOf "numbers_told" "numbers_told" (defArgs sNt) (defBody sNt) (defScope sNt) .none kVNt dcNt pmNt anNt cdNt ctNt), slNt⟩)
    (cNt : PySem.W.codeIn K cdNt "numbers_told" = true)
    (kNt : PySem.W.keepIn K (.ref fNt) = true)
    (aIs : PySem.W.nsIn K mainGlobals "is_safe_round" = some (some (.ref fIs)))
    (lIs : K.lookup fIs = some ⟨ocIs, odIs, .func (PySem.W.fnOf "is_safe_round" "is_safe_round" (defArgs sIs) (defBody sIs) (defScope sIs) .none kVIs dcIs pmIs anIs cdIs ctIs), slIs⟩)
    (cIs : PySem.W.codeIn K cdIs "is_safe_round" = true)
    (kIs : PySem.W.keepIn K (.ref fIs) = true)
    (aSr : PySem.W.nsIn K mainGlobals "safe_rounds" = some (some (.ref fSr)))
    (lSr : K.lookup fSr = some ⟨ocSr, odSr, .func (PySem.W.fnOf "safe_rounds" "safe_rounds" (defArgs sSr) (defBody sSr) (defScope sSr) .none kVSr dcSr pmSr anSr cdSr ctSr), slSr⟩)
    (cSr : PySem.W.codeIn K cdSr "safe_rounds" = true)
    (kSr : PySem.W.keepIn K (.ref fSr) = true)
    (aLr : PySem.W.nsIn K mainGlobals "least_round" = some (some (.ref fLr)))
    (lLr : K.lookup fLr = some ⟨ocLr, odLr, .func (PySem.W.fnOf "least_round" "least_round" (defArgs sLr) (defBody sLr) (defScope sLr) .none kVLr dcLr pmLr anLr cdLr ctLr), slLr⟩)
    (cLr : PySem.W.codeIn K cdLr "least_round" = true)
    (kLr : PySem.W.keepIn K (.ref fLr) = true)
    (aLc : PySem.W.nsIn K mainGlobals "least_common" = some (some (.ref fLc)))
    (lLc : K.lookup fLc = some ⟨ocLc, odLc, .func (PySem.W.fnOf "least_common" "least_common" (defArgs sLc) (defBody sLc) (defScope sLc) .none kVLc dcLc pmLc anLc cdLc ctLc), slLc⟩)
    (cLc : PySem.W.codeIn K cdLc "least_common" = true)
    (kLc : PySem.W.keepIn K (.ref fLc) = true)
    (aFe : PySem.W.nsIn K mainGlobals "_law_feed" = some (some (.ref fFe)))
    (lFe : K.lookup fFe = some ⟨ocFe, odFe, .func (PySem.W.fnOf "_law_feed" "_law_feed" (defArgs sFe) (defBody sFe) (defScope sFe) .none kVFe dcFe pmFe anFe cdFe ctFe), slFe⟩)
    (cFe : PySem.W.codeIn K cdFe "_law_feed" = true)
    (kFe : PySem.W.keepIn K (.ref fFe) = true)
    (aTa : PySem.W.nsIn K mainGlobals "_law_take" = some (some (.ref fTa)))
    (lTa : K.lookup fTa = some ⟨ocTa, odTa, .func (PySem.W.fnOf "_law_take" "_law_take" (defArgs sTa) (defBody sTa) (defScope sTa) .none kVTa dcTa pmTa anTa cdTa ctTa), slTa⟩)
    (cTa : PySem.W.codeIn K cdTa "_law_take" = true)
    (kTa : PySem.W.keepIn K (.ref fTa) = true)
    (aDt : PySem.W.nsIn K mainGlobals "_law_drawn_told" = some (some (.ref fDt)))
    (lDt : K.lookup fDt = some ⟨ocDt, odDt, .func (PySem.W.fnOf "_law_drawn_told" "_law_drawn_told" (defArgs sDt) (defBody sDt) (defScope sDt) .none kVDt dcDt pmDt anDt cdDt ctDt), slDt⟩)
    (cDt : PySem.W.codeIn K cdDt "_law_drawn_told" = true)
    (kDt : PySem.W.keepIn K (.ref fDt) = true)
    (aHa : PySem.W.nsIn K mainGlobals "_law_has" = some (some (.ref fHa)))
    (lHa : K.lookup fHa = some ⟨ocHa, odHa, .func (PySem.W.fnOf "_law_has" "_law_has" (defArgs sHa) (defBody sHa) (defScope sHa) .none kVHa dcHa pmHa anHa cdHa ctHa), slHa⟩)
    (cHa : PySem.W.codeIn K cdHa "_law_has" = true)
    (kHa : PySem.W.keepIn K (.ref fHa) = true)
    (aLt : PySem.W.nsIn K mainGlobals "_law_told" = some (some (.ref fLt)))
    (lLt : K.lookup fLt = some ⟨ocLt, odLt, .func (PySem.W.fnOf "_law_told" "_law_told" (defArgs sLt) (defBody sLt) (defScope sLt) .none kVLt dcLt pmLt anLt cdLt ctLt), slLt⟩)
    (cLt : PySem.W.codeIn K cdLt "_law_told" = true)
    (kLt : PySem.W.keepIn K (.ref fLt) = true)
    (aLa : PySem.W.nsIn K mainGlobals "law" = some (some (.ref fLa)))
    (lLa : K.lookup fLa = some ⟨ocLa, odLa, .func (PySem.W.fnOf "law" "law" (defArgs sLa) (defBody sLa) (defScope sLa) .none kVLa dcLa pmLa anLa cdLa ctLa), slLa⟩)
    (cLa : PySem.W.codeIn K cdLa "law" = true)
    (kLa : PySem.W.keepIn K (.ref fLa) = true)
    (y_int : PySem.W.nsIn K mainGlobals "int" = some none)
    (y_abs : PySem.W.nsIn K mainGlobals "abs" = some none)
    (y_range : PySem.W.nsIn K mainGlobals "range" = some none)
    (y_tuple : PySem.W.nsIn K mainGlobals "tuple" = some none)
    (y_sorted : PySem.W.nsIn K mainGlobals "sorted" = some none)
    (y_set : PySem.W.nsIn K mainGlobals "set" = some none)
    (y_all : PySem.W.nsIn K mainGlobals "all" = some none)
    (y_any : PySem.W.nsIn K mainGlobals "any" = some none)
    (y_max : PySem.W.nsIn K mainGlobals "max" = some none)
    (y_len : PySem.W.nsIn K mainGlobals "len" = some none)
    (y_repr : PySem.W.nsIn K mainGlobals "repr" = some none)
    (y_gcd : PySem.W.nsIn K mainGlobals "gcd" = some (some (.builtin "math.gcd"))) :
    ∃ fd : FuncData, (∀ (s : Shared) (v : Value), BindsTo s fd ⟨[v], []⟩ [("script", v)]) ∧ ∀ base : Heap, K.In base → base.Ns mainGlobals mg → FnG l.prog w K mg base CX0 4 fa fd ["script"] (spLaw K) := by
  have e := hfa.symm.trans (PySem.W.mg_of X G aLa)
  cases e
  have FIn := fun_mk (st := sIn) lIn cIn kIn
  have bIn := FIn.binds (ps := ["told", "number"]) fun _ _ _ _ _ _ us hl => match us, hl with | [_, _], _ => rfl
  have mIn := PySem.W.mg_of X G aIn
  have FLp := fun_mk (st := sLp) lLp cLp kLp
  have bLp := FLp.binds (ps := ["period", "rests"]) fun _ _ _ _ _ _ us hl => match us, hl with | [_, _], _ => rfl
  have mLp := PySem.W.mg_of X G aLp
  have FNt := fun_mk (st := sNt) lNt cNt kNt
  have bNt := FNt.binds (ps := ["some", "tail", "period", "rests"]) fun _ _ _ _ _ _ us hl => match us, hl with | [_, _, _, _], _ => rfl
  have mNt := PySem.W.mg_of X G aNt
  have FIs := fun_mk (st := sIs) lIs cIs kIs
  have bIs := FIs.binds (ps := ["told", "by"]) fun _ _ _ _ _ _ us hl => match us, hl with | [_, _], _ => rfl
  have mIs := PySem.W.mg_of X G aIs
  have FSr := fun_mk (st := sSr) lSr cSr kSr
  have bSr := FSr.binds (ps := ["told"]) fun _ _ _ _ _ _ us hl => match us, hl with | [_], _ => rfl
  have mSr := PySem.W.mg_of X G aSr
  have FLr := fun_mk (st := sLr) lLr cLr kLr
  have bLr := FLr.binds (ps := ["told"]) fun _ _ _ _ _ _ us hl => match us, hl with | [_], _ => rfl
  have mLr := PySem.W.mg_of X G aLr
  have FLc := fun_mk (st := sLc) lLc cLc kLc
  have bLc := FLc.binds (ps := ["rows", "is_even"]) fun _ _ _ _ _ _ us hl => match us, hl with | [_, _], _ => rfl
  have mLc := PySem.W.mg_of X G aLc
  have FFe := fun_mk (st := sFe) lFe cFe kFe
  have bFe := FFe.binds (ps := ["script", "base"]) fun _ _ _ _ _ _ us hl => match us, hl with | [_, _], _ => rfl
  have mFe := PySem.W.mg_of X G aFe
  have FTa := fun_mk (st := sTa) lTa cTa kTa
  have bTa := FTa.binds (ps := ["feed", "wide"]) fun _ _ _ _ _ _ us hl => match us, hl with | [_, _], _ => rfl
  have mTa := PySem.W.mg_of X G aTa
  have FDt := fun_mk (st := sDt) lDt cDt kDt
  have bDt := FDt.binds (ps := ["feed"]) fun _ _ _ _ _ _ us hl => match us, hl with | [_], _ => rfl
  have mDt := PySem.W.mg_of X G aDt
  have FHa := fun_mk (st := sHa) lHa cHa kHa
  have bHa := FHa.binds (ps := ["told_now", "number"]) fun _ _ _ _ _ _ us hl => match us, hl with | [_, _], _ => rfl
  have mHa := PySem.W.mg_of X G aHa
  have FLt := fun_mk (st := sLt) lLt cLt kLt
  have bLt := FLt.binds (ps := ["some", "far"]) fun _ _ _ _ _ _ us hl => match us, hl with | [_, _], _ => rfl
  have mLt := PySem.W.mg_of X G aLt
  have FLa := fun_mk (st := sLa) lLa cLa kLa
  have z_int := PySem.W.mg_none_of X G y_int
  have z_abs := PySem.W.mg_none_of X G y_abs
  have z_range := PySem.W.mg_none_of X G y_range
  have z_tuple := PySem.W.mg_none_of X G y_tuple
  have z_sorted := PySem.W.mg_none_of X G y_sorted
  have z_set := PySem.W.mg_none_of X G y_set
  have z_all := PySem.W.mg_none_of X G y_all
  have z_any := PySem.W.mg_none_of X G y_any
  have z_max := PySem.W.mg_none_of X G y_max
  have z_len := PySem.W.mg_none_of X G y_len
  have z_repr := PySem.W.mg_none_of X G y_repr
  refine ⟨PySem.W.fnOf "law" "law" (defArgs sLa) (defBody sLa) (defScope sLa) .none kVLa dcLa pmLa anLa cdLa ctLa, fun s v => .of_eq rfl, fun base _ _ => ?_⟩
  have z_gcd : mg "gcd" = some (.builtin "math.gcd") := PySem.W.mg_of X G y_gcd
  have DIn : FnOk l.prog w K mg base CX0 1 fIn _ ["told", "number"] (spIn K) := ok_in FIn
  have DLp : FnOk l.prog w K mg base CX0 1 fLp _ ["period", "rests"] (spLp K) := ok_lp FLp z_range z_all
  have DNt : FnOk l.prog w K mg base CX0 2 fNt _ ["some", "tail", "period", "rests"] (spNt K) := ok_nt FNt DLp bLp kLp mLp DIn bIn kIn mIn z_tuple z_sorted z_set
  have DIs : FnOk l.prog w K mg base CX0 1 fIs _ ["told", "by"] (spIs K) := ok_is FIs z_any z_gcd
  have DSr : FnOk l.prog w K mg base CX0 3 fSr _ ["told"] (spSr K) := ok_sr FSr DIs bIs kIs mIs DNt bNt kNt mNt z_max z_range
  have DLc : FnOk l.prog w K mg base CX0 2 fLc _ ["rows", "is_even"] (spLc K) := ok_lc FLc DIs bIs kIs mIs z_max z_range z_all z_gcd
  have DLr : FnOk l.prog w K mg base CX0 3 fLr _ ["told"] (spLr K) := ok_lr FLr DLc bLc kLc mLc
  have DFe : FnOk l.prog w K mg base CX0 1 fFe _ ["script", "base"] (spFe K) := ok_fe FFe z_int z_abs
  have DTa : FnOk l.prog w K mg base CX0 1 fTa _ ["feed", "wide"] spTa := ok_ta FTa z_int
  have DDt : FnOk l.prog w K mg base CX0 2 fDt _ ["feed"] (spDt K) := ok_dt FDt DTa bTa kTa mTa z_range
  have DHa : FnOk l.prog w K mg base CX0 1 fHa _ ["told_now", "number"] (spHa K) := ok_ha FHa
  have DLt : FnOk l.prog w K mg base CX0 1 fLt _ ["some", "far"] (spLt K) := ok_lt FLt z_range z_len z_tuple
  exact ok_law FLa DDt bDt kDt mDt DFe bFe kFe mFe DHa bHa kHa mHa DNt bNt kNt mNt DLt bLt kLt mLt DIn bIn kIn mIn DIs bIs kIs mIs DSr bSr kSr mSr DLr bLr kLr mLr (kb_on fun _ => .of_eq rfl) (kb_on fun _ => .of_eq rfl) (kb_sw fun _ _ => .of_eq rfl) (kb_id fun _ _ => .of_eq rfl) z_range z_repr
theorem walk {l : PySem.W.OpenLaw} {q : Program} {loose : List Str} {XP : (Str → Option Value) → Heap → Prop} {YP : World → Heap → Prop} {d : DefRec} {K : Params → PySem.W.Frag} (hn : l.most = some 63) (hdf : d.params.defaults = [])
    (hY : ∀ (w : World) (h : Heap), YP w h → (K w.params).In h)
    (F : ∀ (w : World) (mg : Str → Option Value) (fa : Addr) (h : Heap), (K w.params).In h → h.Ns mainGlobals mg → mg d.name = some (.ref fa) →
      ∃ fd : FuncData, (∀ (s : Shared) (u : Value), BindsTo s fd ⟨[u], []⟩ [("script", u)]) ∧ ∀ base : Heap, (K w.params).In base → base.Ns mainGlobals mg → FnG l.prog w (K w.params) mg base CX0 4 fa fd ["script"] (spLaw (K w.params))) :
    PySem.W.WalkO q loose XP YP l.row.toRowW d [] (fun f vs => PySem.call f vs) :=
  walk_ofG (n := 63) (k := 4) (x := "script") (sp := fun w => spLaw (K w.params)) hn (by decide) hdf ⟨rfl, by decide, by decide⟩ hY F (fun _ _ a ns hl hS => ⟨a, ns, rfl, hS, hl, fun _ => rfl⟩)
end My
open PySem PySem.W PyProof.Rows
set_option maxRecDepth 100000 in
set_option maxHeartbeats 0 in
theorem PySem.Challenge.cw_unfooled_k48_safe_rounds_by_trying_holds : PySem.Challenge.rw_unfooled_k48_safe_rounds_by_trying.Holds := by
  w_on; o_law; k_head; (case hw => w_witness2)
  k_fill
  refine My.walk (l := PySem.Challenge.rw_unfooled_k48_safe_rounds_by_trying) rfl rfl (fun w h Y => PySem.W.kIn_of Y) ?F
  case F =>
    intro w mg fa h KX G hmg
    refine' My.all_mk KX G hmg ?aIn ?lIn ?cIn ?kIn ?aLp ?lLp ?cLp ?kLp ?aNt ?lNt ?cNt ?kNt ?aIs ?lIs ?cIs ?kIs ?aSr ?lSr ?cSr ?kSr ?aLr ?lLr ?cLr ?kLr ?aLc ?lLc ?cLc ?kLc ?aFe ?lFe ?cFe ?kFe ?aTa ?lTa ?cTa ?kTa ?aDt ?lDt ?cDt ?kDt ?aHa ?lHa ?cHa ?kHa ?aLt ?lLt ?cLt ?kLt ?aLa ?lLa ?cLa ?kLa ?y_int ?y_abs ?y_range ?y_tuple ?y_sorted ?y_set ?y_all ?y_any ?y_max ?y_len ?y_repr ?y_gcd
    (case aIn => k_is)
    (case lIn => k_is)
    (case cIn => k_is)
    (case kIn => k_is)
    (case aLp => k_is)
    (case lLp => k_is)
    (case cLp => k_is)
    (case kLp => k_is)
    (case aNt => k_is)
    (case lNt => k_is)
    (case cNt => k_is)
    (case kNt => k_is)
    (case aIs => k_is)
    (case lIs => k_is)
    (case cIs => k_is)
    (case kIs => k_is)
    (case aSr => k_is)
    (case lSr => k_is)
    (case cSr => k_is)
    (case kSr => k_is)
    (case aLr => k_is)
    (case lLr => k_is)
    (case cLr => k_is)
    (case kLr => k_is)
    (case aLc => k_is)
    (case lLc => k_is)
    (case cLc => k_is)
    (case kLc => k_is)
    (case aFe => k_is)
    (case lFe => k_is)
    (case cFe => k_is)
    (case kFe => k_is)
    (case aTa => k_is)
    (case lTa => k_is)
    (case cTa => k_is)
    (case kTa => k_is)
    (case aDt => k_is)
    (case lDt => k_is)
    (case cDt => k_is)
    (case kDt => k_is)
    (case aHa => k_is)
    (case lHa => k_is)
    (case cHa => k_is)
    (case kHa => k_is)
    (case aLt => k_is)
    (case lLt => k_is)
    (case cLt => k_is)
    (case kLt => k_is)
    (case aLa => k_is)
    (case lLa => k_is)
    (case cLa => k_is)
    (case kLa => k_is)
    (case y_int => k_is)
    (case y_abs => k_is)
    (case y_range => k_is)
    (case y_tuple => k_is)
    (case y_sorted => k_is)
    (case y_set => k_is)
    (case y_all => k_is)
    (case y_any => k_is)
    (case y_max => k_is)
    (case y_len => k_is)
    (case y_repr => k_is)
    (case y_gcd => k_is)

