/- The bytes of a store: counts, labels, pages: no program in it. -/
import Derived.Test.YtdogncjcainhlaaDoorPSum
namespace Go.Proofs.YtdogncjcainhlaaDoor
namespace Pu

/-- A count's bytes. -/
def countB (n : Nat) : List UInt8 :=
  if n < 128 then [UInt8.ofNat n]
  else if n < 16384 then [UInt8.ofNat (128 + n % 128), UInt8.ofNat (n / 128)]
  else [UInt8.ofNat (128 + n % 128), UInt8.ofNat (128 + n / 128 % 128), UInt8.ofNat (n / 16384)]
theorem countB_len (n : Nat) : 1 ≤ (countB n).length ∧ (countB n).length ≤ 3 := by
  unfold countB; split <;> (try split) <;> simp
/-- The bytes of hubs, so many places being ahead of the first. -/
def hubsB : Nat → List (Nat × Int) → List UInt8
  | _, [] => []
  | x, (r, f) :: t => countB (r - x) ++ countB f.toNat ++ hubsB (r + 1) t
def nxt : Nat → List (Nat × Int) → Nat
  | x, [] => x
  | _, (r, _) :: t => nxt (r + 1) t
theorem hubsB_snoc (r : Nat) (f : Int) : ∀ (l : List (Nat × Int)) (x : Nat), hubsB x (l ++ [(r, f)]) = hubsB x l ++ countB (r - nxt x l) ++ countB f.toNat
  | [], x => by simp [hubsB, nxt]
  | (a, b) :: t, x => by rw [List.cons_append, hubsB, hubsB_snoc r f t, hubsB, nxt]; simp [List.append_assoc]
theorem nxt_snoc (r : Nat) (f : Int) : ∀ (l : List (Nat × Int)) (x : Nat), nxt x (l ++ [(r, f)]) = r + 1
  | [], x => rfl
  | (a, b) :: t, x => by rw [List.cons_append, nxt]; exact nxt_snoc r f t _
theorem hubsB_len : ∀ (l : List (Nat × Int)) (x : Nat), (hubsB x l).length ≤ 6 * l.length
  | [], x => by simp [hubsB]
  | (a, b) :: t, x => by
    have h1 := countB_len (a - x)
    have h2 := countB_len b.toNat
    have h3 := hubsB_len t (a + 1)
    simp only [hubsB, List.length_append, List.length_cons]
    omega
/-- A label's bytes. -/
def labB (l : List (Nat × Int)) : List UInt8 := countB l.length ++ hubsB 0 l
theorem labB_len (l : List (Nat × Int)) : (labB l).length ≤ 3 + 6 * l.length := by
  have h1 := countB_len l.length
  have h2 := hubsB_len l 0
  rw [labB, List.length_append]; omega
/-- How many bytes the labels of the first places have, as counts. -/
def sizesB (L : Nat → List (Nat × Int)) : Nat → List UInt8
  | 0 => []
  | v + 1 => sizesB L v ++ countB (labB (L v)).length
/-- The labels of the first places. -/
def labsB (L : Nat → List (Nat × Int)) : Nat → List UInt8
  | 0 => []
  | v + 1 => labsB L v ++ labB (L v)
def headB (O : List Nat) : List UInt8 := 98 :: 119 :: UInt8.ofNat O.length :: O.map UInt8.ofNat
/-- What the pages hold. -/
def heldB (O : List Nat) (L : Nat → List (Nat × Int)) (n : Nat) : List UInt8 := headB O ++ sizesB L n ++ labsB L n
theorem headB_len (O : List Nat) : (headB O).length = O.length + 3 := by simp [headB]
theorem sizesB_len (L : Nat → List (Nat × Int)) : ∀ n, (sizesB L n).length ≤ 3 * n
  | 0 => by simp [sizesB]
  | v + 1 => by
    have h1 := countB_len (labB (L v)).length
    have h2 := sizesB_len L v
    rw [sizesB, List.length_append]; omega
theorem labsB_len (L : Nat → List (Nat × Int)) (m : Nat) : ∀ n, (∀ v, v < n → (L v).length ≤ m) → (labsB L n).length ≤ (3 + 6 * m) * n
  | 0, _ => by simp [labsB]
  | v + 1, h => by
    have h1 := labB_len (L v)
    have h2 := labsB_len L m v (fun x hx => h x (by omega))
    have h3 := h v (by omega)
    rw [labsB, List.length_append, Nat.mul_add (3 + 6 * m)]; omega
theorem sizesB_congr {L L' : Nat → List (Nat × Int)} : ∀ n, (∀ v, v < n → L v = L' v) → sizesB L n = sizesB L' n
  | 0, _ => rfl
  | v + 1, h => by rw [sizesB, sizesB, sizesB_congr v (fun x hx => h x (by omega)), h v (by omega)]
theorem labsB_congr {L L' : Nat → List (Nat × Int)} : ∀ n, (∀ v, v < n → L v = L' v) → labsB L n = labsB L' n
  | 0, _ => rfl
  | v + 1, h => by rw [labsB, labsB, labsB_congr v (fun x hx => h x (by omega)), h v (by omega)]
theorem heldB_congr {O : List Nat} {L L' : Nat → List (Nat × Int)} {n : Nat} (h : ∀ v, v < n → L v = L' v) : heldB O L n = heldB O L' n := by
  rw [heldB, heldB, sizesB_congr n h, labsB_congr n h]
theorem heldB_len {O : List Nat} {L : Nat → List (Nat × Int)} {n : Nat} (hO : O.length = n) (hn : n ≤ 40) (h : ∀ v, v < n → (L v).length ≤ n) : (heldB O L n).length ≤ 10000 ∧ 3 ≤ (heldB O L n).length := by
  have h1 := sizesB_len L n
  have h2 := labsB_len L n n h
  have h3 := headB_len O
  have h4 : (3 + 6 * n) * n ≤ 243 * 40 := Nat.mul_le_mul (by omega) hn
  rw [heldB, List.length_append, List.length_append]
  omega

/-- The bytes with as many bytes 0 as fill the last page. -/
def pad (s : List UInt8) : List UInt8 := s ++ List.replicate ((28 - s.length % 28) % 28) 0
theorem pad_mod (s : List UInt8) : (pad s).length % 28 = 0 := by
  rw [pad, List.length_append, List.length_replicate]; omega
theorem pad_len (s : List UInt8) : (pad s).length = 28 * ((s.length + 27) / 28) := by
  rw [pad, List.length_append, List.length_replicate]; omega
theorem pad_self {s : List UInt8} (h : s.length % 28 = 0) : pad s = s := by simp [pad, h]
/-- A sum's four bytes. -/
def sumB (n : Nat) : List UInt8 := [UInt8.ofNat (n / 16777216), UInt8.ofNat (n / 65536 % 256), UInt8.ofNat (n / 256 % 256), UInt8.ofNat (n % 256)]
/-- What a page holds, with its sum. -/
def sealB (p : Nat) (h : List UInt8) : List UInt8 := h ++ sumB (sumN (UInt8.ofNat (p / 256) :: UInt8.ofNat (p % 256) :: h))
/-- What page i holds. -/
def chunk (s : List UInt8) (i : Nat) : List UInt8 := (s.drop (28 * i)).take 28
def pageP (s : List UInt8) : Nat → List UInt8
  | 0 => []
  | i + 1 => pageP s i ++ sealB i (chunk s i)
def paged (s : List UInt8) : List UInt8 := pageP (pad s) ((pad s).length / 28)
theorem chunk_len {s : List UInt8} {i : Nat} (h : 28 * i + 28 ≤ s.length) : (chunk s i).length = 28 := by
  rw [chunk, List.length_take, List.length_drop]; omega
theorem sealB_len (p : Nat) (h : List UInt8) : (sealB p h).length = h.length + 4 := by simp [sealB, sumB]
theorem pageP_len (s : List UInt8) : ∀ i, 28 * i ≤ s.length → (pageP s i).length = 32 * i
  | 0, _ => rfl
  | i + 1, h => by
    rw [pageP, List.length_append, pageP_len s i (by omega), sealB_len, chunk_len (by omega)]; omega
theorem paged_len (s : List UInt8) : (paged s).length = 32 * ((s.length + 27) / 28) := by
  have h1 := pad_len s
  rw [paged, pageP_len _ _ (by omega)]; omega
theorem sumB_inj {a b : Nat} (ha : a < 4294967296) (hb : b < 4294967296) (e : sumB a = sumB b) : a = b := by
  have h (x : Nat) : (UInt8.ofNat x).toNat = x % 256 := by simp
  simp only [sumB, List.cons.injEq, and_true, ← UInt8.toNat_inj, h] at e
  omega
end Pu
end Go.Proofs.YtdogncjcainhlaaDoor
