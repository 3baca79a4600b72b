/- The walk of records.Write. -/
import Derived.Test.YtdogncjcainhlaaGreatDoorRecW
import Derived.Lib.SlBytesConst
import Derived.ArgAppend
namespace Go.Proofs.YtdogncjcainhlaaGreatDoor
open Go.RowKit Go.Deep
open Mem

/-- What holds ahead of each round of the second loop of records.Write: two rows of bytes, the ranks. -/
structure W2 (w : World) (rb n : Nat) (O : List Nat) (L : Nat → List (Nat × Int)) (v : Nat) (hv bb : Value) (wy : World) : Prop where
  held : wy.ownsRow w.heap.size 5 1 hv (Pu.headB O ++ Pu.sizesB L v).length (bv (Pu.headB O ++ Pu.sizesB L v))
  behind : wy.ownsRow w.heap.size 5 1 bb (Pu.labsB L v).length (bv (Pu.labsB L v))
  apart : ∀ q, hv.ownBlock = some q → bb.ownBlock ≠ some q
  hr : hv.ownBlock ≠ some rb
  br : bb.ownBlock ≠ some rb
  ranks : ∃ g, Ints wy rb n g ∧ ∀ j h : Nat, O[j]? = some h → g h = j
  turns : Turns (fun _ => False) w wy
theorem W2.then {w : World} {rb n : Nat} {O : List Nat} {L : Nat → List (Nat × Int)} {v : Nat} {hv bb : Value} {wy wz : World} (h : W2 w rb n O L v hv bb wy) (t : Turns (fun _ => False) wy wz) : W2 w rb n O L v hv bb wz := by
  obtain ⟨g, g1, g2⟩ := h.ranks
  exact ⟨owns_turns h.held t, owns_turns h.behind t, h.apart, h.hr, h.br, ⟨g, g1.turns t (fun x => x), g2⟩, h.turns.trans t⟩
set_option maxRecDepth 100000 in
set_option maxHeartbeats 4000000 in
/-- records.Write. -/
theorem recWrite_any (w : World) (ob n ocap lcap : Nat) (a : Option Addr) (D : Nat → Nat → Int) (O : List Nat) (hn1 : 1 ≤ n) (hn : n ≤ 40) (hO : Ord w ob n O) (hP : Pu.Perm n O) (hR : RdAt w a (Pu.labP D O n))
    (hF : ∀ (v i r : Nat) (f : Int), v < n → (Pu.hubK D O v n)[i]? = some (r, f) → r < n ∧ Pu.nxt 0 ((Pu.hubK D O v n).take i) ≤ r ∧ 0 ≤ f ∧ f ≤ 40000) :
    Calls Tryz.prog 25 #[.slice (some ⟨ob, 0, none⟩) n ocap, .slice a (Pu.labP D O n).length lcap] w fun e w' => e = .returned (.string ⟨(Pu.heldB O (fun v => Pu.hubK D O v n) n).toArray⟩) ∧ Turns (fun _ => False) w w' := by
  obtain ⟨i0, hi, hz0, hz1, hz2⟩ := info_parts info5
  have kc := fun (W : World) (C : Array Value) (m c : Nat) => Lib.run_convert_bytes_const (P := Tryz.prog) W 31 5 C m c Tryz.underlying31 Tryz.underlying5
  obtain ⟨ll, hll⟩ : ∃ ll, (Pu.labP D O n).length = ll := ⟨_, rfl⟩
  have HLL : Hid ((Pu.labP D O n).length = ll) := hll
  rw [hll]
  have HR : Hid (RdAt w a (Pu.labP D O n)) := hR
  have HO : Hid (Ord w ob n O) := hO
  clear hR hO hll
  go_enter Tryz.func25, Tryz.ntmps25
  go_wp2_with (at_builtin; refine wpList_append_grows _ rfl _ _ 31 rfl 5 i0 (.int .u8 0) 1 1 Tryz.underlying31 hi hz0 hz1 hz2 rfl (by decide) (some ⟨w.heap.size, 0, none⟩) 2 2 [.int .u8 98, .int .u8 119] rfl (by intro c; cases c) rfl ?_ ⟨w.heap.size + 1, 0, none⟩ 1 1 [.int .u8 (n : Int)] rfl rfl ?_ ?_ (by omega) (by unfold maxLen; omega) (by omega) ?_)
  · intro b hb j u hj
    injection hb with hb
    subst hb
    rw [addr_add]
    refine (Turns.cell (p := fun _ => False) ((Turns.refl _ (w.alloc (.cells #[.int .u8 98, .int .u8 119] 5 (2, 3)))).alloc _) (a := ⟨w.heap.size, j, none⟩) (by simp) (fun x => x)).trans ?_
    have hc : (w.alloc (.cells #[.int .u8 98, .int .u8 119] 5 (2, 3))).heap[w.heap.size]? = some (.cells #[.int .u8 98, .int .u8 119] 5 (2, 3)) := Array.getElem?_push_size
    rw [Lib.cell_of_heap hc, ← Array.getElem?_toList]
    exact hj
  · intro j u hj
    rw [addr_add]
    have := World.cell?_alloc_new (w.alloc (.cells #[.int .u8 98, .int .u8 119] 5 (2, 3))) #[.int .u8 (n : Int)] 5 j
    simp only [World.size_alloc] at this
    rw [this, ← Array.getElem?_toList]
    exact hj
  · intro u hu; simp at hu; subst hu; rfl
  intro v0 w2 hown2 hgrow2
  have hT2 : Turns (fun _ => False) w w2 := (((Turns.refl _ w).alloc _).alloc _).grown hgrow2 (fun q hq => by cases hq)
  have hs2 := hT2.size
  have hOl : O.length = n := HO.out.1
  have HH0 : Hid (w2.ownsRow w.heap.size 5 1 v0 (98 :: 119 :: UInt8.ofNat n :: (O.take 0).map UInt8.ofNat).length (bv (98 :: 119 :: UInt8.ofNat n :: (O.take 0).map UInt8.ofNat)) ∧ Turns (fun _ => False) w w2) := by
    refine ⟨?_, hT2⟩
    have e : bv (98 :: 119 :: UInt8.ofNat n :: (O.take 0).map UInt8.ofNat) = [Value.int .u8 98, .int .u8 119] ++ [.int .u8 (n : Int)] := by
      show Value.int .u8 98 :: Value.int .u8 119 :: bv [UInt8.ofNat n] = _
      rw [bv_one_ofNat (by omega)]; rfl
    rw [e]
    exact owns_mono hown2 (by omega)
  clear hown2 hgrow2 hT2
  have hmk := run_make_row' (P := Tryz.prog) 55 3 (.int .i64 0) 8 Tryz.underlying55 info3 rfl .i64 .i64 n (by omega) (by omega)
  have H1 : Hid (∃ (i : Nat) (x : Value) (wy : World) (g : Nat → Int), x = v0 ∧ Value.int .i64 0 = .int .i64 (i : Int) ∧ i ≤ n ∧ wy = w2.alloc (.cells (madeCells #[.int .i64 0] n) 3) ∧ Hid (wy.ownsRow w.heap.size 5 1 x (98 :: 119 :: UInt8.ofNat n :: (O.take i).map UInt8.ofNat).length (bv (98 :: 119 :: UInt8.ofNat n :: (O.take i).map UInt8.ofNat)) ∧ Turns (fun _ => False) w wy ∧ Ints wy w2.heap.size n g ∧ (∀ j h : Nat, j < i → O[j]? = some h → g h = j) ∧ x.ownBlock ≠ some w2.heap.size)) := by
    refine ⟨0, v0, _, fun _ => 0, rfl, rfl, Nat.zero_le _, rfl, HH0.out.1.alloc _, HH0.out.2.alloc _, Ints.made _ _ _ _, fun j h hj => by omega, fun c => ?_⟩
    have := (HH0.out.1.lt _ c).2
    omega
  clear HH0
  go_wp2
  go_loopw [5, 24] (fun xv iv wr => ∃ (i : Nat) (x : Value) (wy : World) (g : Nat → Int), x = xv ∧ iv = .int .i64 (i : Int) ∧ i ≤ n ∧ wy = wr ∧ Hid (wy.ownsRow w.heap.size 5 1 x (98 :: 119 :: UInt8.ofNat n :: (O.take i).map UInt8.ofNat).length (bv (98 :: 119 :: UInt8.ofNat n :: (O.take i).map UInt8.ofNat)) ∧ Turns (fun _ => False) w wy ∧ Ints wy w2.heap.size n g ∧ (∀ j h : Nat, j < i → O[j]? = some h → g h = j) ∧ x.ownBlock ≠ some w2.heap.size)) (fun _ iv _ => n - (intOf iv).toNat)
  case atStart => exact H1.out
  case round =>
    clear H1 hmk
    obtain ⟨i, x, wr, g, hx, rfl, hin, hwy, HI⟩ := hrel
    subst hwy hx
    by_cases hlt : i < n
    · have hii : (i : Int) < (n : Int) := by omega
      obtain ⟨m, hm⟩ : ∃ m, O[i]? = some m := ⟨_, List.getElem?_eq_getElem (by omega)⟩
      obtain ⟨hmn, hcm⟩ := HO.out.2 i m hm
      obtain ⟨o1, o2, o3, o4, o5⟩ := HI.out
      have e1 := (o2.cell (a := ⟨ob, i, none⟩) (World.block_lt_of_cell? _ _ hcm) (fun x => x)).trans hcm
      obtain ⟨l2, hl2⟩ : ∃ l2, l2 = (98 :: 119 :: UInt8.ofNat n :: (O.take i).map UInt8.ofNat) ++ [UInt8.ofNat m] := ⟨_, rfl⟩
      have HL2 : Hid (l2 = (98 :: 119 :: UInt8.ofNat n :: (O.take i).map UInt8.ofNat) ++ [UInt8.ofNat m] ∧ l2 = 98 :: 119 :: UInt8.ofNat n :: (O.take (i + 1)).map UInt8.ofNat) := by
        refine ⟨hl2, ?_⟩
        rw [hl2, List.take_add_one, hm, Option.toList_some, List.map_append]; rfl
      have HOB : Hid (OwnB wr x w.heap.size x (98 :: 119 :: UInt8.ofNat n :: (O.take i).map UInt8.ofNat) wr) := OwnB.refl o1
      have HSZ : Hid (w.heap.size ≤ wr.heap.size ∧ (98 :: 119 :: UInt8.ofNat n :: (O.take i).map UInt8.ofNat).length ≤ 200000) := by
        refine ⟨o2.size, ?_⟩
        simp; omega
      clear hl2 o1 o2 o3 o4 o5
      go_wp2_with (at_builtin; refine wpList_append_byte rfl _ _ rfl wr wr x x w.heap.size _ l2 _ m HL2.out.1 rfl (by omega) HOB.out HSZ.out.1 HSZ.out.2 rfl rfl ?_)
      intro x' w3 hB
      obtain ⟨o1, o2, o3, o4, o5⟩ := HI.out
      have hI3 : Ints w3 w2.heap.size n g := o3.turns hB.turns o5
      have d1 := hI3.cell m hmn
      have d2 := hI3.free m hmn
      have HX : Hid (∃ (i' : Nat) (y : Value) (wy : World) (g' : Nat → Int), y = x' ∧ Value.int .i64 ((i : Int) + 1) = .int .i64 (i' : Int) ∧ i' ≤ n ∧ wy = w3.setCell ⟨w2.heap.size, m, none⟩ (.int .i64 (i : Int)) ∧ Hid (wy.ownsRow w.heap.size 5 1 y (98 :: 119 :: UInt8.ofNat n :: (O.take i').map UInt8.ofNat).length (bv (98 :: 119 :: UInt8.ofNat n :: (O.take i').map UInt8.ofNat)) ∧ Turns (fun _ => False) w wy ∧ Ints wy w2.heap.size n g' ∧ (∀ j h : Nat, j < i' → O[j]? = some h → g' h = j) ∧ y.ownBlock ≠ some w2.heap.size)) := by
        have hne : x'.ownBlock ≠ some w2.heap.size := by
          intro c
          rcases hB.block _ c with h | h
          · exact o5 h
          · have := o3.lt; omega
        refine ⟨i + 1, x', _, upd g m i, rfl, by go_num, by omega, rfl, ownsRow_setCell_other (by rw [← HL2.out.2]; exact hB.own) hne _, (turns_over o2 hB.turns (fun b hb => (o1.lt b hb).1)).setCell (Or.inl hs2) _, hI3.set hmn _, ?_, hne⟩
        intro j h hj hjh
        by_cases e : j = i
        · subst e
          rw [hm] at hjh
          injection hjh with hjh
          subst hjh
          exact upd_same _ _ _
        · have hne2 : h ≠ m := by
            rintro rfl
            exact e (Pu.nodup_idx hP.nodup hjh hm)
          rw [upd_other _ _ _ _ hne2]
          exact o4 j h (by omega) hjh
      clear HI HOB HSZ HL2 hB o1 o2 o3 o4 o5 hI3 hcm e1 hm
      go_wp2
      go_roundw
      case rel => exact HX.out
      case measure => simp [intOf]; omega
    · have hii : ¬ (i : Int) < (n : Int) := by omega
      have hin2 : i = n := by omega
      obtain ⟨L, hL⟩ : ∃ L, L = fun v => Pu.hubK D O v n := ⟨_, rfl⟩
      have HW0 : Hid (W2 w w2.heap.size n O L 0 x (.slice none 0 0) wr) := by
        obtain ⟨o1, o2, o3, o4, o5⟩ := HI.out
        have e : 98 :: 119 :: UInt8.ofNat n :: (O.take i).map UInt8.ofNat = Pu.headB O ++ Pu.sizesB L 0 := by
          rw [List.take_of_length_le (by omega), Pu.headB, hOl]; simp [Pu.sizesB]
        rw [e] at o1
        exact ⟨o1, World.ownsRow_nil _ _ _ _, fun q _ c => (by cases c), o5, fun c => (by cases c), ⟨g, o3, fun j h hj => o4 j h (by have := (List.getElem?_eq_some_iff.1 hj).1; omega) hj⟩, o2⟩
      have HF : Hid (∀ (v i r : Nat) (f : Int), v < n → (L v)[i]? = some (r, f) → r < n ∧ Pu.nxt 0 ((L v).take i) ≤ r ∧ 0 ≤ f ∧ f ≤ 40000) := by rw [hL]; exact hF
      have HLF : Hid (∀ v, v < n → (Pu.labP D O n).filter (fun r => r.1 == v) = (L v).map (fun x => (v, O.getD x.1 0, x.2)) ∧ (L v).length ≤ n) := by
        intro v hv
        rw [Pu.labP_filter, if_pos hv, hOl, Pu.hubK_lab, hL]
        exact ⟨rfl, Pu.hubK_len _ _ _ _⟩
      have HE : Hid (Pu.heldB O (fun v => Pu.hubK D O v n) n = Pu.headB O ++ Pu.sizesB L n ++ Pu.labsB L n) := by rw [hL]; rfl
      have hll : ll ≤ 1600 := by
        have := Pu.labP_len D O n
        have h2 : n * O.length ≤ 40 * 40 := Nat.mul_le_mul (by omega) (by omega)
        have := HLL.out
        omega
      clear HI hL hF hin2
      go_wp2
      go_loopw [5, 9, 41] (fun xv bw vv wr => ∃ (v : Nat) (x y : Value) (wy : World), x = xv ∧ y = bw ∧ vv = .int .i64 (v : Int) ∧ v ≤ n ∧ wy = wr ∧ Hid (W2 w w2.heap.size n O L v x y wy)) (fun _ _ vv _ => n - (intOf vv).toNat)
      case atStart => exact ⟨0, x, _, wr, rfl, rfl, rfl, Nat.zero_le _, rfl, HW0.out⟩
      case round =>
        clear HW0
        obtain ⟨v, x, y, wr, hx, hy, rfl, hvn, hwy, HW⟩ := hrel
        subst hwy hx hy
        by_cases hlt : v < n
        · have hvi : (v : Int) < (n : Int) := by omega
          have hRr := HR.out.turns HW.out.turns
          have ch := hubsOf_any wr v lcap a (Pu.labP D O n) (by rw [HLL.out]; exact hll) hRr
          rw [(HLF.out v hlt).1, HLL.out] at ch
          clear hRr
          go_wp2_with fail
          refine ch.mono ?_
          rintro e w3 ⟨hT3, xh, rfl, hown3⟩
          obtain ⟨ah, chp, hxh, hRd⟩ := rdAt_own hown3
          rw [List.length_map] at hxh
          subst hxh
          have HW3 : Hid (W2 w w2.heap.size n O L v x y w3) := HW.out.then hT3
          have cl := writeLabel_any w3 w2.heap.size n n chp v ah (L v) (fun r => O.getD r 0) (by have := (HLF.out v hlt).2; omega) hn hRd (fun i r f h => HF.out v i r f hlt h) (by
            intro i r f h
            obtain ⟨f1, _⟩ := HF.out v i r f hlt h
            obtain ⟨g, g1, g2⟩ := HW3.out.ranks
            obtain ⟨m, hm⟩ : ∃ m, O[r]? = some m := ⟨_, List.getElem?_eq_getElem (by omega)⟩
            have hmn := hP.lt m (List.mem_of_getElem? hm)
            have e : O.getD r 0 = m := by rw [List.getD_eq_getElem?_getD, hm]; rfl
            simp only [e]
            exact ⟨hmn, by rw [g1.cell m hmn, g2 r m hm]⟩)
          clear ch hown3 hRd hT3 HW
          go_wp2_with fail
          refine cl.mono ?_
          rintro e w4 ⟨xl, rfl, hB4⟩
          have HB4 : Hid (OwnB w3 (.slice none 0 0) w3.heap.size xl (Pu.labB (L v)) w4) := hB4
          have HW4 : Hid (W2 w w2.heap.size n O L v x y w4) := HW3.out.then hB4.turns0
          have hlb := Pu.labB_len (L v)
          have hlb2 := (HLF.out v hlt).2
          have hl0 := (Pu.countB_len (L v).length).1
          have hl1 : 1 ≤ (Pu.labB (L v)).length := by rw [Pu.labB, List.length_append]; omega
          obtain ⟨m, hm⟩ : ∃ m, (Pu.labB (L v)).length = m + 1 := ⟨(Pu.labB (L v)).length - 1, by omega⟩
          have hB4o := hB4.own
          rw [hm] at hB4o
          obtain ⟨gl, cpl, hxl⟩ := owns_form hB4o
          subst hxl
          have hglb : w3.heap.size ≤ gl := by
            rcases hB4.block gl rfl with c | c
            · cases c
            · exact c
          have hgll : gl < w4.heap.size := (hB4.own.lt gl rfl).2
          have ca := cappend_any x (m + 1) w.heap.size (Pu.headB O ++ Pu.sizesB L v) w4 HW4.out.held HW4.out.turns.size (by
            rw [List.length_append, Pu.headB_len]
            have := Pu.sizesB_len L v
            omega) (by omega)
          have HXB : Hid (∀ b, x.ownBlock = some b → b < w3.heap.size) := fun b hb => (HW3.out.held.lt b hb).2
          have HYB : Hid (∀ b, y.ownBlock = some b → b < w3.heap.size) := fun b hb => (HW3.out.behind.lt b hb).2
          clear cl hB4 hB4o HW3
          go_wp2_with fail
          refine ca.mono ?_
          rintro e w5 ⟨x5, rfl, hB5⟩
          have hs5 := hB5.turns.size
          have hcells5 : ∀ (j : Nat) (b : UInt8), (Pu.labB (L v))[j]? = some b → w5.cell? ((⟨gl, 0, none⟩ : Addr).add j) = some (.int .u8 (b.toNat : Int)) := by
            intro j b hj
            rw [addr_add]
            refine (hB5.turns.cell (a := ⟨gl, j, none⟩) hgll ?_).trans ?_
            · intro c
              have : gl < w3.heap.size := HXB.out gl c
              omega
            · have := HB4.out.own.cells (g := gl) (by rw [← hm]; rfl) j (.int .u8 (b.toNat : Int)) (by rw [bv, List.getElem?_map, hj]; rfl)
              rwa [addr_add] at this
          have HB5 : Hid (OwnB w4 x w.heap.size x5 (Pu.headB O ++ Pu.sizesB L v ++ Pu.countB (m + 1)) w5) := hB5
          have HY5 : Hid (OwnB w5 y w.heap.size y (Pu.labsB L v) w5) := OwnB.refl (owns_over HW4.out.behind hB5.turns (fun b hb c => HW4.out.apart b c hb))
          have HS5 : Hid (w.heap.size ≤ w5.heap.size ∧ (Pu.labsB L v).length + (m + 1) ≤ 200000) := by
            refine ⟨Nat.le_trans HW4.out.turns.size hs5, ?_⟩
            have := Pu.labsB_len L n v (fun u hu => (HLF.out u (by omega)).2)
            have h2 : (3 + 6 * n) * v ≤ 243 * 40 := Nat.mul_le_mul (by omega) (by omega)
            omega
          have HC5 : Hid (∀ (j : Nat) (b : UInt8), (Pu.labB (L v))[j]? = some b → w5.cell? ((⟨gl, 0, none⟩ : Addr).add j) = some (.int .u8 (b.toNat : Int))) := hcells5
          have HM : Hid ((Pu.labB (L v)).length = m + 1) := hm
          obtain ⟨l2, hl2⟩ : ∃ l2, l2 = Pu.labsB L v ++ Pu.labB (L v) := ⟨_, rfl⟩
          have HL2 : Hid (l2 = Pu.labsB L v ++ Pu.labB (L v)) := hl2
          clear ca hB5 hcells5 hm hl2
          go_wp2_with (at_builtin; refine wpList_append_bytes rfl _ _ rfl w5 w5 y y w.heap.size (Pu.labsB L v) (Pu.labB (L v)) l2 ⟨gl, 0, none⟩ (m + 1) cpl HL2.out HM.out HC5.out HY5.out HS5.out.1 HS5.out.2 rfl rfl ?_)
          intro y6 w6 hB6
          have HX : Hid (W2 w w2.heap.size n O L (v + 1) x5 y6 w6) := by
            obtain ⟨g, g1, g2⟩ := HW4.out.ranks
            have b5 := HB5.out
            have i5 : Ints w5 w2.heap.size n g := g1.turns b5.turns HW4.out.hr
            have i6 : Ints w6 w2.heap.size n g := i5.turns hB6.turns HW4.out.br
            have t5 : Turns (fun _ => False) w w5 := turns_over HW4.out.turns b5.turns (fun b hb => (HW4.out.held.lt b hb).1)
            have t6 : Turns (fun _ => False) w w6 := turns_over t5 hB6.turns (fun b hb => (HW4.out.behind.lt b hb).1)
            have ap : ∀ q, x5.ownBlock = some q → y.ownBlock ≠ some q := by
              intro q hq c
              rcases b5.block q hq with h | h
              · exact HW4.out.apart q h c
              · have := HYB.out q c
                omega
            refine ⟨?_, ?_, ?_, ?_, ?_, ⟨g, i6, g2⟩, t6⟩
            · rw [Pu.sizesB, HM.out, ← List.append_assoc]
              exact owns_over b5.own hB6.turns (fun b hb c => ap b hb c)
            · rw [Pu.labsB, ← HL2.out]; exact hB6.own
            · intro q hq c
              rcases hB6.block q c with h | h
              · exact ap q hq h
              · have := (b5.own.lt q hq).2
                omega
            · intro c
              rcases b5.block _ c with h | h
              · exact HW4.out.hr h
              · have := g1.lt; omega
            · intro c
              rcases hB6.block _ c with h | h
              · exact HW4.out.br h
              · have := i5.lt; omega
          clear hB6 HB5 HY5 HS5 HC5 HM HL2 HW4 HB4 HXB HYB
          go_wp2
          go_roundw
          case rel => exact ⟨v + 1, x5, y6, w6, rfl, rfl, by go_num, by omega, rfl, HX.out⟩
          case measure => simp [intOf]; omega
        · have hvi : ¬ (v : Int) < (n : Int) := by omega
          have hvn2 : v = n := by omega
          have HV : Hid (W2 w w2.heap.size n O L n x y wr) := hvn2 ▸ HW.out
          clear HW hvn2
          obtain ⟨M, hM⟩ : ∃ M, (Pu.labsB L n).length = M + 1 := by
            obtain ⟨k, rfl⟩ : ∃ k, n = k + 1 := ⟨n - 1, by omega⟩
            refine ⟨(Pu.labsB L (k + 1)).length - 1, ?_⟩
            have := (Pu.countB_len (L k).length).1
            rw [Pu.labsB, Pu.labB, List.length_append, List.length_append]
            omega
          have hyo := HV.out.behind
          rw [hM] at hyo
          obtain ⟨gy, cy, hy⟩ := owns_form hyo
          subst hy
          have HC : Hid (∀ (j : Nat) (b : UInt8), (Pu.labsB L n)[j]? = some b → wr.cell? ((⟨gy, 0, none⟩ : Addr).add j) = some (.int .u8 (b.toNat : Int))) := by
            intro j b hj
            exact HV.out.behind.cells (g := gy) (by rw [← hM]; rfl) j (.int .u8 (b.toNat : Int)) (by rw [bv, List.getElem?_map, hj]; rfl)
          have HM : Hid ((Pu.labsB L n).length = M + 1) := hM
          have HOB : Hid (OwnB wr x w.heap.size x (Pu.headB O ++ Pu.sizesB L n) wr) := OwnB.refl HV.out.held
          have HS : Hid (w.heap.size ≤ wr.heap.size ∧ (Pu.headB O ++ Pu.sizesB L n).length + (M + 1) ≤ 200000) := by
            refine ⟨HV.out.turns.size, ?_⟩
            have := Pu.labsB_len L n n (fun u hu => (HLF.out u hu).2)
            have h2 : (3 + 6 * n) * n ≤ 243 * 40 := Nat.mul_le_mul (by omega) (by omega)
            have h3 := Pu.sizesB_len L n
            rw [List.length_append, Pu.headB_len]
            omega
          obtain ⟨l2, hl2⟩ : ∃ l2, l2 = Pu.headB O ++ Pu.sizesB L n ++ Pu.labsB L n := ⟨_, rfl⟩
          have HL2 : Hid (l2 = Pu.headB O ++ Pu.sizesB L n ++ Pu.labsB L n) := hl2
          clear hl2 hM hyo
          go_wp2_with (at_builtin; refine wpList_append_bytes rfl _ _ rfl wr wr x x w.heap.size (Pu.headB O ++ Pu.sizesB L n) (Pu.labsB L n) l2 ⟨gy, 0, none⟩ (M + 1) cy HL2.out HM.out HC.out HOB.out HS.out.1 HS.out.2 rfl rfl ?_)
          intro x6 w6 hB6
          have hB6o := hB6.own
          obtain ⟨m2, hm2⟩ : ∃ m2, l2.length = m2 + 1 := ⟨l2.length - 1, by
            have := HM.out
            rw [HL2.out, List.length_append]; omega⟩
          rw [hm2] at hB6o
          obtain ⟨g6, c6, hx6⟩ := owns_form hB6o
          subst hx6
          have hcv : (convert 31 9 (.slice (some ⟨g6, 0, none⟩) (m2 + 1) c6)).run Tryz.prog w6 = .ok (.string ⟨l2.toArray⟩) w6 := by
            rw [← hm2]
            refine run_convert_bytes_back w6 31 9 5 ⟨g6, 0, none⟩ c6 l2 Tryz.underlying31 Tryz.underlying5 Tryz.underlying9 ?_
            intro j hj
            exact hB6.own.cells (g := g6) (by rw [← hm2]; rfl) j (.int .u8 (l2[j].toNat : Int)) (by rw [bv, List.getElem?_map, List.getElem?_eq_getElem hj]; rfl)
          have HT6 : Hid (Turns (fun _ => False) w w6) := turns_over HV.out.turns hB6.turns (fun b hb => (HV.out.held.lt b hb).1)
          have HE2 : Hid (l2 = Pu.heldB O (fun v => Pu.hubK D O v n) n) := HL2.out.trans HE.out.symm
          clear hB6 hB6o HOB HS HC HV HM HL2 HE
          go_wp2
          exact bodyPost_ret (v := .string ⟨l2.toArray⟩) (by simp [results, Tryz.results25, go_sem]) rfl ⟨by rw [HE2.out], HT6.out⟩
#print axioms recWrite_any
end Go.Proofs.YtdogncjcainhlaaGreatDoor
