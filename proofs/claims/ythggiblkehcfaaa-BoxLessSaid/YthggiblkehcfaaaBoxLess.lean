/-
  For any two boxes, box.Less answers as the document says (P7.4), twice; what it told is its caller's; and the examples of the document hold.
  Conditions: none; the law holds for every input.
-/
import Derived.Test.YthggiblkehcfaaaBxAw
import Derived.Test.YthggiblkehcfaaaBxRl
import Derived.Test.YthggiblkehcfaaaBxRs
import Derived.Test.YthggiblkehcfaaaBxFrame
namespace Go.Proofs.Ythggiblkehcfaaa
open Go.ChangeShapes Go.WideShapes Go.ChangeAt Go.RowKit Go.Joins
set_option linter.unusedVariables false
set_option linter.unusedSimpArgs false

theorem RowX.far {w w' : World} {g b : Nat} {v : Value} {l : List Bx} (h : RowX w b v l) (ho : Only g w w') (hn : some g ≠ v.ownBlock) : RowX w' b v l := by
  refine ⟨h.1, ?_⟩
  rcases h.2 with h2 | ⟨g2, cap, cur, hv, hg, hh, r⟩
  · exact .inl h2
  · exact .inr ⟨g2, cap, cur, hv, hg, by rw [ho.block g2 (fun e => hn (by rw [hv]; simp [Value.ownBlock, e]))]; exact hh, r⟩
theorem Only.trans {B : Nat} {u v w : World} (h : Only B u v) (g : Only B v w) : Only B u w :=
  ⟨g.os.trans h.os, g.tape.trans h.tape, g.output.trans h.output, g.size.trans h.size, fun k hk => (g.block k hk).trans (h.block k hk)⟩
theorem Only.refl (B : Nat) (w : World) : Only B w w := ⟨rfl, rfl, rfl, rfl, fun _ _ => rfl⟩
set_option maxRecDepth 20000 in
set_option maxHeartbeats 4000000 in
theorem boxLess_walk (X : Bx) (bX : BdX X) (Y : Bx) (bY : BdX Y) (w : World) :
    Calls Try.prog 8 #[.agg #[.int .u32 (X.a.1 : Int), .int .u32 (X.a.2 : Int), .int .u32 (X.b.1 : Int), .int .u32 (X.b.2 : Int), .int .u16 (X.c.1 : Int), .int .u16 (X.c.2 : Int), .int .u16 (X.d.1 : Int), .int .u16 (X.d.2 : Int), .int .u8 (X.m.1 : Int), .int .u8 (X.m.2 : Int)], .agg #[.int .u32 (Y.a.1 : Int), .int .u32 (Y.a.2 : Int), .int .u32 (Y.b.1 : Int), .int .u32 (Y.b.2 : Int), .int .u16 (Y.c.1 : Int), .int .u16 (Y.c.2 : Int), .int .u16 (Y.d.1 : Int), .int .u16 (Y.d.2 : Int), .int .u8 (Y.m.1 : Int), .int .u8 (Y.m.2 : Int)]] w fun e w' => e = .returned (.bool true) ∧ Below w.heap.size w w' := by
  have h1 := fun W => rlessX X Y W bX bY
  have h2 := fun W => lessXC X Y W bX bY
  have hA := fun W => awakeX W
  have HLEN : Hid ((lessX X Y).length ≤ 16) := lessX_len X Y
  generalize lessX X Y = L at *
  clear bX bY
  go_enter Try.func8, Try.ntmps8
  go_wp2_with (fail)
  refine (h1 _).mono ?_
  rintro e w1 ⟨v1, rfl, hr1, hb1⟩
  have HX1 : Hid (w1.heap[w.heap.size]? = some (.cells #[.int .u32 (X.a.1 : Int), .int .u32 (X.a.2 : Int), .int .u32 (X.b.1 : Int), .int .u32 (X.b.2 : Int), .int .u16 (X.c.1 : Int), .int .u16 (X.c.2 : Int), .int .u16 (X.d.1 : Int), .int .u16 (X.d.2 : Int), .int .u8 (X.m.1 : Int), .int .u8 (X.m.2 : Int)] 33)) := blk_on (blk_alloc (blk_new w (.cells #[.int .u32 (X.a.1 : Int), .int .u32 (X.a.2 : Int), .int .u32 (X.b.1 : Int), .int .u32 (X.b.2 : Int), .int .u16 (X.c.1 : Int), .int .u16 (X.c.2 : Int), .int .u16 (X.d.1 : Int), .int .u16 (X.d.2 : Int), .int .u8 (X.m.1 : Int), .int .u8 (X.m.2 : Int)] 33)) _) hb1
  have HY1 : Hid (w1.heap[w.heap.size + 1]? = some (.cells #[.int .u32 (Y.a.1 : Int), .int .u32 (Y.a.2 : Int), .int .u32 (Y.b.1 : Int), .int .u32 (Y.b.2 : Int), .int .u16 (Y.c.1 : Int), .int .u16 (Y.c.2 : Int), .int .u16 (Y.d.1 : Int), .int .u16 (Y.d.2 : Int), .int .u8 (Y.m.1 : Int), .int .u8 (Y.m.2 : Int)] 33)) := blk_on (by simpa using blk_new (w.alloc (.cells #[.int .u32 (X.a.1 : Int), .int .u32 (X.a.2 : Int), .int .u32 (X.b.1 : Int), .int .u32 (X.b.2 : Int), .int .u16 (X.c.1 : Int), .int .u16 (X.c.2 : Int), .int .u16 (X.d.1 : Int), .int .u16 (X.d.2 : Int), .int .u8 (X.m.1 : Int), .int .u8 (X.m.2 : Int)] 33)) (.cells #[.int .u32 (Y.a.1 : Int), .int .u32 (Y.a.2 : Int), .int .u32 (Y.b.1 : Int), .int .u32 (Y.b.2 : Int), .int .u16 (Y.c.1 : Int), .int .u16 (Y.c.2 : Int), .int .u16 (Y.d.1 : Int), .int .u16 (Y.d.2 : Int), .int .u8 (Y.m.1 : Int), .int .u8 (Y.m.2 : Int)] 33)) hb1
  have hbl1 : Hid (Below w.heap.size w w1) := by show Below _ _ _; (repeat (first | assumption | exact Below.refl _ _ | refine Below.drew ?_ | refine bel_drewN ?_ _ | refine Below.setCell ?_ (by first | omega | (simp; done) | (simp; omega)) _ | refine Below.alloc ?_ (by first | omega | (simp; done) | (simp; omega)) _ | refine bel_of ?_ (by assumption)))
  obtain ⟨ad1, cap1, rfl, _, _⟩ := hr1.form
  obtain ⟨n1, hn1⟩ : ∃ n1, n1 = L.length := ⟨_, rfl⟩
  have HW1 : Hid (RowX w1 0 (.slice ad1 n1 cap1) L) := by rw [hn1]; exact hr1.base (Nat.zero_le _)
  have HO1 : Hid (∀ k, (Value.slice ad1 n1 cap1).ownBlock = some k → k < w1.heap.size) := fun k hk => (HW1.out.lt k hk).2
  rw [← hn1]
  clear hr1 hb1 h1 hn1
  obtain ⟨c0, c1, c2, c3, c4, c5, c6, c7, c8, c9⟩ := blk10 HX1.out
  obtain ⟨d0, d1, d2, d3, d4, d5, d6, d7, d8, d9⟩ := blk10 HY1.out
  go_wp2_with (fail)
  refine (h2 _).mono ?_
  rintro e w2 ⟨v2, rfl, hr2, hb2⟩
  have HX2 : Hid (w2.heap[w.heap.size]? = some (.cells #[.int .u32 (X.a.1 : Int), .int .u32 (X.a.2 : Int), .int .u32 (X.b.1 : Int), .int .u32 (X.b.2 : Int), .int .u16 (X.c.1 : Int), .int .u16 (X.c.2 : Int), .int .u16 (X.d.1 : Int), .int .u16 (X.d.2 : Int), .int .u8 (X.m.1 : Int), .int .u8 (X.m.2 : Int)] 33)) := blk_on HX1.out hb2
  have HY2 : Hid (w2.heap[w.heap.size + 1]? = some (.cells #[.int .u32 (Y.a.1 : Int), .int .u32 (Y.a.2 : Int), .int .u32 (Y.b.1 : Int), .int .u32 (Y.b.2 : Int), .int .u16 (Y.c.1 : Int), .int .u16 (Y.c.2 : Int), .int .u16 (Y.d.1 : Int), .int .u16 (Y.d.2 : Int), .int .u8 (Y.m.1 : Int), .int .u8 (Y.m.2 : Int)] 33)) := blk_on HY1.out hb2
  have HW2 : Hid (RowX w2 0 (.slice ad1 n1 cap1) L) := HW1.out.on hb2
  have hbl2 : Hid (Below w.heap.size w w2) := hbl1.out.trans (hb2.mono hbl1.out.size)
  have HR2 : Hid (RowX w2 w1.heap.size v2 L) := hr2
  have hl1 := blk_lt HY1.out
  clear hr2 hb2 c0 c1 c2 c3 c4 c5 c6 c7 c8 c9 d0 d1 d2 d3 d4 d5 d6 d7 d8 d9 HX1 HY1 HW1
  obtain ⟨ad2, cap2, e2, _, _⟩ := HR2.out.form
  subst e2
  obtain ⟨n2, hn2⟩ : ∃ n2, n2 = L.length := ⟨_, rfl⟩
  rw [← hn2] at HR2 ⊢
  have HN2 : Hid (n2 = L.length) := hn2
  clear hn2
  go_wp2_with (fail)
  refine (rsameX L (by have := HLEN.out; omega) _ _ _ 0 _ HR2.out HW2.out).mono ?_
  rintro e w3 ⟨rfl, hb3⟩
  have HX3 : Hid (w3.heap[w.heap.size]? = some (.cells #[.int .u32 (X.a.1 : Int), .int .u32 (X.a.2 : Int), .int .u32 (X.b.1 : Int), .int .u32 (X.b.2 : Int), .int .u16 (X.c.1 : Int), .int .u16 (X.c.2 : Int), .int .u16 (X.d.1 : Int), .int .u16 (X.d.2 : Int), .int .u8 (X.m.1 : Int), .int .u8 (X.m.2 : Int)] 33)) := blk_on HX2.out hb3
  have HY3 : Hid (w3.heap[w.heap.size + 1]? = some (.cells #[.int .u32 (Y.a.1 : Int), .int .u32 (Y.a.2 : Int), .int .u32 (Y.b.1 : Int), .int .u32 (Y.b.2 : Int), .int .u16 (Y.c.1 : Int), .int .u16 (Y.c.2 : Int), .int .u16 (Y.d.1 : Int), .int .u16 (Y.d.2 : Int), .int .u8 (Y.m.1 : Int), .int .u8 (Y.m.2 : Int)] 33)) := blk_on HY2.out hb3
  have HW3 : Hid (RowX w3 0 (.slice ad1 n1 cap1) L) := HW2.out.on hb3
  have HR3 : Hid (RowX w3 w1.heap.size (.slice ad2 n2 cap2) L) := HR2.out.on hb3
  have hbl3 : Hid (Below w.heap.size w w3) := hbl2.out.trans (hb3.mono hbl2.out.size)
  clear hb3 HX2 HY2 HW2 HR2 hbl1 hbl2
  rcases HR3.out.2 with ⟨hv, _⟩ | ⟨g, cap, cur, hv, hgb, hh, hnc, hcm, hcs, _⟩
  · cases hv
    clear HR3
    have HW4 := HW3
    have hbl4 := hbl3
    obtain ⟨c0, c1, c2, c3, c4, c5, c6, c7, c8, c9⟩ := blk10 HX3.out
    obtain ⟨d0, d1, d2, d3, d4, d5, d6, d7, d8, d9⟩ := blk10 HY3.out
    go_wp2_with (fail)
    go_loop [7] (fun i => i = .int .i64 0) (fun _ => 0)
    case atStart => rfl
    case round =>
      obtain rfl := hrel
      go_wp2_with (fail)
      refine (h2 _).mono ?_
      rintro e w5 ⟨v5, rfl, hr5, hb5⟩
      have HW5 : Hid (RowX w5 0 (.slice ad1 n1 cap1) L) := HW4.out.on hb5
      have hbl5 : Hid (Below w.heap.size w w5) := hbl4.out.trans (hb5.mono hbl4.out.size)
      obtain ⟨ad5, cap5, rfl, _, _⟩ := hr5.form
      obtain ⟨n5, hn5⟩ : ∃ n5, n5 = L.length := ⟨_, rfl⟩
      have HR5 : Hid (RowX w5 0 (.slice ad5 n5 cap5) L) := by rw [hn5]; exact hr5.base (Nat.zero_le _)
      rw [← hn5]
      clear hr5 hb5 hn5 c0 c1 c2 c3 c4 c5 c6 c7 c8 c9 d0 d1 d2 d3 d4 d5 d6 d7 d8 d9
      go_wp2_with (fail)
      refine (hA _).mono ?_
      rintro e w6 ⟨rfl, hb6⟩
      have hbl6 : Hid (Below w.heap.size w w6) := hbl5.out.trans (hb6.mono hbl5.out.size)
      have HR6 : Hid (RowX w6 0 (.slice ad5 n5 cap5) L) := HR5.out.on hb6
      have HW6 : Hid (RowX w6 0 (.slice ad1 n1 cap1) L) := HW5.out.on hb6
      clear hb6
      go_wp2_with (fail)
      refine (rsameX L (by have := HLEN.out; omega) _ _ 0 0 _ HR6.out HW6.out).mono ?_
      rintro e w7 ⟨rfl, hb7⟩
      have hbl7 : Hid (Below w.heap.size w w7) := hbl6.out.trans (hb7.mono hbl6.out.size)
      clear hb7
      go_wp2
      go_ret
      exact ⟨rfl, hbl7.out⟩
  · obtain ⟨e1, e2, e3⟩ : ad2 = some ⟨g, 0, none⟩ ∧ n2 = L.length ∧ cap2 = cap := by simpa using hv
    subst e1 e3
    clear hv
    have HG : Hid (w3.heap[g]? = some (.cells cur 33 (0, 0)) ∧ cur.size = cap2 * 10) := ⟨hh, hcs⟩
    have HNE : Hid (some g ≠ (Value.slice ad1 n1 cap1).ownBlock) := fun e => by have := HO1.out g e.symm; omega
    have hcm' : cap2 ≤ 9223372036854775807 := by unfold maxLen at hcm; omega
    have hnc' : n2 ≤ cap2 := by omega
    have hgb' : w1.heap.size ≤ g := hgb
    clear HR3 hh hcs hcm hnc hgb HO1
    go_wp2_with (fail)
    go_loopw [7] (fun iv wr => ∃ (k : Nat) (cur : Array Value), k ≤ cap2 ∧ iv = .int .i64 (k : Int) ∧ Hid (wr.heap[g]? = some (.cells cur 33 (0, 0)) ∧ cur.size = cap2 * 10) ∧ Hid (Only g w3 wr)) (fun iv _ => cap2 - (intOf iv).toNat)
    case atStart => exact ⟨0, cur, Nat.zero_le _, rfl, HG.out, Only.refl _ _⟩
    case round =>
      clear HG
      obtain ⟨k, cu, hk, rfl, hG, hO⟩ := hrel
      by_cases hlt : k < cap2
      · have hlt' : (k : Int) < (cap2 : Int) := by omega
        have hk0 : (0 : Int) ≤ (k : Int) := by omega
        have HSZ : Hid ((cu.toList.take (k * 10) ++ ([.int .u32 7, .int .u32 0, .int .u32 0, .int .u32 0, .int .u16 0, .int .u16 0, .int .u16 0, .int .u16 0, .int .u8 0, .int .u8 0] : List Value) ++ cu.toList.drop (k * 10 + 10)).toArray.size = cap2 * 10) := by
          show _ = _
          have := hG.out.2
          simp only [List.size_toArray, List.length_append, List.length_take, List.length_drop, List.length_cons, List.length_nil, Array.length_toList]
          omega
        go_wp2_with (refine wpList_store_blk rfl 33 (.tmp 33) (.tmp 32) rfl g (k * 10) #[.int .u32 7, .int .u32 0, .int .u32 0, .int .u32 0, .int .u16 0, .int .u16 0, .int .u16 0, .int .u16 0, .int .u8 0, .int .u8 0] (cu.toList.take (k * 10) ++ ([.int .u32 7, .int .u32 0, .int .u32 0, .int .u32 0, .int .u16 0, .int .u16 0, .int .u16 0, .int .u16 0, .int .u8 0, .int .u8 0] : List Value) ++ cu.toList.drop (k * 10 + 10)).toArray rfl rfl 33 _ hG.out.1 (by show k * 10 + 10 ≤ _; rw [hG.out.2]; omega) rfl (by kernel_rfl) rfl ?_; intro w4 h4 ho4)
        go_roundw
        case rel => exact ⟨k + 1, _, by omega, by go_num, ⟨h4, HSZ.out⟩, hO.out.trans ho4⟩
        case measure => simp [intOf]; omega
      · obtain rfl : k = cap2 := by omega
        have HX4 : Hid (wr.heap[w.heap.size]? = some (.cells #[.int .u32 (X.a.1 : Int), .int .u32 (X.a.2 : Int), .int .u32 (X.b.1 : Int), .int .u32 (X.b.2 : Int), .int .u16 (X.c.1 : Int), .int .u16 (X.c.2 : Int), .int .u16 (X.d.1 : Int), .int .u16 (X.d.2 : Int), .int .u8 (X.m.1 : Int), .int .u8 (X.m.2 : Int)] 33)) := by show _ = _; rw [hO.out.block _ (by omega)]; exact HX3.out
        have HY4 : Hid (wr.heap[w.heap.size + 1]? = some (.cells #[.int .u32 (Y.a.1 : Int), .int .u32 (Y.a.2 : Int), .int .u32 (Y.b.1 : Int), .int .u32 (Y.b.2 : Int), .int .u16 (Y.c.1 : Int), .int .u16 (Y.c.2 : Int), .int .u16 (Y.d.1 : Int), .int .u16 (Y.d.2 : Int), .int .u8 (Y.m.1 : Int), .int .u8 (Y.m.2 : Int)] 33)) := by show _ = _; rw [hO.out.block _ (by omega)]; exact HY3.out
        have HW4 : Hid (RowX wr 0 (.slice ad1 n1 cap1) L) := HW3.out.far hO.out HNE.out
        have hbl4 : Hid (Below w.heap.size w wr) := hbl3.out.trans (hO.out.below (by omega))
        obtain ⟨c0, c1, c2, c3, c4, c5, c6, c7, c8, c9⟩ := blk10 HX4.out
        obtain ⟨d0, d1, d2, d3, d4, d5, d6, d7, d8, d9⟩ := blk10 HY4.out
        clear hG hO
        go_wp2_with (fail)
        refine (h2 _).mono ?_
        rintro e w5 ⟨v5, rfl, hr5, hb5⟩
        have HW5 : Hid (RowX w5 0 (.slice ad1 n1 cap1) L) := HW4.out.on hb5
        have hbl5 : Hid (Below w.heap.size w w5) := hbl4.out.trans (hb5.mono hbl4.out.size)
        obtain ⟨ad5, cap5, rfl, _, _⟩ := hr5.form
        obtain ⟨n5, hn5⟩ : ∃ n5, n5 = L.length := ⟨_, rfl⟩
        have HR5 : Hid (RowX w5 0 (.slice ad5 n5 cap5) L) := by rw [hn5]; exact hr5.base (Nat.zero_le _)
        rw [← hn5]
        clear hr5 hb5 hn5 c0 c1 c2 c3 c4 c5 c6 c7 c8 c9 d0 d1 d2 d3 d4 d5 d6 d7 d8 d9
        go_wp2_with (fail)
        refine (hA _).mono ?_
        rintro e w6 ⟨rfl, hb6⟩
        have hbl6 : Hid (Below w.heap.size w w6) := hbl5.out.trans (hb6.mono hbl5.out.size)
        have HR6 : Hid (RowX w6 0 (.slice ad5 n5 cap5) L) := HR5.out.on hb6
        have HW6 : Hid (RowX w6 0 (.slice ad1 n1 cap1) L) := HW5.out.on hb6
        clear hb6
        go_wp2_with (fail)
        refine (rsameX L (by have := HLEN.out; omega) _ _ 0 0 _ HR6.out HW6.out).mono ?_
        rintro e w7 ⟨rfl, hb7⟩
        have hbl7 : Hid (Below w.heap.size w w7) := hbl6.out.trans (hb7.mono hbl6.out.size)
        clear hb7
        go_wp2
        go_ret
        exact ⟨rfl, hbl7.out⟩

set_option maxRecDepth 100000 in
theorem boxLess_lifted (os : Os) (started : os.Started) (H : Type) (enc : TypeId × Value → H) :
    ReturnsInHanded {} Try.checked os 8 .any (Rows.boxLessSpec.pre6 enc Try.prog Try.f8 Rows.boxLessRow.domain false) (Rows.boxLessSpec.post enc Try.prog Try.f8 false true false false) := by
  refine returnsInHanded_of_change (C := Try.checked) own started (by kernel_rfl) Try.func8
    (ChangeSpec.witness6 (enc := enc) (C := Try.checked) false ⟨#[], #[.agg #[.int .u32 0, .int .u32 0, .int .u32 0, .int .u32 0, .int .u16 0, .int .u16 0, .int .u16 0, .int .u16 0, .int .u8 0, .int .u8 0], .agg #[.int .u32 0, .int .u32 0, .int .u32 0, .int .u32 0, .int .u16 0, .int .u16 0, .int .u16 0, .int .u16 0, .int .u8 0, .int .u8 0]], []⟩ 8 (by kernel_rfl) (by kernel_rfl) (by kernel_rfl) (by kernel_rfl)) ?_
  intro W base args ds gs before hval0 hW hcnd _
  have hval : ∀ (j : Nat) t v, Try.f8.params[j]? = some t → args[j]? = some v → Value.okWide Try.prog W .any base t v := hval0
  have hW' := hW
  obtain ⟨p, q, hA0, hV, rfl, hfz, hnd⟩ := hW
  have hA : DataW.TrodAll enc Try.prog W 0 (fun _ => true) true Try.f8.params.toList args.toList ds p := hA0
  rw [Try.params8] at hA hval
  obtain ⟨v0, vs0, d0, ds0, p0, q0, hargs, rfl, rfl, h0, r0⟩ := trodAll_cons hA
  obtain ⟨v1, vs1, d1, ds1, p1, q1, rfl, rfl, rfl, h1, r1⟩ := trodAll_cons r0
  obtain ⟨rfl, rfl, rfl⟩ := trodAll_nil r1
  obtain rfl : args = #[v0, v1] := by cases args; simp_all
  obtain ⟨rfl, rfl⟩ := trodVars_none hV
  obtain ⟨g0, rfl, rfl, rfl, o0⟩ := open_bx (hval 0 33 v0 rfl rfl) h0
  obtain ⟨g1, rfl, rfl, rfl, o1⟩ := open_bx (hval 1 33 v1 rfl rfl) h1
  clear hA0 hval0
  simp only [List.append_nil] at hW'
  refine (boxLess_walk g0 o0 g1 o1 W ).mono fun e W' ⟨he, bel⟩ => ?_
  subst he
  exact ⟨_, rfl, _, _, _, [], _, [], hW', trodAll_mk1 (shut_bool Try.underlying4 _), (trodAll_cons_mk (shut_bx o0) (trodAll_cons_mk (shut_bx o1) trodAll_mk0)), rfl, bel.frame _, fun h => by cases h⟩

/-- The given statement. -/
theorem boxLess_holds : Rows.BoxLessSaid :=
  OpenClaim.holds_of_wide 8 Try.f8 rfl rfl rfl rfl rfl rfl rfl ⟨rfl, rfl, rfl, rfl, rfl⟩ rfl rfl rfl rfl rfl (by kernel_rfl) Try.func8 (by kernel_rfl)
    (of_decide_eq_true (by kernel_rfl)) (by unfold Func.isWrapper; first | (rw [if_pos (by decide +kernel)]; kernel_rfl) | (rw [if_neg (by decide +kernel)]; exact ⟨rfl, rfl⟩))
    (fun os started H enc _ => boxLess_lifted os started H enc)
#print axioms boxLess_holds
end Go.Proofs.Ythggiblkehcfaaa
