/-
  For any two boxes and any header: a header of the first is in just one of what box.Less and box.Meet tell, of others none; each part lies within the first and shares nothing with the other (P7.5); and the examples of the document hold.
  Conditions: none; the law holds for every input.
-/
import Derived.Test.YthggiblkehcfaabBxAw
import Derived.Test.YthggiblkehcfaabBxH
import Derived.Test.YthggiblkehcfaabBxPlD
import Derived.Test.YthggiblkehcfaabBxY
import Derived.Deep.RegionHeld3
import Derived.Deep.RegionWith
import Derived.Deep.DeepCutAuto
import Derived.Test.YthggiblkehcfaabBxFrame
namespace Go.Proofs.Ythggiblkehcfaab
open Go.ChangeShapes Go.WideShapes Go.ChangeAt Go.RowKit Go.Joins
set_option linter.unusedVariables false
set_option linter.unusedSimpArgs false

/-- A world that keeps all that was there. -/
def Ext (W w : World) : Prop := Below W.heap.size W w
theorem fresh_blk {wr w4 : World} {o : Obj} (hb : Ext (wr.alloc o).drew w4) : w4.heap[wr.heap.size]? = some o := by
  unfold Ext at hb
  exact blk_on (w := (wr.alloc o).drew) (blk_new wr o) hb
/-- A row's cells. -/
theorem RowX.at {w : World} {b : Nat} {ad : Option Addr} {n cap : Nat} {l : List Bx} (h : RowX w b (.slice ad n cap) l) (h0 : 0 < l.length) : ∃ g, ad = some ⟨g, 0, none⟩ ∧ ∀ k (hk : k < l.length) j, j < 10 → w.cell? ⟨g, k * 10 + j, none⟩ = (encX (l[k]'hk))[j]? := by
  obtain ⟨ad', cap', e, _, hat⟩ := h.form
  cases e
  obtain ⟨g, e, _, _, hc⟩ := hat h0
  exact ⟨g, e, hc⟩
theorem sum_take_le (f : Bx → Nat) : ∀ (l : List Bx) (k : Nat), ((l.take k).map f).sum ≤ (l.map f).sum
  | [], k => by simp
  | a :: l, 0 => by simp
  | a :: l, k + 1 => by
    have := sum_take_le f l k
    simp only [List.take_succ_cons, List.map_cons, List.sum_cons]
    omega
theorem ind_le (b : Bool) : ind b ≤ 1 := by unfold ind; split <;> omega
theorem has_both {X Y : Bx} (bX : BdX X) (bY : BdX Y) (h : bothX X Y = true) (g : Hd) : ind (hasH (meetX X Y) g) + ((lessX X Y).map fun Z => ind (hasH Z g)).sum = ind (hasH X g) := by
  have e := lessB_has h bX bY g.s g.d g.p g.q g.r
  obtain ⟨hx, hy, _⟩ := (bothX_iff X Y).1 h
  unfold meetX lessX hasH
  rw [hx, hy, h]
  simp only [Bool.and_self, if_true]
  omega
theorem has_none {X Y : Bx} (hx : okX X = true) (hy : okX Y = true) (h : bothX X Y = false) (g : Hd) : 0 + ((lessX X Y).map fun Z => ind (hasH Z g)).sum = ind (hasH X g) := by
  unfold lessX
  rw [hx, hy, h]
  simp
theorem wiX_self {X : Bx} (h : okX X = true) : wiX X X = true :=
  part_of h h (meetI_self _) (meetI_self _) (meetI_self _) (meetI_self _) (apM_self _ _) (Nat.or_self _) (Nat.or_self _)
theorem each_part {X Y : Bx} (hx : okX X = true) (hy : okX Y = true) : ∀ Z ∈ lessX X Y, bothX Z Y = false ∧ wiX Z X = true := by
  unfold lessX
  rw [hx, hy]
  intro Z hZ
  cases hb : bothX X Y
  · rw [hb] at hZ
    have : Z = X := by simpa using hZ
    subst this
    exact ⟨hb, wiX_self hx⟩
  · rw [hb] at hZ
    have := lessB_each hb Z (by simpa using hZ)
    exact ⟨this.2.1, this.2.2⟩
set_option maxRecDepth 20000 in
set_option maxHeartbeats 16000000 in
theorem boxParts_walk (X : Bx) (bX : BdX X) (Y : Bx) (bY : BdX Y) (h : Hd) (oh : OkH h) (w : World) :
    Calls Try.prog 3 #[.agg #[.int .u32 (X.a.1 : Int), .int .u32 (X.a.2 : Int), .int .u32 (X.b.1 : Int), .int .u32 (X.b.2 : Int), .int .u16 (X.c.1 : Int), .int .u16 (X.c.2 : Int), .int .u16 (X.d.1 : Int), .int .u16 (X.d.2 : Int), .int .u8 (X.m.1 : Int), .int .u8 (X.m.2 : Int)], .agg #[.int .u32 (Y.a.1 : Int), .int .u32 (Y.a.2 : Int), .int .u32 (Y.b.1 : Int), .int .u32 (Y.b.2 : Int), .int .u16 (Y.c.1 : Int), .int .u16 (Y.c.2 : Int), .int .u16 (Y.d.1 : Int), .int .u16 (Y.d.2 : Int), .int .u8 (Y.m.1 : Int), .int .u8 (Y.m.2 : Int)], .agg #[.int .u32 (h.s : Int), .int .u32 (h.d : Int), .int .u16 (h.p : Int), .int .u16 (h.q : Int), .int .u8 (h.r : Int)]] w fun e w' => e = .returned (.bool true) ∧ Below w.heap.size w w' := by
  have hC1 := fun W => checkC X W bX
  have hC2 := fun W => checkC Y W bY
  have hM := fun W => meetXC X Y W bX bY
  have hL := fun W => lessXC X Y W bX bY
  have hHM := fun W => hasXC (meetX X Y) h W (meetX_bd bX bY) oh
  have hA := fun W => awakeX W
  have HBL : Hid (∀ Z ∈ lessX X Y, BdX Z) := lessX_bd bX bY
  have HLEN : Hid ((lessX X Y).length ≤ 16) := lessX_len X Y
  have HBX : Hid (BdX X) := bX
  have HBY : Hid (BdX Y) := bY
  have HOH : Hid (OkH h) := oh
  cases hx : okX X
  · have hn : ¬ chkX X = 0 := fun e => by rw [chkX_ok, hx] at e; cases e
    have hd : decide (chkX X = 0) = false := decide_eq_false hn
    have hl0 : lessX X Y = [] := by unfold lessX; rw [hx]; rfl
    rw [hl0] at hL
    generalize chkX X = cc at *
    clear hx hC2 hM hHM HBL HLEN HBX HBY HOH bX bY oh hl0
    go_enter Try.func3, Try.ntmps3
    go_wp2_with (fail)
    refine (hC1 _).mono ?_
    rintro e w1 ⟨rfl, hb1⟩
    have HX1 : Hid (w1.heap[w.heap.size]? = some (.cells #[.int .u32 (X.a.1 : Int), .int .u32 (X.a.2 : Int), .int .u32 (X.b.1 : Int), .int .u32 (X.b.2 : Int), .int .u16 (X.c.1 : Int), .int .u16 (X.c.2 : Int), .int .u16 (X.d.1 : Int), .int .u16 (X.d.2 : Int), .int .u8 (X.m.1 : Int), .int .u8 (X.m.2 : Int)] 31)) := blk_on (blk_alloc (blk_alloc (blk_new w (.cells #[.int .u32 (X.a.1 : Int), .int .u32 (X.a.2 : Int), .int .u32 (X.b.1 : Int), .int .u32 (X.b.2 : Int), .int .u16 (X.c.1 : Int), .int .u16 (X.c.2 : Int), .int .u16 (X.d.1 : Int), .int .u16 (X.d.2 : Int), .int .u8 (X.m.1 : Int), .int .u8 (X.m.2 : Int)] 31)) _) _) hb1
    have HY1 : Hid (w1.heap[w.heap.size + 1]? = some (.cells #[.int .u32 (Y.a.1 : Int), .int .u32 (Y.a.2 : Int), .int .u32 (Y.b.1 : Int), .int .u32 (Y.b.2 : Int), .int .u16 (Y.c.1 : Int), .int .u16 (Y.c.2 : Int), .int .u16 (Y.d.1 : Int), .int .u16 (Y.d.2 : Int), .int .u8 (Y.m.1 : Int), .int .u8 (Y.m.2 : Int)] 31)) := blk_on (blk_alloc (by simpa using blk_new (w.alloc (.cells #[.int .u32 (X.a.1 : Int), .int .u32 (X.a.2 : Int), .int .u32 (X.b.1 : Int), .int .u32 (X.b.2 : Int), .int .u16 (X.c.1 : Int), .int .u16 (X.c.2 : Int), .int .u16 (X.d.1 : Int), .int .u16 (X.d.2 : Int), .int .u8 (X.m.1 : Int), .int .u8 (X.m.2 : Int)] 31)) (.cells #[.int .u32 (Y.a.1 : Int), .int .u32 (Y.a.2 : Int), .int .u32 (Y.b.1 : Int), .int .u32 (Y.b.2 : Int), .int .u16 (Y.c.1 : Int), .int .u16 (Y.c.2 : Int), .int .u16 (Y.d.1 : Int), .int .u16 (Y.d.2 : Int), .int .u8 (Y.m.1 : Int), .int .u8 (Y.m.2 : Int)] 31)) _) hb1
    have hbl1 : Hid (Below w.heap.size w w1) := by show Below _ _ _; (repeat (first | assumption | exact Below.refl _ _ | refine Below.drew ?_ | refine bel_drewN ?_ _ | refine Below.setCell ?_ (by first | omega | (simp; done) | (simp; omega)) _ | refine Below.alloc ?_ (by first | omega | (simp; done) | (simp; omega)) _ | refine bel_of ?_ (by assumption)))
    clear hb1 hC1
    go_wp2_with (fail)
    refine (hA _).mono ?_
    rintro e w2 ⟨rfl, hb2⟩
    obtain ⟨c0, c1, c2, c3, c4, c5, c6, c7, c8, c9⟩ := blk10 (blk_on HX1.out hb2)
    obtain ⟨d0, d1, d2, d3, d4, d5, d6, d7, d8, d9⟩ := blk10 (blk_on HY1.out hb2)
    have hbl2 : Hid (Below w.heap.size w w2) := hbl1.out.trans (hb2.mono hbl1.out.size)
    clear hb2 hA HX1 HY1 hbl1
    go_wp2_with (fail)
    refine (hL _).mono ?_
    rintro e w3 ⟨v3, rfl, hr3, hb3⟩
    have hbl3 : Hid (Below w.heap.size w w3) := hbl2.out.trans (hb3.mono hbl2.out.size)
    obtain ⟨ad, cap, rfl, hcap, _⟩ := hr3.form
    clear hb3 hL hr3 c0 c1 c2 c3 c4 c5 c6 c7 c8 c9 d0 d1 d2 d3 d4 d5 d6 d7 d8 d9
    go_wp2
    go_ret
    exact ⟨rfl, hbl3.out⟩
  · rw [chkX_ok.2 hx] at hC1
    cases hy : okX Y
    · have hn : ¬ chkX Y = 0 := fun e => by rw [chkX_ok, hy] at e; cases e
      have hd : decide (chkX Y = 0) = false := decide_eq_false hn
      have hl0 : lessX X Y = [] := by unfold lessX; rw [hx, hy]; rfl
      rw [hl0] at hL
      generalize chkX Y = cc at *
      clear hx hy hM hHM HBL HLEN HBX HBY HOH bX bY oh hl0
      go_enter Try.func3, Try.ntmps3
      go_wp2_with (fail)
      refine (hC1 _).mono ?_
      rintro e w0 ⟨rfl, hb0⟩
      have HX0 : Hid (w0.heap[w.heap.size]? = some (.cells #[.int .u32 (X.a.1 : Int), .int .u32 (X.a.2 : Int), .int .u32 (X.b.1 : Int), .int .u32 (X.b.2 : Int), .int .u16 (X.c.1 : Int), .int .u16 (X.c.2 : Int), .int .u16 (X.d.1 : Int), .int .u16 (X.d.2 : Int), .int .u8 (X.m.1 : Int), .int .u8 (X.m.2 : Int)] 31)) := blk_on (blk_alloc (blk_alloc (blk_new w (.cells #[.int .u32 (X.a.1 : Int), .int .u32 (X.a.2 : Int), .int .u32 (X.b.1 : Int), .int .u32 (X.b.2 : Int), .int .u16 (X.c.1 : Int), .int .u16 (X.c.2 : Int), .int .u16 (X.d.1 : Int), .int .u16 (X.d.2 : Int), .int .u8 (X.m.1 : Int), .int .u8 (X.m.2 : Int)] 31)) _) _) hb0
      have HY0 : Hid (w0.heap[w.heap.size + 1]? = some (.cells #[.int .u32 (Y.a.1 : Int), .int .u32 (Y.a.2 : Int), .int .u32 (Y.b.1 : Int), .int .u32 (Y.b.2 : Int), .int .u16 (Y.c.1 : Int), .int .u16 (Y.c.2 : Int), .int .u16 (Y.d.1 : Int), .int .u16 (Y.d.2 : Int), .int .u8 (Y.m.1 : Int), .int .u8 (Y.m.2 : Int)] 31)) := blk_on (blk_alloc (by simpa using blk_new (w.alloc (.cells #[.int .u32 (X.a.1 : Int), .int .u32 (X.a.2 : Int), .int .u32 (X.b.1 : Int), .int .u32 (X.b.2 : Int), .int .u16 (X.c.1 : Int), .int .u16 (X.c.2 : Int), .int .u16 (X.d.1 : Int), .int .u16 (X.d.2 : Int), .int .u8 (X.m.1 : Int), .int .u8 (X.m.2 : Int)] 31)) (.cells #[.int .u32 (Y.a.1 : Int), .int .u32 (Y.a.2 : Int), .int .u32 (Y.b.1 : Int), .int .u32 (Y.b.2 : Int), .int .u16 (Y.c.1 : Int), .int .u16 (Y.c.2 : Int), .int .u16 (Y.d.1 : Int), .int .u16 (Y.d.2 : Int), .int .u8 (Y.m.1 : Int), .int .u8 (Y.m.2 : Int)] 31)) _) hb0
      have hbl0 : Hid (Below w.heap.size w w0) := by show Below _ _ _; (repeat (first | assumption | exact Below.refl _ _ | refine Below.drew ?_ | refine bel_drewN ?_ _ | refine Below.setCell ?_ (by first | omega | (simp; done) | (simp; omega)) _ | refine Below.alloc ?_ (by first | omega | (simp; done) | (simp; omega)) _ | refine bel_of ?_ (by assumption)))
      clear hb0 hC1
      obtain ⟨d0, d1, d2, d3, d4, d5, d6, d7, d8, d9⟩ := blk10 HY0.out
      go_wp2_with (fail)
      refine (hC2 _).mono ?_
      rintro e w1 ⟨rfl, hb1⟩
      have HX1 : Hid (w1.heap[w.heap.size]? = some (.cells #[.int .u32 (X.a.1 : Int), .int .u32 (X.a.2 : Int), .int .u32 (X.b.1 : Int), .int .u32 (X.b.2 : Int), .int .u16 (X.c.1 : Int), .int .u16 (X.c.2 : Int), .int .u16 (X.d.1 : Int), .int .u16 (X.d.2 : Int), .int .u8 (X.m.1 : Int), .int .u8 (X.m.2 : Int)] 31)) := blk_on HX0.out hb1
      have HY1 : Hid (w1.heap[w.heap.size + 1]? = some (.cells #[.int .u32 (Y.a.1 : Int), .int .u32 (Y.a.2 : Int), .int .u32 (Y.b.1 : Int), .int .u32 (Y.b.2 : Int), .int .u16 (Y.c.1 : Int), .int .u16 (Y.c.2 : Int), .int .u16 (Y.d.1 : Int), .int .u16 (Y.d.2 : Int), .int .u8 (Y.m.1 : Int), .int .u8 (Y.m.2 : Int)] 31)) := blk_on HY0.out hb1
      have hbl1 : Hid (Below w.heap.size w w1) := hbl0.out.trans (hb1.mono hbl0.out.size)
      clear hb1 hC2 d0 d1 d2 d3 d4 d5 d6 d7 d8 d9 HX0 HY0 hbl0
      go_wp2_with (fail)
      refine (hA _).mono ?_
      rintro e w2 ⟨rfl, hb2⟩
      obtain ⟨c0, c1, c2, c3, c4, c5, c6, c7, c8, c9⟩ := blk10 (blk_on HX1.out hb2)
      obtain ⟨d0, d1, d2, d3, d4, d5, d6, d7, d8, d9⟩ := blk10 (blk_on HY1.out hb2)
      have hbl2 : Hid (Below w.heap.size w w2) := hbl1.out.trans (hb2.mono hbl1.out.size)
      clear hb2 hA HX1 HY1 hbl1
      go_wp2_with (fail)
      refine (hL _).mono ?_
      rintro e w3 ⟨v3, rfl, hr3, hb3⟩
      have hbl3 : Hid (Below w.heap.size w w3) := hbl2.out.trans (hb3.mono hbl2.out.size)
      obtain ⟨ad, cap, rfl, hcap, _⟩ := hr3.form
      clear hb3 hL hr3 c0 c1 c2 c3 c4 c5 c6 c7 c8 c9 d0 d1 d2 d3 d4 d5 d6 d7 d8 d9
      go_wp2
      go_ret
      exact ⟨rfl, hbl3.out⟩
    · rw [chkX_ok.2 hy] at hC2
      have HEA : Hid (∀ Z ∈ lessX X Y, bothX Z Y = false ∧ wiX Z X = true) := each_part hx hy
      have htot : ind (bothX X Y && hasH (meetX X Y) h) + ((lessX X Y).map fun Z => ind (hasH Z h)).sum = ind (hasH X h) := by
        cases hb : bothX X Y
        · exact has_none hx hy hb h
        · exact has_both bX bY hb h
      generalize lessX X Y = l at *
      generalize meetX X Y = M at *
      generalize bothX X Y = r at *
      generalize hasH M h = rM at *
      obtain ⟨N0, hN0⟩ : ∃ N0, N0 = ind (r && rM) := ⟨_, rfl⟩
      rw [← hN0] at htot
      have HN0 : Hid (ind (r && rM) = N0) := hN0.symm
      have HTX : Hid (N0 + (l.map fun Z => ind (hasH Z h)).sum = ind (hasH X h)) := htot
      have HTOT : Hid (∀ k, k ≤ l.length → N0 + ((l.take k).map fun Z => ind (hasH Z h)).sum ≤ 1) := fun k hk => by have := sum_take_le (fun Z => ind (hasH Z h)) l k; have := ind_le (hasH X h); omega
      clear hx hy htot hN0 bX bY oh
      go_enter Try.func3, Try.ntmps3
      go_wp2_with (fail)
      refine (hC1 _).mono ?_
      rintro e w1 ⟨rfl, hb1⟩
      have HX1 : Hid (w1.heap[w.heap.size]? = some (.cells #[.int .u32 (X.a.1 : Int), .int .u32 (X.a.2 : Int), .int .u32 (X.b.1 : Int), .int .u32 (X.b.2 : Int), .int .u16 (X.c.1 : Int), .int .u16 (X.c.2 : Int), .int .u16 (X.d.1 : Int), .int .u16 (X.d.2 : Int), .int .u8 (X.m.1 : Int), .int .u8 (X.m.2 : Int)] 31)) := blk_on (blk_alloc (blk_alloc (blk_new w (.cells #[.int .u32 (X.a.1 : Int), .int .u32 (X.a.2 : Int), .int .u32 (X.b.1 : Int), .int .u32 (X.b.2 : Int), .int .u16 (X.c.1 : Int), .int .u16 (X.c.2 : Int), .int .u16 (X.d.1 : Int), .int .u16 (X.d.2 : Int), .int .u8 (X.m.1 : Int), .int .u8 (X.m.2 : Int)] 31)) _) _) hb1
      have HY1 : Hid (w1.heap[w.heap.size + 1]? = some (.cells #[.int .u32 (Y.a.1 : Int), .int .u32 (Y.a.2 : Int), .int .u32 (Y.b.1 : Int), .int .u32 (Y.b.2 : Int), .int .u16 (Y.c.1 : Int), .int .u16 (Y.c.2 : Int), .int .u16 (Y.d.1 : Int), .int .u16 (Y.d.2 : Int), .int .u8 (Y.m.1 : Int), .int .u8 (Y.m.2 : Int)] 31)) := blk_on (blk_alloc (by simpa using blk_new (w.alloc (.cells #[.int .u32 (X.a.1 : Int), .int .u32 (X.a.2 : Int), .int .u32 (X.b.1 : Int), .int .u32 (X.b.2 : Int), .int .u16 (X.c.1 : Int), .int .u16 (X.c.2 : Int), .int .u16 (X.d.1 : Int), .int .u16 (X.d.2 : Int), .int .u8 (X.m.1 : Int), .int .u8 (X.m.2 : Int)] 31)) (.cells #[.int .u32 (Y.a.1 : Int), .int .u32 (Y.a.2 : Int), .int .u32 (Y.b.1 : Int), .int .u32 (Y.b.2 : Int), .int .u16 (Y.c.1 : Int), .int .u16 (Y.c.2 : Int), .int .u16 (Y.d.1 : Int), .int .u16 (Y.d.2 : Int), .int .u8 (Y.m.1 : Int), .int .u8 (Y.m.2 : Int)] 31)) _) hb1
      have HH1 : Hid (w1.heap[w.heap.size + 1 + 1]? = some (.cells #[.int .u32 (h.s : Int), .int .u32 (h.d : Int), .int .u16 (h.p : Int), .int .u16 (h.q : Int), .int .u8 (h.r : Int)] 33)) := blk_on (by simpa using blk_new ((w.alloc (.cells #[.int .u32 (X.a.1 : Int), .int .u32 (X.a.2 : Int), .int .u32 (X.b.1 : Int), .int .u32 (X.b.2 : Int), .int .u16 (X.c.1 : Int), .int .u16 (X.c.2 : Int), .int .u16 (X.d.1 : Int), .int .u16 (X.d.2 : Int), .int .u8 (X.m.1 : Int), .int .u8 (X.m.2 : Int)] 31)).alloc (.cells #[.int .u32 (Y.a.1 : Int), .int .u32 (Y.a.2 : Int), .int .u32 (Y.b.1 : Int), .int .u32 (Y.b.2 : Int), .int .u16 (Y.c.1 : Int), .int .u16 (Y.c.2 : Int), .int .u16 (Y.d.1 : Int), .int .u16 (Y.d.2 : Int), .int .u8 (Y.m.1 : Int), .int .u8 (Y.m.2 : Int)] 31)) (.cells #[.int .u32 (h.s : Int), .int .u32 (h.d : Int), .int .u16 (h.p : Int), .int .u16 (h.q : Int), .int .u8 (h.r : Int)] 33)) hb1
      have hbl1 : Hid (Below w.heap.size w w1) := by show Below _ _ _; (repeat (first | assumption | exact Below.refl _ _ | refine Below.drew ?_ | refine bel_drewN ?_ _ | refine Below.setCell ?_ (by first | omega | (simp; done) | (simp; omega)) _ | refine Below.alloc ?_ (by first | omega | (simp; done) | (simp; omega)) _ | refine bel_of ?_ (by assumption)))
      clear hb1 hC1
      obtain ⟨d0, d1, d2, d3, d4, d5, d6, d7, d8, d9⟩ := blk10 HY1.out
      go_wp2_with (fail)
      refine (hC2 _).mono ?_
      rintro e w2 ⟨rfl, hb2⟩
      have HX2 : Hid (w2.heap[w.heap.size]? = some (.cells #[.int .u32 (X.a.1 : Int), .int .u32 (X.a.2 : Int), .int .u32 (X.b.1 : Int), .int .u32 (X.b.2 : Int), .int .u16 (X.c.1 : Int), .int .u16 (X.c.2 : Int), .int .u16 (X.d.1 : Int), .int .u16 (X.d.2 : Int), .int .u8 (X.m.1 : Int), .int .u8 (X.m.2 : Int)] 31)) := blk_on HX1.out hb2
      have HY2 : Hid (w2.heap[w.heap.size + 1]? = some (.cells #[.int .u32 (Y.a.1 : Int), .int .u32 (Y.a.2 : Int), .int .u32 (Y.b.1 : Int), .int .u32 (Y.b.2 : Int), .int .u16 (Y.c.1 : Int), .int .u16 (Y.c.2 : Int), .int .u16 (Y.d.1 : Int), .int .u16 (Y.d.2 : Int), .int .u8 (Y.m.1 : Int), .int .u8 (Y.m.2 : Int)] 31)) := blk_on HY1.out hb2
      have HH2 : Hid (w2.heap[w.heap.size + 1 + 1]? = some (.cells #[.int .u32 (h.s : Int), .int .u32 (h.d : Int), .int .u16 (h.p : Int), .int .u16 (h.q : Int), .int .u8 (h.r : Int)] 33)) := blk_on HH1.out hb2
      have hbl2 : Hid (Below w.heap.size w w2) := hbl1.out.trans (hb2.mono hbl1.out.size)
      clear hb2 hC2 d0 d1 d2 d3 d4 d5 d6 d7 d8 d9 HX1 HY1 HH1 hbl1
      obtain ⟨c0, c1, c2, c3, c4, c5, c6, c7, c8, c9⟩ := blk10 HX2.out
      obtain ⟨d0, d1, d2, d3, d4, d5, d6, d7, d8, d9⟩ := blk10 HY2.out
      go_wp2_with (fail)
      refine (hL _).mono ?_
      rintro e w3 ⟨v3, rfl, hr3, hb3⟩
      have HX3 : Hid (w3.heap[w.heap.size]? = some (.cells #[.int .u32 (X.a.1 : Int), .int .u32 (X.a.2 : Int), .int .u32 (X.b.1 : Int), .int .u32 (X.b.2 : Int), .int .u16 (X.c.1 : Int), .int .u16 (X.c.2 : Int), .int .u16 (X.d.1 : Int), .int .u16 (X.d.2 : Int), .int .u8 (X.m.1 : Int), .int .u8 (X.m.2 : Int)] 31)) := blk_on HX2.out hb3
      have HY3 : Hid (w3.heap[w.heap.size + 1]? = some (.cells #[.int .u32 (Y.a.1 : Int), .int .u32 (Y.a.2 : Int), .int .u32 (Y.b.1 : Int), .int .u32 (Y.b.2 : Int), .int .u16 (Y.c.1 : Int), .int .u16 (Y.c.2 : Int), .int .u16 (Y.d.1 : Int), .int .u16 (Y.d.2 : Int), .int .u8 (Y.m.1 : Int), .int .u8 (Y.m.2 : Int)] 31)) := blk_on HY2.out hb3
      have HH3 : Hid (w3.heap[w.heap.size + 1 + 1]? = some (.cells #[.int .u32 (h.s : Int), .int .u32 (h.d : Int), .int .u16 (h.p : Int), .int .u16 (h.q : Int), .int .u8 (h.r : Int)] 33)) := blk_on HH2.out hb3
      have hbl3 : Hid (Below w.heap.size w w3) := hbl2.out.trans (hb3.mono hbl2.out.size)
      clear hb3 hL c0 c1 c2 c3 c4 c5 c6 c7 c8 c9 d0 d1 d2 d3 d4 d5 d6 d7 d8 d9 HX2 HY2 HH2 hbl2
      obtain ⟨ad, cap, rfl, hcap, _⟩ := hr3.form
      obtain ⟨n, hn⟩ : ∃ n, n = l.length := ⟨_, rfl⟩
      rw [← hn] at hcap ⊢
      have HRow3 : Hid (RowX w3 0 (.slice ad n cap) l) := by rw [hn]; exact hr3.base (Nat.zero_le _)
      have HN : Hid (n = l.length) := hn
      have hnb : n ≤ 16 := by rw [hn]; exact HLEN.out
      clear hr3 hn
      obtain ⟨c0, c1, c2, c3, c4, c5, c6, c7, c8, c9⟩ := blk10 HX3.out
      obtain ⟨d0, d1, d2, d3, d4, d5, d6, d7, d8, d9⟩ := blk10 HY3.out
      obtain ⟨e0, e1, e2, e3, e4⟩ := blk5 HH3.out
      go_wp2_with (fail)
      refine (hM _).mono ?_
      rintro e w4 ⟨rfl, hb4⟩
      have HX4 : Hid (w4.heap[w.heap.size]? = some (.cells #[.int .u32 (X.a.1 : Int), .int .u32 (X.a.2 : Int), .int .u32 (X.b.1 : Int), .int .u32 (X.b.2 : Int), .int .u16 (X.c.1 : Int), .int .u16 (X.c.2 : Int), .int .u16 (X.d.1 : Int), .int .u16 (X.d.2 : Int), .int .u8 (X.m.1 : Int), .int .u8 (X.m.2 : Int)] 31)) := blk_on HX3.out hb4
      have HY4 : Hid (w4.heap[w.heap.size + 1]? = some (.cells #[.int .u32 (Y.a.1 : Int), .int .u32 (Y.a.2 : Int), .int .u32 (Y.b.1 : Int), .int .u32 (Y.b.2 : Int), .int .u16 (Y.c.1 : Int), .int .u16 (Y.c.2 : Int), .int .u16 (Y.d.1 : Int), .int .u16 (Y.d.2 : Int), .int .u8 (Y.m.1 : Int), .int .u8 (Y.m.2 : Int)] 31)) := blk_on HY3.out hb4
      have HH4 : Hid (w4.heap[w.heap.size + 1 + 1]? = some (.cells #[.int .u32 (h.s : Int), .int .u32 (h.d : Int), .int .u16 (h.p : Int), .int .u16 (h.q : Int), .int .u8 (h.r : Int)] 33)) := blk_on HH3.out hb4
      have HRow4 : Hid (RowX w4 0 (.slice ad n cap) l) := HRow3.out.on hb4
      have hbl4 : Hid (Below w.heap.size w w4) := hbl3.out.trans (hb4.mono hbl3.out.size)
      clear hb4 hM c0 c1 c2 c3 c4 c5 c6 c7 c8 c9 d0 d1 d2 d3 d4 d5 d6 d7 d8 d9 e0 e1 e2 e3 e4 HX3 HY3 HH3 hbl3 HRow3
      have hl4 := blk_lt HH4.out
      have n4 : ¬ w.heap.size + 1 + 1 = w4.heap.size := by omega
      obtain ⟨e0, e1, e2, e3, e4⟩ := blk5 HH4.out
      go_upto_region 6 with (fail)
      go_cut [44] (fun s wx => s = .bool (r && rM) ∧ Hid (Below w4.heap.size w4 wx))
      case first =>
        cases r
        · go_wp2_with (fail)
          go_meet
          case rel => exact ⟨rfl, (Below.refl _ _).alloc (Nat.le_refl _) _⟩
        · go_wp2_with (fail)
          refine (hHM _).mono ?_
          rintro e w5 ⟨rfl, hb5⟩
          go_wp2_with (fail)
          go_meet
          case rel => exact ⟨rfl, ((Below.refl _ _).alloc (Nat.le_refl _) _).trans (hb5.mono (by simp))⟩
      case rest =>
        obtain ⟨rfl, hcb⟩ := hcut
        have HX6 : Hid (wc.heap[w.heap.size]? = some (.cells #[.int .u32 (X.a.1 : Int), .int .u32 (X.a.2 : Int), .int .u32 (X.b.1 : Int), .int .u32 (X.b.2 : Int), .int .u16 (X.c.1 : Int), .int .u16 (X.c.2 : Int), .int .u16 (X.d.1 : Int), .int .u16 (X.d.2 : Int), .int .u8 (X.m.1 : Int), .int .u8 (X.m.2 : Int)] 31)) := blk_on HX4.out hcb.out
        have HY6 : Hid (wc.heap[w.heap.size + 1]? = some (.cells #[.int .u32 (Y.a.1 : Int), .int .u32 (Y.a.2 : Int), .int .u32 (Y.b.1 : Int), .int .u32 (Y.b.2 : Int), .int .u16 (Y.c.1 : Int), .int .u16 (Y.c.2 : Int), .int .u16 (Y.d.1 : Int), .int .u16 (Y.d.2 : Int), .int .u8 (Y.m.1 : Int), .int .u8 (Y.m.2 : Int)] 31)) := blk_on HY4.out hcb.out
        have HH6 : Hid (wc.heap[w.heap.size + 1 + 1]? = some (.cells #[.int .u32 (h.s : Int), .int .u32 (h.d : Int), .int .u16 (h.p : Int), .int .u16 (h.q : Int), .int .u8 (h.r : Int)] 33)) := blk_on HH4.out hcb.out
        have HRow : Hid (RowX wc 0 (.slice ad n cap) l) := HRow4.out.on hcb.out
        have hbl6 : Hid (Below w.heap.size w wc) := hbl4.out.trans (hcb.out.mono hbl4.out.size)
        obtain ⟨w6, hw6⟩ : ∃ w6, w6 = wc := ⟨_, rfl⟩
        subst hw6
        clear hcb hHM e0 e1 e2 e3 e4 HX4 HY4 HH4 HRow4 hbl4 hl4 n4
        generalize (r && rM) = rr0 at *
        go_upto_if 44 with (fail)
        go_cut [10] (fun nv wx => nv = .int .i64 ((ind rr0 : Nat) : Int) ∧ Hid (w6 = wx))
        case first =>
          cases rr0
          · go_wp2_with (fail)
            go_meet
            case rel => exact ⟨rfl, rfl⟩
          · go_wp2_with (fail)
            go_meet
            case rel => exact ⟨rfl, rfl⟩
        case rest =>
          obtain ⟨rfl, hcb⟩ := hcut
          obtain rfl := hcb.out
          clear hcb
          go_wp2_with (fail)
          go_loopw [10, 11] (fun nv iv wr => ∃ (k c : Nat), k ≤ n ∧ iv = .int .i64 (k : Int) ∧ nv = .int .i64 (c : Int) ∧ Hid (c = N0 + ((l.take k).map fun Z => ind (hasH Z h)).sum) ∧ Hid (RowX wr 0 (.slice ad n cap) l) ∧ Hid (Below w6.heap.size w6 wr)) (fun _ iv _ => n - (intOf iv).toNat)
          case atStart => exact ⟨0, ind rr0, Nat.zero_le _, rfl, rfl, by show _ = _; simpa using HN0.out, HRow.out, Below.refl _ _⟩
          case round =>
            obtain ⟨k, c, hk, rfl, rfl, hc, hrow, hbr⟩ := hrel
            have hc1 : Hid (c ≤ 1) := by show _ ≤ _; have := HTOT.out k (by rw [← HN.out]; exact hk); rw [← hc.out] at this; exact this
            by_cases hltn : k < n
            · have hlt : k < l.length := by rw [← HN.out]; exact hltn
              have hat := hrow.out.at
              obtain ⟨g, hg, cc⟩ := hat (by omega)
              obtain rfl := hg
              obtain ⟨p, hp⟩ : ∃ p, p = l[k] := ⟨_, rfl⟩
              have x0 : wr.cell? ⟨g, k * 10, none⟩ = some (.int .u32 (p.a.1 : Int)) := by rw [hp]; exact cc k hlt 0 (by decide)
              have x1 : wr.cell? ⟨g, k * 10 + 1, none⟩ = some (.int .u32 (p.a.2 : Int)) := by rw [hp]; exact cc k hlt 1 (by decide)
              have x2 : wr.cell? ⟨g, k * 10 + 2, none⟩ = some (.int .u32 (p.b.1 : Int)) := by rw [hp]; exact cc k hlt 2 (by decide)
              have x3 : wr.cell? ⟨g, k * 10 + 3, none⟩ = some (.int .u32 (p.b.2 : Int)) := by rw [hp]; exact cc k hlt 3 (by decide)
              have x4 : wr.cell? ⟨g, k * 10 + 4, none⟩ = some (.int .u16 (p.c.1 : Int)) := by rw [hp]; exact cc k hlt 4 (by decide)
              have x5 : wr.cell? ⟨g, k * 10 + 5, none⟩ = some (.int .u16 (p.c.2 : Int)) := by rw [hp]; exact cc k hlt 5 (by decide)
              have x6 : wr.cell? ⟨g, k * 10 + 6, none⟩ = some (.int .u16 (p.d.1 : Int)) := by rw [hp]; exact cc k hlt 6 (by decide)
              have x7 : wr.cell? ⟨g, k * 10 + 7, none⟩ = some (.int .u16 (p.d.2 : Int)) := by rw [hp]; exact cc k hlt 7 (by decide)
              have x8 : wr.cell? ⟨g, k * 10 + 8, none⟩ = some (.int .u8 (p.m.1 : Int)) := by rw [hp]; exact cc k hlt 8 (by decide)
              have x9 : wr.cell? ⟨g, k * 10 + 9, none⟩ = some (.int .u8 (p.m.2 : Int)) := by rw [hp]; exact cc k hlt 9 (by decide)
              have hpm : p ∈ l := by rw [hp]; exact List.getElem_mem hlt
              have hpb := HBL.out p hpm
              obtain ⟨pe1, pe2⟩ := HEA.out p hpm
              have h11 := fun W => hasXC p h W hpb HOH.out
              have h13 : ∀ W, Calls Try.prog 8 #[.agg #[.int .u32 (p.a.1 : Int), .int .u32 (p.a.2 : Int), .int .u32 (p.b.1 : Int), .int .u32 (p.b.2 : Int), .int .u16 (p.c.1 : Int), .int .u16 (p.c.2 : Int), .int .u16 (p.d.1 : Int), .int .u16 (p.d.2 : Int), .int .u8 (p.m.1 : Int), .int .u8 (p.m.2 : Int)], .agg #[.int .u32 (Y.a.1 : Int), .int .u32 (Y.a.2 : Int), .int .u32 (Y.b.1 : Int), .int .u32 (Y.b.2 : Int), .int .u16 (Y.c.1 : Int), .int .u16 (Y.c.2 : Int), .int .u16 (Y.d.1 : Int), .int .u16 (Y.d.2 : Int), .int .u8 (Y.m.1 : Int), .int .u8 (Y.m.2 : Int)]] W fun e w' => e = .returned (.tuple #[.agg #[.int .u32 ((meetX p Y).a.1 : Int), .int .u32 ((meetX p Y).a.2 : Int), .int .u32 ((meetX p Y).b.1 : Int), .int .u32 ((meetX p Y).b.2 : Int), .int .u16 ((meetX p Y).c.1 : Int), .int .u16 ((meetX p Y).c.2 : Int), .int .u16 ((meetX p Y).d.1 : Int), .int .u16 ((meetX p Y).d.2 : Int), .int .u8 ((meetX p Y).m.1 : Int), .int .u8 ((meetX p Y).m.2 : Int)], .bool false]) ∧ Ext W w' := fun W => by
                have e := meetXC p Y W hpb HBY.out
                rw [pe1] at e
                exact e
              have h14 := fun W => withinXC p X W hpb HBX.out
              rw [pe2] at h14
              have hsum : ((l.take (k + 1)).map fun Z => ind (hasH Z h)).sum = ((l.take k).map fun Z => ind (hasH Z h)).sum + ind (hasH p h) := by rw [List.take_succ_eq_append_getElem hlt, List.map_append, List.sum_append, hp]; simp
              have HC1 : Hid (c + ind (hasH p h) = N0 + ((l.take (k + 1)).map fun Z => ind (hasH Z h)).sum) := by show _ = _; rw [hsum, hc.out]; omega
              have HC2 : Hid (c + ind (hasH p h) ≤ 1) := by show _ ≤ _; have := HTOT.out (k + 1) (by omega); rw [← HC1.out] at this; exact this
              generalize meetX p Y = MM at *
              generalize hasH p h = rr at *
              have hz := hbr.out.size
              have HXr : w6.heap.size ≤ wr.heap.size := hz
              have hX6 := blk_on HX6.out hbr.out
              have hY6 := blk_on HY6.out hbr.out
              have hH6 := blk_on HH6.out hbr.out
              obtain ⟨c0, c1, c2, c3, c4, c5, c6, c7, c8, c9⟩ := blk10 hX6
              obtain ⟨d0, d1, d2, d3, d4, d5, d6, d7, d8, d9⟩ := blk10 hY6
              obtain ⟨e0, e1, e2, e3, e4⟩ := blk5 hH6
              clear cc hat hlt hsum hp hpm hpb pe1 pe2 hc hX6 hY6 hH6
              have hlt' : (k : Int) < (n : Int) := by omega
              have hk0 : (0 : Int) ≤ (k : Int) := by omega
              go_wp2_with (fail)
              have kne : Nonempty (Kin (wr)) := ⟨⟨_, Below.refl _ _⟩⟩
              have kc0 : ∀ y : Kin (wr), y.val.cell? ⟨g, k * 10, none⟩ = some (.int .u32 (p.a.1 : Int)) := fun y => cell_on1 y.is x0
              have kc1 : ∀ y : Kin (wr), y.val.cell? ⟨g, k * 10 + 1, none⟩ = some (.int .u32 (p.a.2 : Int)) := fun y => cell_on1 y.is x1
              have kc2 : ∀ y : Kin (wr), y.val.cell? ⟨g, k * 10 + 2, none⟩ = some (.int .u32 (p.b.1 : Int)) := fun y => cell_on1 y.is x2
              have kc3 : ∀ y : Kin (wr), y.val.cell? ⟨g, k * 10 + 3, none⟩ = some (.int .u32 (p.b.2 : Int)) := fun y => cell_on1 y.is x3
              have kc4 : ∀ y : Kin (wr), y.val.cell? ⟨g, k * 10 + 4, none⟩ = some (.int .u16 (p.c.1 : Int)) := fun y => cell_on1 y.is x4
              have kc5 : ∀ y : Kin (wr), y.val.cell? ⟨g, k * 10 + 5, none⟩ = some (.int .u16 (p.c.2 : Int)) := fun y => cell_on1 y.is x5
              have kc6 : ∀ y : Kin (wr), y.val.cell? ⟨g, k * 10 + 6, none⟩ = some (.int .u16 (p.d.1 : Int)) := fun y => cell_on1 y.is x6
              have kc7 : ∀ y : Kin (wr), y.val.cell? ⟨g, k * 10 + 7, none⟩ = some (.int .u16 (p.d.2 : Int)) := fun y => cell_on1 y.is x7
              have kc8 : ∀ y : Kin (wr), y.val.cell? ⟨g, k * 10 + 8, none⟩ = some (.int .u8 (p.m.1 : Int)) := fun y => cell_on1 y.is x8
              have kc9 : ∀ y : Kin (wr), y.val.cell? ⟨g, k * 10 + 9, none⟩ = some (.int .u8 (p.m.2 : Int)) := fun y => cell_on1 y.is x9
              have kc10 : ∀ y : Kin (wr), y.val.cell? ⟨w.heap.size + 1 + 1, 0, none⟩ = some (.int .u32 (h.s : Int)) := fun y => cell_on1 y.is e0
              have kc11 : ∀ y : Kin (wr), y.val.cell? ⟨w.heap.size + 1 + 1, 1, none⟩ = some (.int .u32 (h.d : Int)) := fun y => cell_on1 y.is e1
              have kc12 : ∀ y : Kin (wr), y.val.cell? ⟨w.heap.size + 1 + 1, 2, none⟩ = some (.int .u16 (h.p : Int)) := fun y => cell_on1 y.is e2
              have kc13 : ∀ y : Kin (wr), y.val.cell? ⟨w.heap.size + 1 + 1, 3, none⟩ = some (.int .u16 (h.q : Int)) := fun y => cell_on1 y.is e3
              have kc14 : ∀ y : Kin (wr), y.val.cell? ⟨w.heap.size + 1 + 1, 4, none⟩ = some (.int .u8 (h.r : Int)) := fun y => cell_on1 y.is e4
              refine wp_region_kin (wr) (Below.refl _ _) (by kernel_rfl) (by kernel_rfl) ?_
              repeat (go_big_quiet_step (first | (go_at_call 9; exact kin_call (h11 _))))
              refine wpQuiet_nil ?_
              rintro wq ⟨⟨xq, hxq⟩, hyq⟩
              have hq : Below (wr).heap.size (wr) wq := by rw [hyq]; exact hxq
              clear hyq hxq xq
              clear kne kc0 kc1 kc2 kc3 kc4 kc5 kc6 kc7 kc8 kc9 kc10 kc11 kc12 kc13 kc14
              have f9 : ∀ q v, wr.cell? q = some v → wq.cell? q = some v := fun q v hv => cell_on1 hq hv
              have HR9 : Hid (RowX wq 0 (.slice (some ⟨g, 0, none⟩) n cap) l) := hrow.out.on hq
              have HB9 : Hid (Below w6.heap.size w6 wq) := hbr.out.trans (hq.mono hz)
              have hzq := hq.size
              have x0 := f9 _ _ x0
              have x1 := f9 _ _ x1
              have x2 := f9 _ _ x2
              have x3 := f9 _ _ x3
              have x4 := f9 _ _ x4
              have x5 := f9 _ _ x5
              have x6 := f9 _ _ x6
              have x7 := f9 _ _ x7
              have x8 := f9 _ _ x8
              have x9 := f9 _ _ x9
              have c0 := f9 _ _ c0
              have c1 := f9 _ _ c1
              have c2 := f9 _ _ c2
              have c3 := f9 _ _ c3
              have c4 := f9 _ _ c4
              have c5 := f9 _ _ c5
              have c6 := f9 _ _ c6
              have c7 := f9 _ _ c7
              have c8 := f9 _ _ c8
              have c9 := f9 _ _ c9
              have d0 := f9 _ _ d0
              have d1 := f9 _ _ d1
              have d2 := f9 _ _ d2
              have d3 := f9 _ _ d3
              have d4 := f9 _ _ d4
              have d5 := f9 _ _ d5
              have d6 := f9 _ _ d6
              have d7 := f9 _ _ d7
              have d8 := f9 _ _ d8
              have d9 := f9 _ _ d9
              clear hq f9 h11 hrow hbr e0 e1 e2 e3 e4
              obtain ⟨c', hc'⟩ : ∃ c', c' = c + ind rr := ⟨_, rfl⟩
              have HC3 : Hid (c' = N0 + ((l.take (k + 1)).map fun Z => ind (hasH Z h)).sum) := by show _ = _; rw [hc']; exact HC1.out
              have HCC : Hid (c' = c + ind rr) := hc'
              have HCb : Hid (c ≤ 1) := hc1.out
              clear HC1 HC2 hc' hc1
              go_upto_if 58 with (fail)
              go_cut [10] from 47 to 79 (fun nv wx => nv = .int .i64 (c' : Int) ∧ Hid (wq = wx))
              case first =>
                cases rr
                · have e0 : c' = c := HCC.out
                  subst e0
                  go_wp2_with (fail)
                  go_meet
                  case rel => exact ⟨rfl, rfl⟩
                · have e0 : (c' : Int) = (c : Int) + 1 := by have : c' = c + 1 := HCC.out; omega
                  have e1 : (c : Int) ≤ 1 := by have := HCb.out; omega
                  have e2 : (0 : Int) ≤ (c : Int) := by omega
                  have HE0 : Hid ((c' : Int) = (c : Int) + 1) := e0
                  clear e0
                  go_wp2_with (fail)
                  go_meet
                  case rel => exact ⟨by rw [HE0.out], rfl⟩
              case rest =>
                obtain ⟨rfl, hcb⟩ := hcut
                obtain rfl := hcb.out
                clear hcb HCC HCb
                go_upto_region 13 with (fail)
                have gg : g < wq.heap.size := World.block_lt_of_cell? _ _ x0
                have lX : w.heap.size < wq.heap.size := World.block_lt_of_cell? _ _ c0
                have lY : w.heap.size + 1 < wq.heap.size := World.block_lt_of_cell? _ _ d0
                have ng : ¬ g = wq.heap.size := by omega
                have nX : ¬ w.heap.size = wq.heap.size := by omega
                have nY : ¬ w.heap.size + 1 = wq.heap.size := by omega
                go_cut [12, 13] from 47 to 79 (fun s u wx => u = .bool false ∧ Hid (Below wq.heap.size wq wx))
                case first =>
                  refine wp_region_held_drew (S := fun w' => Below wq.heap.size wq w') (by kernel_rfl) (Below.drew (Below.refl _ _)) (fun hS0 => ?_)
                  have hia : ∀ w', Sem.run Try.prog (Instr.indexAt 37 (.slice (some ⟨g, 0, none⟩) n cap) (.int .i64 (k : Int))) w' = .ok (.pointer (some ⟨g, k * 10, none⟩)) w' := fun w' => by simp [go_sem, hlt', hk0, hltn]
                  show wpAnyH _ _ _ _ _ 12 _ _ _
                  refine wpAnyH_take (i := 0) rfl (by kernel_rfl) (by kernel_rfl) (by kernel_rfl) (fun _ _ _ h => h) (.inl ⟨rfl, fun _ _ => rfl⟩) hS0 ?_
                  refine wpAnyH_take (i := 1) rfl (by kernel_rfl) (by kernel_rfl) (by kernel_rfl) (fun _ _ _ h => h) (.inl ⟨rfl, fun _ _ => rfl⟩) hS0 ?_
                  refine wpAnyH_take (i := 2) rfl (by kernel_rfl) (by kernel_rfl) (by kernel_rfl) (fun _ _ _ h => h) (yieldsIf_index rfl 37 (.tmp 62) (.tmp 63) rfl (.pointer (some ⟨g, k * 10, none⟩)) hia) hS0 ?_
                  refine wpAnyH_take (i := 3) rfl (by kernel_rfl) (by kernel_rfl) (by kernel_rfl) (fun _ _ _ h => h) (yieldsIf_load_mid rfl 31 (.tmp 64) rfl g (k * 10) rfl [.int .u32 (p.a.1 : Int), .int .u32 (p.a.2 : Int), .int .u32 (p.b.1 : Int), .int .u32 (p.b.2 : Int), .int .u16 (p.c.1 : Int), .int .u16 (p.c.2 : Int), .int .u16 (p.d.1 : Int), .int .u16 (p.d.2 : Int), .int .u8 (p.m.1 : Int), .int .u8 (p.m.2 : Int)] _ (fun w' hw' => range10 (cell_on1 hw' x0) (cell_on1 hw' x1) (cell_on1 hw' x2) (cell_on1 hw' x3) (cell_on1 hw' x4) (cell_on1 hw' x5) (cell_on1 hw' x6) (cell_on1 hw' x7) (cell_on1 hw' x8) (cell_on1 hw' x9)) Try.underlying31 rfl (by kernel_rfl)) hS0 ?_
                  refine wpAnyH_take (i := 4) rfl (by kernel_rfl) (by kernel_rfl) (by kernel_rfl) (fun _ _ _ h => h) (yieldsIf_load_mid rfl 31 (.tmp 4) rfl (w.heap.size + 1) 0 rfl [.int .u32 (Y.a.1 : Int), .int .u32 (Y.a.2 : Int), .int .u32 (Y.b.1 : Int), .int .u32 (Y.b.2 : Int), .int .u16 (Y.c.1 : Int), .int .u16 (Y.c.2 : Int), .int .u16 (Y.d.1 : Int), .int .u16 (Y.d.2 : Int), .int .u8 (Y.m.1 : Int), .int .u8 (Y.m.2 : Int)] _ (fun w' hw' => range10 (cell_on1 hw' d0) (cell_on1 hw' d1) (cell_on1 hw' d2) (cell_on1 hw' d3) (cell_on1 hw' d4) (cell_on1 hw' d5) (cell_on1 hw' d6) (cell_on1 hw' d7) (cell_on1 hw' d8) (cell_on1 hw' d9)) Try.underlying31 rfl (by kernel_rfl)) hS0 ?_
                  refine wpAnyH_all (rs := [5, 9]) (by kernel_rfl) (by simp) ?_
                  intro i hi
                  simp only [List.mem_cons, List.not_mem_nil, or_false] at hi
                  rcases hi with rfl | rfl
                  · refine wpOp_of_wp rfl rfl (fun K' hK' => ?_)
                    go_wp2_with (go_at_call 8; refine (h13 _).mono ?_; rintro e w4 ⟨rfl, hb4⟩)
                    have hS4 : Below wq.heap.size wq w4 := (Below.drew (Below.refl _ _)).trans hb4
                    refine ⟨hS4, ?_⟩
                    refine wpAnyH_take (i := 6) rfl (by kernel_rfl) (by kernel_rfl) (by kernel_rfl) (fun _ _ _ h => h) (.inl ⟨rfl, fun _ _ => rfl⟩) hS4 ?_
                    refine wpAnyH_take (i := 7) rfl (by kernel_rfl) (by kernel_rfl) (by kernel_rfl) (fun _ _ _ h => h) (.inl ⟨rfl, fun _ _ => rfl⟩) hS4 ?_
                    refine wpAnyH_take (i := 8) rfl (by kernel_rfl) (by kernel_rfl) (by kernel_rfl) (fun _ _ _ h => h) (.inl ⟨rfl, fun _ _ => rfl⟩) hS4 ?_
                    refine wpAnyH_all (rs := [9]) (by kernel_rfl) (by simp) ?_
                    intro i hi
                    simp only [List.mem_cons, List.not_mem_nil, or_false] at hi
                    subst hi
                    refine wpOp_of_wp rfl rfl (fun K' hK' => ?_)
                    go_wp2_with (fail)
                    refine ⟨hS4.alloc hS4.size _, ?_⟩
                    refine wpAnyH_all (rs := [10]) (by kernel_rfl) (by simp) ?_
                    intro i hi
                    simp only [List.mem_cons, List.not_mem_nil, or_false] at hi
                    subst hi
                    refine wpOp_of_wp rfl rfl (fun K' hK' => ?_)
                    refine wp_store_blk 31 (.tmp 12) (.tmp 68) rfl w4.heap.size 0 #[.int .u32 (MM.a.1 : Int), .int .u32 (MM.a.2 : Int), .int .u32 (MM.b.1 : Int), .int .u32 (MM.b.2 : Int), .int .u16 (MM.c.1 : Int), .int .u16 (MM.c.2 : Int), .int .u16 (MM.d.1 : Int), .int .u16 (MM.d.2 : Int), .int .u8 (MM.m.1 : Int), .int .u8 (MM.m.2 : Int)] #[.int .u32 (MM.a.1 : Int), .int .u32 (MM.a.2 : Int), .int .u32 (MM.b.1 : Int), .int .u32 (MM.b.2 : Int), .int .u16 (MM.c.1 : Int), .int .u16 (MM.c.2 : Int), .int .u16 (MM.d.1 : Int), .int .u16 (MM.d.2 : Int), .int .u8 (MM.m.1 : Int), .int .u8 (MM.m.2 : Int)] rfl rfl 31 _ (blk_new w4 _) (Nat.le_of_ble_eq_true rfl) rfl (by kernel_rfl) rfl (fun w6' h6 ho6 => hK' _ _ ⟨?_, ?_⟩)
                    · exact (hS4.alloc hS4.size _).trans (ho6.below hS4.size)
                    · have hS6 : Below wq.heap.size wq w6' := (hS4.alloc hS4.size _).trans (ho6.below hS4.size)
                      refine wpAnyH_take (i := 11) rfl (by kernel_rfl) (by kernel_rfl) (by kernel_rfl) (fun _ _ _ h => h) (.inl ⟨rfl, fun _ _ => rfl⟩) hS6 ?_
                      refine wpAnyH_done (by kernel_rfl) ?_ _
                      simp only [List.getElem_toArray, List.getElem_cons_succ, List.getElem_cons_zero, Act.put, List.setIfInBounds_toArray, List.set_cons_zero, List.set_cons_succ]
                      go_wp2_with (fail)
                      go_meet
                      case rel => exact ⟨rfl, hS6⟩
                  · refine wpOp_of_wp rfl rfl (fun K' hK' => ?_)
                    go_wp2_with (fail)
                    have hSa : Below wq.heap.size wq (wq.drew.alloc (.cells #[.int .u32 0, .int .u32 0, .int .u32 0, .int .u32 0, .int .u16 0, .int .u16 0, .int .u16 0, .int .u16 0, .int .u8 0, .int .u8 0] 31)) := (Below.drew (Below.refl _ _)).alloc (Nat.le_refl _) _
                    refine ⟨hSa, ?_⟩
                    refine wpAnyH_all (rs := [5]) (by kernel_rfl) (by simp) ?_
                    intro i hi
                    simp only [List.mem_cons, List.not_mem_nil, or_false] at hi
                    subst hi
                    refine wpOp_of_wp rfl rfl (fun K' hK' => ?_)
                    go_wp2_with (go_at_call 8; refine (h13 _).mono ?_; rintro e w4 ⟨rfl, hb4⟩)
                    have hS4 : Below wq.heap.size wq w4 := by have hb5 := hb4; unfold Ext at hb5; exact hSa.trans (hb5.mono hSa.size)
                    have hbk : w4.heap[wq.heap.size]? = some (.cells #[.int .u32 0, .int .u32 0, .int .u32 0, .int .u32 0, .int .u16 0, .int .u16 0, .int .u16 0, .int .u16 0, .int .u8 0, .int .u8 0] 31) := by have hb5 := hb4; unfold Ext at hb5; exact blk_on (blk_new wq.drew _) hb5
                    refine ⟨hS4, ?_⟩
                    refine wpAnyH_take (i := 6) rfl (by kernel_rfl) (by kernel_rfl) (by kernel_rfl) (fun _ _ _ h => h) (.inl ⟨rfl, fun _ _ => rfl⟩) hS4 ?_
                    refine wpAnyH_take (i := 7) rfl (by kernel_rfl) (by kernel_rfl) (by kernel_rfl) (fun _ _ _ h => h) (.inl ⟨rfl, fun _ _ => rfl⟩) hS4 ?_
                    refine wpAnyH_take (i := 8) rfl (by kernel_rfl) (by kernel_rfl) (by kernel_rfl) (fun _ _ _ h => h) (.inl ⟨rfl, fun _ _ => rfl⟩) hS4 ?_
                    refine wpAnyH_all (rs := [10]) (by kernel_rfl) (by simp) ?_
                    intro i hi
                    simp only [List.mem_cons, List.not_mem_nil, or_false] at hi
                    subst hi
                    refine wpOp_of_wp rfl rfl (fun K' hK' => ?_)
                    refine wp_store_blk 31 (.tmp 12) (.tmp 68) rfl wq.heap.size 0 #[.int .u32 (MM.a.1 : Int), .int .u32 (MM.a.2 : Int), .int .u32 (MM.b.1 : Int), .int .u32 (MM.b.2 : Int), .int .u16 (MM.c.1 : Int), .int .u16 (MM.c.2 : Int), .int .u16 (MM.d.1 : Int), .int .u16 (MM.d.2 : Int), .int .u8 (MM.m.1 : Int), .int .u8 (MM.m.2 : Int)] #[.int .u32 (MM.a.1 : Int), .int .u32 (MM.a.2 : Int), .int .u32 (MM.b.1 : Int), .int .u32 (MM.b.2 : Int), .int .u16 (MM.c.1 : Int), .int .u16 (MM.c.2 : Int), .int .u16 (MM.d.1 : Int), .int .u16 (MM.d.2 : Int), .int .u8 (MM.m.1 : Int), .int .u8 (MM.m.2 : Int)] rfl rfl 31 _ hbk (Nat.le_of_ble_eq_true rfl) rfl (by kernel_rfl) rfl (fun w6' h6 ho6 => hK' _ _ ⟨?_, ?_⟩)
                    · exact hS4.trans (ho6.below (Nat.le_refl _))
                    · have hS6 : Below wq.heap.size wq w6' := hS4.trans (ho6.below (Nat.le_refl _))
                      refine wpAnyH_take (i := 11) rfl (by kernel_rfl) (by kernel_rfl) (by kernel_rfl) (fun _ _ _ h => h) (.inl ⟨rfl, fun _ _ => rfl⟩) hS6 ?_
                      refine wpAnyH_done (by kernel_rfl) ?_ _
                      simp only [List.getElem_toArray, List.getElem_cons_succ, List.getElem_cons_zero, Act.put, List.setIfInBounds_toArray, List.set_cons_zero, List.set_cons_succ]
                      go_wp2_with (fail)
                      go_meet
                      case rel => exact ⟨rfl, hS6⟩
                case rest =>
                  obtain ⟨rfl, hcb⟩ := hcut
                  have f9 : ∀ q v, wq.cell? q = some v → wc.cell? q = some v := fun q v hv => cell_on1 hcb.out hv
                  have HRc : Hid (RowX wc 0 (.slice (some ⟨g, 0, none⟩) n cap) l) := HR9.out.on hcb.out
                  have HBc : Hid (Below w6.heap.size w6 wc) := HB9.out.trans (hcb.out.mono (by omega))
                  have x0 := f9 _ _ x0
                  have x1 := f9 _ _ x1
                  have x2 := f9 _ _ x2
                  have x3 := f9 _ _ x3
                  have x4 := f9 _ _ x4
                  have x5 := f9 _ _ x5
                  have x6 := f9 _ _ x6
                  have x7 := f9 _ _ x7
                  have x8 := f9 _ _ x8
                  have x9 := f9 _ _ x9
                  have c0 := f9 _ _ c0
                  have c1 := f9 _ _ c1
                  have c2 := f9 _ _ c2
                  have c3 := f9 _ _ c3
                  have c4 := f9 _ _ c4
                  have c5 := f9 _ _ c5
                  have c6 := f9 _ _ c6
                  have c7 := f9 _ _ c7
                  have c8 := f9 _ _ c8
                  have c9 := f9 _ _ c9
                  have gg : g < wc.heap.size := World.block_lt_of_cell? _ _ x0
                  clear f9 d0 d1 d2 d3 d4 d5 d6 d7 d8 d9 ng nX nY lX lY hcb
                  go_wp2_with (fail)
                  have kne : Nonempty (Kin (wc)) := ⟨⟨_, Below.refl _ _⟩⟩
                  have kc0 : ∀ y : Kin (wc), y.val.cell? ⟨g, k * 10, none⟩ = some (.int .u32 (p.a.1 : Int)) := fun y => cell_on1 y.is x0
                  have kc1 : ∀ y : Kin (wc), y.val.cell? ⟨g, k * 10 + 1, none⟩ = some (.int .u32 (p.a.2 : Int)) := fun y => cell_on1 y.is x1
                  have kc2 : ∀ y : Kin (wc), y.val.cell? ⟨g, k * 10 + 2, none⟩ = some (.int .u32 (p.b.1 : Int)) := fun y => cell_on1 y.is x2
                  have kc3 : ∀ y : Kin (wc), y.val.cell? ⟨g, k * 10 + 3, none⟩ = some (.int .u32 (p.b.2 : Int)) := fun y => cell_on1 y.is x3
                  have kc4 : ∀ y : Kin (wc), y.val.cell? ⟨g, k * 10 + 4, none⟩ = some (.int .u16 (p.c.1 : Int)) := fun y => cell_on1 y.is x4
                  have kc5 : ∀ y : Kin (wc), y.val.cell? ⟨g, k * 10 + 5, none⟩ = some (.int .u16 (p.c.2 : Int)) := fun y => cell_on1 y.is x5
                  have kc6 : ∀ y : Kin (wc), y.val.cell? ⟨g, k * 10 + 6, none⟩ = some (.int .u16 (p.d.1 : Int)) := fun y => cell_on1 y.is x6
                  have kc7 : ∀ y : Kin (wc), y.val.cell? ⟨g, k * 10 + 7, none⟩ = some (.int .u16 (p.d.2 : Int)) := fun y => cell_on1 y.is x7
                  have kc8 : ∀ y : Kin (wc), y.val.cell? ⟨g, k * 10 + 8, none⟩ = some (.int .u8 (p.m.1 : Int)) := fun y => cell_on1 y.is x8
                  have kc9 : ∀ y : Kin (wc), y.val.cell? ⟨g, k * 10 + 9, none⟩ = some (.int .u8 (p.m.2 : Int)) := fun y => cell_on1 y.is x9
                  have kc10 : ∀ y : Kin (wc), y.val.cell? ⟨w.heap.size, 0, none⟩ = some (.int .u32 (X.a.1 : Int)) := fun y => cell_on1 y.is c0
                  have kc11 : ∀ y : Kin (wc), y.val.cell? ⟨w.heap.size, 1, none⟩ = some (.int .u32 (X.a.2 : Int)) := fun y => cell_on1 y.is c1
                  have kc12 : ∀ y : Kin (wc), y.val.cell? ⟨w.heap.size, 2, none⟩ = some (.int .u32 (X.b.1 : Int)) := fun y => cell_on1 y.is c2
                  have kc13 : ∀ y : Kin (wc), y.val.cell? ⟨w.heap.size, 3, none⟩ = some (.int .u32 (X.b.2 : Int)) := fun y => cell_on1 y.is c3
                  have kc14 : ∀ y : Kin (wc), y.val.cell? ⟨w.heap.size, 4, none⟩ = some (.int .u16 (X.c.1 : Int)) := fun y => cell_on1 y.is c4
                  have kc15 : ∀ y : Kin (wc), y.val.cell? ⟨w.heap.size, 5, none⟩ = some (.int .u16 (X.c.2 : Int)) := fun y => cell_on1 y.is c5
                  have kc16 : ∀ y : Kin (wc), y.val.cell? ⟨w.heap.size, 6, none⟩ = some (.int .u16 (X.d.1 : Int)) := fun y => cell_on1 y.is c6
                  have kc17 : ∀ y : Kin (wc), y.val.cell? ⟨w.heap.size, 7, none⟩ = some (.int .u16 (X.d.2 : Int)) := fun y => cell_on1 y.is c7
                  have kc18 : ∀ y : Kin (wc), y.val.cell? ⟨w.heap.size, 8, none⟩ = some (.int .u8 (X.m.1 : Int)) := fun y => cell_on1 y.is c8
                  have kc19 : ∀ y : Kin (wc), y.val.cell? ⟨w.heap.size, 9, none⟩ = some (.int .u8 (X.m.2 : Int)) := fun y => cell_on1 y.is c9
                  refine wp_region_kin (wc) (Below.refl _ _) (by kernel_rfl) (by kernel_rfl) ?_
                  repeat (go_big_quiet_step (first | (go_at_call 10; exact kin_call (h14 _))))
                  refine wpQuiet_nil ?_
                  rintro wz ⟨⟨xz, hxz⟩, hyz⟩
                  have hz2 : Below (wc).heap.size (wc) wz := by rw [hyz]; exact hxz
                  clear hyz hxz xz
                  clear kne kc0 kc1 kc2 kc3 kc4 kc5 kc6 kc7 kc8 kc9 kc10 kc11 kc12 kc13 kc14 kc15 kc16 kc17 kc18 kc19
                  have HRz : Hid (RowX wz 0 (.slice (some ⟨g, 0, none⟩) n cap) l) := HRc.out.on hz2
                  have HBz : Hid (Below w6.heap.size w6 wz) := HBc.out.trans (hz2.mono HBc.out.size)
                  clear hz2 x0 x1 x2 x3 x4 x5 x6 x7 x8 x9 c0 c1 c2 c3 c4 c5 c6 c7 c8 c9
                  go_wp2_with (fail)
                  go_roundw
                  case rel => exact ⟨k + 1, c', by omega, by go_num, by first | rfl | go_num, HC3.out, HRz.out, HBz.out⟩
                  case measure => simp [intOf]; omega
            · obtain rfl : k = n := by omega
              have HF : Hid (c = ind (hasH X h)) := by
                show _ = _
                rw [hc.out, HN.out, List.take_length]
                exact HTX.out
              have hX6 := blk_on HX6.out hbr.out
              have hH6 := blk_on HH6.out hbr.out
              clear hc
              cases hxh : hasH X h
              · have HC0 : c = 0 := by rw [HF.out, hxh]; rfl
                subst HC0
                have hHX := fun W => hasXC X h W HBX.out HOH.out
                rw [hxh] at hHX
                clear hxh HF
                go_wp2_with (fail)
                refine (hA _).mono ?_
                rintro e w9 ⟨rfl, hb9⟩
                obtain ⟨c0, c1, c2, c3, c4, c5, c6, c7, c8, c9⟩ := blk10 (blk_on hX6 hb9)
                obtain ⟨e0, e1, e2, e3, e4⟩ := blk5 (blk_on hH6 hb9)
                have HB9 : Hid (Below w.heap.size w w9) := (hbl6.out.trans (hbr.out.mono hbl6.out.size)).trans (hb9.mono (by have := hbl6.out.size; have := hbr.out.size; omega))
                clear hb9 hX6 hH6
                go_wp2_with (fail)
                refine (hHX _).mono ?_
                rintro e w10 ⟨rfl, hb10⟩
                have HB10 : Hid (Below w.heap.size w w10) := HB9.out.trans (hb10.mono HB9.out.size)
                clear hb10
                go_wp2
                go_ret
                exact ⟨rfl, HB10.out⟩
              · have HC0 : c = 1 := by rw [HF.out, hxh]; rfl
                subst HC0
                have hHX := fun W => hasXC X h W HBX.out HOH.out
                rw [hxh] at hHX
                clear hxh HF
                go_wp2_with (fail)
                refine (hA _).mono ?_
                rintro e w9 ⟨rfl, hb9⟩
                obtain ⟨c0, c1, c2, c3, c4, c5, c6, c7, c8, c9⟩ := blk10 (blk_on hX6 hb9)
                obtain ⟨e0, e1, e2, e3, e4⟩ := blk5 (blk_on hH6 hb9)
                have HB9 : Hid (Below w.heap.size w w9) := (hbl6.out.trans (hbr.out.mono hbl6.out.size)).trans (hb9.mono (by have := hbl6.out.size; have := hbr.out.size; omega))
                clear hb9 hX6 hH6
                go_wp2_with (fail)
                refine (hHX _).mono ?_
                rintro e w10 ⟨rfl, hb10⟩
                have HB10 : Hid (Below w.heap.size w w10) := HB9.out.trans (hb10.mono HB9.out.size)
                clear hb10
                go_wp2
                go_ret
                exact ⟨rfl, HB10.out⟩

set_option maxRecDepth 100000 in
theorem boxParts_lifted (os : Os) (started : os.Started) (H : Type) (enc : TypeId × Value → H) :
    ReturnsInHanded {} Try.checked os 3 .any (Rows.boxPartsSpec.pre6 enc Try.prog Try.f3 Rows.boxPartsRow.domain false) (Rows.boxPartsSpec.post enc Try.prog Try.f3 false true false false) := by
  refine returnsInHanded_of_change (C := Try.checked) own started (by kernel_rfl) Try.func3
    (ChangeSpec.witness6 (enc := enc) (C := Try.checked) false ⟨#[], #[.agg #[.int .u32 0, .int .u32 0, .int .u32 0, .int .u32 0, .int .u16 0, .int .u16 0, .int .u16 0, .int .u16 0, .int .u8 0, .int .u8 0], .agg #[.int .u32 0, .int .u32 0, .int .u32 0, .int .u32 0, .int .u16 0, .int .u16 0, .int .u16 0, .int .u16 0, .int .u8 0, .int .u8 0], .agg #[.int .u32 0, .int .u32 0, .int .u16 0, .int .u16 0, .int .u8 0]], []⟩ 8 (by kernel_rfl) (by kernel_rfl) (by kernel_rfl) (by kernel_rfl)) ?_
  intro W base args ds gs before hval0 hW hcnd _
  have hval : ∀ (j : Nat) t v, Try.f3.params[j]? = some t → args[j]? = some v → Value.okWide Try.prog W .any base t v := hval0
  have hW' := hW
  obtain ⟨p, q, hA0, hV, rfl, hfz, hnd⟩ := hW
  have hA : DataW.TrodAll enc Try.prog W 0 (fun _ => true) true Try.f3.params.toList args.toList ds p := hA0
  rw [Try.params3] at hA hval
  obtain ⟨v0, vs0, d0, ds0, p0, q0, hargs, rfl, rfl, h0, r0⟩ := trodAll_cons hA
  obtain ⟨v1, vs1, d1, ds1, p1, q1, rfl, rfl, rfl, h1, r1⟩ := trodAll_cons r0
  obtain ⟨v2, vs2, d2, ds2, p2, q2, rfl, rfl, rfl, h2, r2⟩ := trodAll_cons r1
  obtain ⟨rfl, rfl, rfl⟩ := trodAll_nil r2
  obtain rfl : args = #[v0, v1, v2] := by cases args; simp_all
  obtain ⟨rfl, rfl⟩ := trodVars_none hV
  obtain ⟨g0, rfl, rfl, rfl, o0⟩ := open_bx (hval 0 31 v0 rfl rfl) h0
  obtain ⟨g1, rfl, rfl, rfl, o1⟩ := open_bx (hval 1 31 v1 rfl rfl) h1
  obtain ⟨g2, rfl, rfl, rfl, o2⟩ := open_hd (hval 2 33 v2 rfl rfl) h2
  clear hA0 hval0
  simp only [List.append_nil] at hW'
  refine (boxParts_walk g0 o0 g1 o1 g2 o2 W ).mono fun e W' ⟨he, bel⟩ => ?_
  subst he
  exact ⟨_, rfl, _, _, _, [], _, [], hW', trodAll_mk1 (shut_bool Try.underlying4 _), (trodAll_cons_mk (shut_bx o0) (trodAll_cons_mk (shut_bx o1) (trodAll_cons_mk (shut_hd o2) trodAll_mk0))), rfl, bel.frame _, fun h => by cases h⟩

/-- The given statement. -/
theorem boxParts_holds : Rows.BoxPartsSaid :=
  OpenClaim.holds_of_wide 3 Try.f3 rfl rfl rfl rfl rfl rfl rfl ⟨rfl, rfl, rfl, rfl, rfl⟩ rfl rfl rfl rfl rfl (by kernel_rfl) Try.func3 (by kernel_rfl)
    (of_decide_eq_true (by kernel_rfl)) (by unfold Func.isWrapper; first | (rw [if_pos (by decide +kernel)]; kernel_rfl) | (rw [if_neg (by decide +kernel)]; exact ⟨rfl, rfl⟩))
    (fun os started H enc _ => boxParts_lifted os started H enc)
#print axioms boxParts_holds
end Go.Proofs.Ythggiblkehcfaab
