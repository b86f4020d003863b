/-
  The bytes of a header, laid and read.
-/
import Derived.Test.YthfjdoenofkghaaHdU
import Derived.Deep.RegionHeld3
import Derived.Deep.DeepCutAuto
namespace Go.Proofs.Ythfjdoenofkghaa
open Go.RowKit
set_option linter.unusedVariables false
set_option linter.unusedSimpArgs false

/-- Below, and no draw is taken back. -/
structure Bd (B : Nat) (w w' : World) : Prop extends Below B w w' where
  dr : w.drawn ≤ w'.drawn
theorem Bd.refl (B : Nat) (w : World) : Bd B w w := ⟨Below.refl _ _, Nat.le_refl _⟩
theorem Bd.drew {B : Nat} {a w : World} (h : Bd B a w) : Bd B a w.drew := ⟨h.toBelow.drew, Nat.le_succ_of_le h.dr⟩
theorem Bd.setCell {B : Nat} {a w : World} (h : Bd B a w) {p : Addr} (hb : B ≤ p.block) (v : Value) : Bd B a (w.setCell p v) := ⟨h.toBelow.setCell hb v, h.dr⟩
theorem Bd.alloc {B : Nat} {a w : World} (h : Bd B a w) (hb : B ≤ w.heap.size) (o : Obj) : Bd B a (w.alloc o) := ⟨h.toBelow.alloc hb o, h.dr⟩
theorem Bd.trans {B : Nat} {a b c : World} (h : Bd B a b) (k : Bd B b c) : Bd B a c := ⟨h.toBelow.trans k.toBelow, Nat.le_trans h.dr k.dr⟩
theorem Bd.mono {B B' : Nat} {a b : World} (h : Bd B a b) (hb : B' ≤ B) : Bd B' a b := ⟨h.toBelow.mono hb, h.dr⟩
theorem Bd.drewN {B : Nat} {a w : World} (h : Bd B a w) (n : Nat) : Bd B a (w.drewN n) := ⟨bel_drewN h.toBelow n, Nat.le_trans h.dr (Nat.le_add_right _ _)⟩
/-- Two bytes at a place. -/
def hput2 (w : World) (g o x : Nat) : World := (w.setCell ⟨g, o, none⟩ (.int .u8 ((x : Int) / 256))).setCell ⟨g, o + 1, none⟩ (.int .u8 ((x : Int) % 256))
set_option maxHeartbeats 1000000 in
theorem putPortT (x g o n cap : Nat) (w : World) (hx : x < 65536) (hn : 2 ≤ n) (c0 c1 : Value) (h0 : w.cell? ⟨g, o, none⟩ = some c0) (h1 : w.cell? ⟨g, o + 1, none⟩ = some c1) (f0 : w.frozen? ⟨g, o, none⟩ = false) (f1 : w.frozen? ⟨g, o + 1, none⟩ = false) :
    Calls Try.prog 52 #[.slice (some ⟨g, o, none⟩) n cap, .int .u16 (x : Int)] w fun e w' => e = .returned (.tuple #[]) ∧ w' = hput2 w g o x := by
  have d0 : (0 : Int) < (n : Int) := by omega
  have d1 : (1 : Int) < (n : Int) := by omega
  go_enter Try.func52, Try.ntmps52
  go_wp2
  exact bodyPost_end (v := .tuple #[]) (by simp [results, Try.results52, go_sem]) rfl ⟨rfl, rfl⟩
/-- Four bytes at a place. -/
def hput4 (w : World) (g o v : Nat) : World := hput2 (hput2 w g o (v / 65536)) g (o + 2) (v % 65536)
set_option maxHeartbeats 1000000 in
theorem putWordT (v g o cap : Nat) (w : World) (hv : v < 4294967296) (hcap : 4 ≤ cap) (c0 c1 c2 c3 : Value) (h0 : w.cell? ⟨g, o, none⟩ = some c0) (h1 : w.cell? ⟨g, o + 1, none⟩ = some c1) (h2 : w.cell? ⟨g, o + 2, none⟩ = some c2) (h3 : w.cell? ⟨g, o + 3, none⟩ = some c3) (f : ∀ j, w.frozen? ⟨g, j, none⟩ = false) :
    Calls Try.prog 51 #[.slice (some ⟨g, o, none⟩) 4 cap, .int .u32 (v : Int)] w fun e w' => e = .returned (.tuple #[]) ∧ w' = hput4 w g o v := by
  have k1 := putPortT (v / 65536) g o 2 cap w (by omega) (by omega) c0 c1 h0 h1 (f _) (f _)
  have k2 := putPortT (v % 65536) g (o + 2) 2 (cap - 2) (hput2 w g o (v / 65536)) (by omega) (by omega) c2 c3 (by simp [hput2, go_sem, h2]) (by simp [hput2, go_sem, h3]) (by simp [hput2, f]) (by simp [hput2, f])
  have e1 : ((v / 65536 : Nat) : Int) = (v : Int) / 65536 := by omega
  have e2 : ((v % 65536 : Nat) : Int) = (v : Int) % 65536 := by omega
  rw [e1] at k1
  rw [e2] at k2
  have HE : Hid (hput2 (hput2 w g o (v / 65536)) g (o + 2) (v % 65536) = hput4 w g o v) := rfl
  rw [HE.out] at k2
  generalize hput4 w g o v = W4 at *
  generalize hput2 w g o (v / 65536) = W2 at *
  go_enter Try.func51, Try.ntmps51
  go_wp2_with (fail)
  refine k1.mono ?_
  rintro e w' ⟨rfl, hw⟩
  obtain rfl := hw.symm
  clear hw
  go_wp2_with (fail)
  refine k2.mono ?_
  rintro e w' ⟨rfl, hw⟩
  obtain rfl := hw.symm
  clear hw
  go_wp2
  exact bodyPost_end (v := .tuple #[]) (by simp [results, Try.results51, go_sem]) rfl ⟨rfl, rfl⟩
/-- The same in the list. -/
def put2L (l : List Nat) (o x : Nat) : List Nat := (l.set o (x / 256)).set (o + 1) (x % 256)
def put4L (l : List Nat) (o v : Nat) : List Nat := put2L (put2L l o (v / 65536)) (o + 2) (v % 65536)
def zer : List Nat := [0, 0, 0, 0, 0, 0, 0, 0, 0, 0, 0, 0, 0]
def layL (h : Hd) : List Nat := (put2L (put2L (put4L (put4L zer 0 h.s) 4 h.d) 8 h.p) 10 h.q).set 12 h.r
theorem layL_eq {h : Hd} (o : OkH h) : layL h = bytesH h := by
  unfold OkH at o
  have e : layL h = [h.s / 65536 / 256, h.s / 65536 % 256, h.s % 65536 / 256, h.s % 65536 % 256, h.d / 65536 / 256, h.d / 65536 % 256, h.d % 65536 / 256, h.d % 65536 % 256, h.p / 256, h.p % 256, h.q / 256, h.q % 256, h.r] := rfl
  rw [e]
  unfold bytesH
  simp only [List.cons.injEq, and_true]
  refine ⟨?_, ?_, ?_, ?_, ?_, ?_, ?_, ?_, ?_, ?_, ?_, ?_, ?_⟩ <;> first | trivial | omega
/-- The world while the bytes of h are laid: l so far. -/
structure Lw (h : Hd) (w wx : World) (l : List Nat) : Prop where
  bel : Bd w.heap.size w wx
  size : wx.heap.size = w.heap.size + 3
  h0 : wx.cell? ⟨w.heap.size, 0, none⟩ = some (.int .u32 (h.s : Int))
  h1 : wx.cell? ⟨w.heap.size, 1, none⟩ = some (.int .u32 (h.d : Int))
  h2 : wx.cell? ⟨w.heap.size, 2, none⟩ = some (.int .u16 (h.p : Int))
  h3 : wx.cell? ⟨w.heap.size, 3, none⟩ = some (.int .u16 (h.q : Int))
  h4 : wx.cell? ⟨w.heap.size, 4, none⟩ = some (.int .u8 (h.r : Int))
  res : ∀ j, j < 13 → ∃ v, wx.cell? ⟨w.heap.size + 1, j, none⟩ = some v
  fr : ∀ j, wx.frozen? ⟨w.heap.size + 1, j, none⟩ = false
  fl : ∀ j, wx.frozen? ⟨w.heap.size + 1 + 1, j, none⟩ = false
  len : l.length = 13
  cells : ∀ k (hk : k < l.length), wx.cell? ⟨w.heap.size + 1 + 1, k, none⟩ = some (.int .u8 ((l[k]'hk : Nat) : Int))
theorem Lw.drew {h : Hd} {w wx : World} {l : List Nat} (H : Lw h w wx l) : Lw h w wx.drew l :=
  ⟨H.bel.drew, H.size, H.h0, H.h1, H.h2, H.h3, H.h4, H.res, H.fr, H.fl, H.len, H.cells⟩
theorem Lw.put {h : Hd} {w wx : World} {l : List Nat} (H : Lw h w wx l) {j x : Nat} (hj : j < 13) {v : Int} (hv : v = (x : Int)) : Lw h w (wx.setCell ⟨w.heap.size + 1 + 1, j, none⟩ (.int .u8 v)) (l.set j x) := by
  subst hv
  have hne : ∀ (b i : Nat), b ≠ w.heap.size + 1 + 1 → (wx.setCell ⟨w.heap.size + 1 + 1, j, none⟩ (.int .u8 (x : Int))).cell? ⟨b, i, none⟩ = wx.cell? ⟨b, i, none⟩ := fun b i hb => World.cell?_setCell_other _ _ _ _ (by first | (simp; done) | (simp; omega))
  refine ⟨H.bel.setCell (by show w.heap.size ≤ w.heap.size + 1 + 1; omega) _, by simp [H.size], ?_, ?_, ?_, ?_, ?_, ?_, ?_, ?_, by rw [List.length_set]; exact H.len, ?_⟩
  · rw [hne _ _ (by omega)]; exact H.h0
  · rw [hne _ _ (by omega)]; exact H.h1
  · rw [hne _ _ (by omega)]; exact H.h2
  · rw [hne _ _ (by omega)]; exact H.h3
  · rw [hne _ _ (by omega)]; exact H.h4
  · intro i hi; rw [hne _ _ (by omega)]; exact H.res i hi
  · intro i; rw [World.frozen?_setCell]; exact H.fr i
  · intro i; rw [World.frozen?_setCell]; exact H.fl i
  · intro k hk
    rw [List.length_set] at hk
    have hc := H.cells k hk
    by_cases e : k = j
    · subst e
      rw [List.getElem_set_self]
      simp [go_sem, hc]
    · rw [World.cell?_setCell_other _ _ _ _ (by first | (simp; done) | (simp; omega)), hc, List.getElem_set_ne (by omega)]
theorem Lw.hput2 {h : Hd} {w wx : World} {l : List Nat} (H : Lw h w wx l) {o x : Nat} (ho : o + 1 < 13) : Lw h w (hput2 wx (w.heap.size + 1 + 1) o x) (put2L l o x) :=
  (H.put (by omega) (by omega)).put ho (by omega)
theorem Lw.hput4 {h : Hd} {w wx : World} {l : List Nat} (H : Lw h w wx l) {o v : Nat} (ho : o + 3 < 13) : Lw h w (hput4 wx (w.heap.size + 1 + 1) o v) (put4L l o v) :=
  (H.hput2 (by omega)).hput2 (by omega)
theorem Lw.at {h : Hd} {w wx : World} {l : List Nat} (H : Lw h w wx l) (k : Nat) (hk : k < 13) : ∃ v, wx.cell? ⟨w.heap.size + 1 + 1, k, none⟩ = some v := ⟨_, H.cells k (by rw [H.len]; exact hk)⟩
theorem Lw.word {h : Hd} {w wx : World} {l : List Nat} (H : Lw h w wx l) (o v cap : Nat) (ho : o + 3 < 13) (hv : v < 4294967296) (hc : 4 ≤ cap) :
    Calls Try.prog 51 #[.slice (some ⟨w.heap.size + 1 + 1, o, none⟩) 4 cap, .int .u32 (v : Int)] wx fun e w' => e = .returned (.tuple #[]) ∧ Hid (Lw h w w' (put4L l o v)) := by
  obtain ⟨c0, e0⟩ := H.at o (by omega)
  obtain ⟨c1, e1⟩ := H.at (o + 1) (by omega)
  obtain ⟨c2, e2⟩ := H.at (o + 2) (by omega)
  obtain ⟨c3, e3⟩ := H.at (o + 3) (by omega)
  refine (putWordT v _ o cap wx hv hc c0 c1 c2 c3 e0 e1 e2 e3 H.fl).mono ?_
  rintro e w' ⟨rfl, rfl⟩
  exact ⟨rfl, H.hput4 ho⟩
theorem Lw.port {h : Hd} {w wx : World} {l : List Nat} (H : Lw h w wx l) (o x cap : Nat) (ho : o + 1 < 13) (hx : x < 65536) :
    Calls Try.prog 52 #[.slice (some ⟨w.heap.size + 1 + 1, o, none⟩) 2 cap, .int .u16 (x : Int)] wx fun e w' => e = .returned (.tuple #[]) ∧ Hid (Lw h w w' (put2L l o x)) := by
  obtain ⟨c0, e0⟩ := H.at o (by omega)
  obtain ⟨c1, e1⟩ := H.at (o + 1) (by omega)
  refine (putPortT x _ o 2 cap wx hx (by omega) c0 c1 e0 e1 (H.fl _) (H.fl _)).mono ?_
  rintro e w' ⟨rfl, rfl⟩
  exact ⟨rfl, H.hput2 ho⟩
set_option maxHeartbeats 2000000 in
theorem layT (h : Hd) (w : World) (o : OkH h) :
    Calls Try.prog 39 #[.agg #[.int .u32 (h.s : Int), .int .u32 (h.d : Int), .int .u16 (h.p : Int), .int .u16 (h.q : Int), .int .u8 (h.r : Int)]] w fun e w' => e = .returned (.agg #[.int .u8 (((bytesH h).getD 0 0 : Nat) : Int), .int .u8 (((bytesH h).getD 1 0 : Nat) : Int), .int .u8 (((bytesH h).getD 2 0 : Nat) : Int), .int .u8 (((bytesH h).getD 3 0 : Nat) : Int), .int .u8 (((bytesH h).getD 4 0 : Nat) : Int), .int .u8 (((bytesH h).getD 5 0 : Nat) : Int), .int .u8 (((bytesH h).getD 6 0 : Nat) : Int), .int .u8 (((bytesH h).getD 7 0 : Nat) : Int), .int .u8 (((bytesH h).getD 8 0 : Nat) : Int), .int .u8 (((bytesH h).getD 9 0 : Nat) : Int), .int .u8 (((bytesH h).getD 10 0 : Nat) : Int), .int .u8 (((bytesH h).getD 11 0 : Nat) : Int), .int .u8 (((bytesH h).getD 12 0 : Nat) : Int)]) ∧ Bd w.heap.size w w' := by
  have HE : Hid (layL h = bytesH h) := layL_eq o
  obtain ⟨o1, o2, o3, o4, o5⟩ := o
  go_enter Try.func39, Try.ntmps39
  go_upto_region 2 with (fail)
  have H0 : Hid (Lw h w (((w.alloc (.cells #[.int .u32 (h.s : Int), .int .u32 (h.d : Int), .int .u16 (h.p : Int), .int .u16 (h.q : Int), .int .u8 (h.r : Int)] 36)).alloc (.cells #[.int .u8 0, .int .u8 0, .int .u8 0, .int .u8 0, .int .u8 0, .int .u8 0, .int .u8 0, .int .u8 0, .int .u8 0, .int .u8 0, .int .u8 0, .int .u8 0, .int .u8 0] 88)).alloc (.cells #[.int .u8 0, .int .u8 0, .int .u8 0, .int .u8 0, .int .u8 0, .int .u8 0, .int .u8 0, .int .u8 0, .int .u8 0, .int .u8 0, .int .u8 0, .int .u8 0, .int .u8 0] 88)) zer) := by
    show Lw _ _ _ _
    refine ⟨by (repeat (first | assumption | exact Bd.refl _ _ | refine Bd.drew ?_ | refine Bd.drewN ?_ _ | refine Bd.setCell ?_ (by first | omega | (simp; done) | (simp; omega)) _ | refine Bd.alloc ?_ (by first | omega | (simp; done) | (simp; omega)) _)), by simp, by simp [go_sem], by simp [go_sem], by simp [go_sem], by simp [go_sem], by simp [go_sem], ?_, fun j => by simp [go_sem], fun j => by simp [go_sem], rfl, ?_⟩
    · intro j hj
      match j, hj with
      | 0, _ => exact ⟨.int .u8 0, by simp [go_sem]⟩
      | 1, _ => exact ⟨.int .u8 0, by simp [go_sem]⟩
      | 2, _ => exact ⟨.int .u8 0, by simp [go_sem]⟩
      | 3, _ => exact ⟨.int .u8 0, by simp [go_sem]⟩
      | 4, _ => exact ⟨.int .u8 0, by simp [go_sem]⟩
      | 5, _ => exact ⟨.int .u8 0, by simp [go_sem]⟩
      | 6, _ => exact ⟨.int .u8 0, by simp [go_sem]⟩
      | 7, _ => exact ⟨.int .u8 0, by simp [go_sem]⟩
      | 8, _ => exact ⟨.int .u8 0, by simp [go_sem]⟩
      | 9, _ => exact ⟨.int .u8 0, by simp [go_sem]⟩
      | 10, _ => exact ⟨.int .u8 0, by simp [go_sem]⟩
      | 11, _ => exact ⟨.int .u8 0, by simp [go_sem]⟩
      | 12, _ => exact ⟨.int .u8 0, by simp [go_sem]⟩
    · intro j hj
      have hj : j < 13 := hj
      match j, hj with
      | 0, _ => simp [go_sem, zer]
      | 1, _ => simp [go_sem, zer]
      | 2, _ => simp [go_sem, zer]
      | 3, _ => simp [go_sem, zer]
      | 4, _ => simp [go_sem, zer]
      | 5, _ => simp [go_sem, zer]
      | 6, _ => simp [go_sem, zer]
      | 7, _ => simp [go_sem, zer]
      | 8, _ => simp [go_sem, zer]
      | 9, _ => simp [go_sem, zer]
      | 10, _ => simp [go_sem, zer]
      | 11, _ => simp [go_sem, zer]
      | 12, _ => simp [go_sem, zer]
  generalize (((w.alloc (.cells #[.int .u32 (h.s : Int), .int .u32 (h.d : Int), .int .u16 (h.p : Int), .int .u16 (h.q : Int), .int .u8 (h.r : Int)] 36)).alloc _).alloc _) = W0 at *
  have c0 := H0.out.h0
  go_cut [3] (fun s wx => s = .pointer (some ⟨w.heap.size + 1 + 1, 0, none⟩) ∧ Hid (Lw h w wx (put4L zer 0 h.s)))
  case first =>
    go_region_with (go_at_call 51; refine (H0.out.drew.word 0 h.s 13 (by decide) o1 (by decide)).mono ?_; rintro e w1 ⟨rfl, HL⟩)
    all_goals
      go_wp2_with (fail)
      go_meet
      case rel => exact ⟨rfl, HL⟩
  case rest =>
    obtain ⟨rfl, H1⟩ := hcut
    clear H0 c0
    have c0 := H1.out.h1
    go_upto_region 3 with (fail)
    go_cut [3] (fun s wx => s = .pointer (some ⟨w.heap.size + 1 + 1, 0, none⟩) ∧ Hid (Lw h w wx (put4L (put4L zer 0 h.s) 4 h.d)))
    case first =>
      go_region_with (go_at_call 51; refine (H1.out.drew.word 4 h.d 9 (by decide) o2 (by decide)).mono ?_; rintro e w1 ⟨rfl, HL⟩)
      all_goals
        go_wp2_with (fail)
        go_meet
        case rel => exact ⟨rfl, HL⟩
    case rest =>
      obtain ⟨rfl, H2⟩ := hcut
      clear H1 c0
      have c0 := H2.out.h2
      go_upto_region 4 with (fail)
      go_cut [3] (fun s wx => s = .pointer (some ⟨w.heap.size + 1 + 1, 0, none⟩) ∧ Hid (Lw h w wx (put2L (put4L (put4L zer 0 h.s) 4 h.d) 8 h.p)))
      case first =>
        go_region_with (go_at_call 52; refine (H2.out.drew.port 8 h.p 5 (by decide) o3).mono ?_; rintro e w1 ⟨rfl, HL⟩)
        all_goals
          go_wp2_with (fail)
          go_meet
          case rel => exact ⟨rfl, HL⟩
      case rest =>
        obtain ⟨rfl, H3⟩ := hcut
        clear H2 c0
        have c0 := H3.out.h3
        go_upto_region 5 with (fail)
        go_cut [3] (fun s wx => s = .pointer (some ⟨w.heap.size + 1 + 1, 0, none⟩) ∧ Hid (Lw h w wx (put2L (put2L (put4L (put4L zer 0 h.s) 4 h.d) 8 h.p) 10 h.q)))
        case first =>
          go_region_with (go_at_call 52; refine (H3.out.drew.port 10 h.q 3 (by decide) o4).mono ?_; rintro e w1 ⟨rfl, HL⟩)
          all_goals
            go_wp2_with (fail)
            go_meet
            case rel => exact ⟨rfl, HL⟩
        case rest =>
          obtain ⟨rfl, H4⟩ := hcut
          clear H3 c0
          have c0 := H4.out.h4
          have g0 := H4.out.fl
          have q0 := H4.out.at 12 (by decide)
          obtain ⟨q1, q0⟩ := q0
          have H5 : Hid (Lw h w (wc.setCell ⟨w.heap.size + 1 + 1, 12, none⟩ (.int .u8 (h.r : Int))) (bytesH h)) := by
            have := H4.out.put (j := 12) (x := h.r) (by decide) rfl
            show Lw _ _ _ _
            rw [← HE.out]
            exact this
          go_upto_region 7 with (fail)
          generalize wc.setCell ⟨w.heap.size + 1 + 1, 12, none⟩ (.int .u8 (h.r : Int)) = W at *
          clear H4 c0 g0 q0 HE
          have g0 := H5.out.fr
          have HB : Hid (Bd w.heap.size w W) := H5.out.bel
          have x0 : W.cell? ⟨w.heap.size + 1 + 1, 0, none⟩ = some (.int .u8 (((bytesH h).getD 0 0 : Nat) : Int)) := H5.out.cells 0 (by rw [bytesH_length]; decide)
          obtain ⟨y0, r0⟩ := H5.out.res 0 (by decide)
          have x1 : W.cell? ⟨w.heap.size + 1 + 1, 1, none⟩ = some (.int .u8 (((bytesH h).getD 1 0 : Nat) : Int)) := H5.out.cells 1 (by rw [bytesH_length]; decide)
          obtain ⟨y1, r1⟩ := H5.out.res 1 (by decide)
          have x2 : W.cell? ⟨w.heap.size + 1 + 1, 2, none⟩ = some (.int .u8 (((bytesH h).getD 2 0 : Nat) : Int)) := H5.out.cells 2 (by rw [bytesH_length]; decide)
          obtain ⟨y2, r2⟩ := H5.out.res 2 (by decide)
          have x3 : W.cell? ⟨w.heap.size + 1 + 1, 3, none⟩ = some (.int .u8 (((bytesH h).getD 3 0 : Nat) : Int)) := H5.out.cells 3 (by rw [bytesH_length]; decide)
          obtain ⟨y3, r3⟩ := H5.out.res 3 (by decide)
          have x4 : W.cell? ⟨w.heap.size + 1 + 1, 4, none⟩ = some (.int .u8 (((bytesH h).getD 4 0 : Nat) : Int)) := H5.out.cells 4 (by rw [bytesH_length]; decide)
          obtain ⟨y4, r4⟩ := H5.out.res 4 (by decide)
          have x5 : W.cell? ⟨w.heap.size + 1 + 1, 5, none⟩ = some (.int .u8 (((bytesH h).getD 5 0 : Nat) : Int)) := H5.out.cells 5 (by rw [bytesH_length]; decide)
          obtain ⟨y5, r5⟩ := H5.out.res 5 (by decide)
          have x6 : W.cell? ⟨w.heap.size + 1 + 1, 6, none⟩ = some (.int .u8 (((bytesH h).getD 6 0 : Nat) : Int)) := H5.out.cells 6 (by rw [bytesH_length]; decide)
          obtain ⟨y6, r6⟩ := H5.out.res 6 (by decide)
          have x7 : W.cell? ⟨w.heap.size + 1 + 1, 7, none⟩ = some (.int .u8 (((bytesH h).getD 7 0 : Nat) : Int)) := H5.out.cells 7 (by rw [bytesH_length]; decide)
          obtain ⟨y7, r7⟩ := H5.out.res 7 (by decide)
          have x8 : W.cell? ⟨w.heap.size + 1 + 1, 8, none⟩ = some (.int .u8 (((bytesH h).getD 8 0 : Nat) : Int)) := H5.out.cells 8 (by rw [bytesH_length]; decide)
          obtain ⟨y8, r8⟩ := H5.out.res 8 (by decide)
          have x9 : W.cell? ⟨w.heap.size + 1 + 1, 9, none⟩ = some (.int .u8 (((bytesH h).getD 9 0 : Nat) : Int)) := H5.out.cells 9 (by rw [bytesH_length]; decide)
          obtain ⟨y9, r9⟩ := H5.out.res 9 (by decide)
          have x10 : W.cell? ⟨w.heap.size + 1 + 1, 10, none⟩ = some (.int .u8 (((bytesH h).getD 10 0 : Nat) : Int)) := H5.out.cells 10 (by rw [bytesH_length]; decide)
          obtain ⟨y10, r10⟩ := H5.out.res 10 (by decide)
          have x11 : W.cell? ⟨w.heap.size + 1 + 1, 11, none⟩ = some (.int .u8 (((bytesH h).getD 11 0 : Nat) : Int)) := H5.out.cells 11 (by rw [bytesH_length]; decide)
          obtain ⟨y11, r11⟩ := H5.out.res 11 (by decide)
          have x12 : W.cell? ⟨w.heap.size + 1 + 1, 12, none⟩ = some (.int .u8 (((bytesH h).getD 12 0 : Nat) : Int)) := H5.out.cells 12 (by rw [bytesH_length]; decide)
          obtain ⟨y12, r12⟩ := H5.out.res 12 (by decide)
          clear H5
          go_wp2
          exact bodyPost_ret (v := .agg #[.int .u8 (((bytesH h).getD 0 0 : Nat) : Int), .int .u8 (((bytesH h).getD 1 0 : Nat) : Int), .int .u8 (((bytesH h).getD 2 0 : Nat) : Int), .int .u8 (((bytesH h).getD 3 0 : Nat) : Int), .int .u8 (((bytesH h).getD 4 0 : Nat) : Int), .int .u8 (((bytesH h).getD 5 0 : Nat) : Int), .int .u8 (((bytesH h).getD 6 0 : Nat) : Int), .int .u8 (((bytesH h).getD 7 0 : Nat) : Int), .int .u8 (((bytesH h).getD 8 0 : Nat) : Int), .int .u8 (((bytesH h).getD 9 0 : Nat) : Int), .int .u8 (((bytesH h).getD 10 0 : Nat) : Int), .int .u8 (((bytesH h).getD 11 0 : Nat) : Int), .int .u8 (((bytesH h).getD 12 0 : Nat) : Int)]) (by simp [results, Try.results39, go_sem, g0, r0, r1, r2, r3, r4, r5, r6, r7, r8, r9, r10, r11, r12]) rfl ⟨rfl, by (iterate 13 (refine Bd.setCell ?_ (Nat.le_succ _) _)); exact HB.out⟩
end Go.Proofs.Ythfjdoenofkghaa
