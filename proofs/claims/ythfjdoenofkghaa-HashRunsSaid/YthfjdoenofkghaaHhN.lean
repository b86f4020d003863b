/-
  A table made; a table that was made since; the document's examples.
-/
import Derived.Test.YthfjdoenofkghaaHhP
namespace Go.Proofs.Ythfjdoenofkghaa
open Go.RowKit
set_option linter.unusedVariables false
set_option linter.unusedSimpArgs false

def m0 : Hd → Option Int := fun _ => none
/-- A table made since w. -/
def Ow (w w' : World) (t M c P : Nat) (m : Hd → Option Int) : Prop := ∃ v, Tb w' t v M c P m ∧ w.heap.size ≤ t ∧ (∀ k, v.ownBlock = some k → w.heap.size ≤ k) ∧ Below w.heap.size w w'
theorem Ow.on {w w1 w2 : World} {t M c P : Nat} {m : Hd → Option Int} (h : Ow w w1 t M c P m) (hb : Below w1.heap.size w1 w2) : Ow w w2 t M c P m := by
  obtain ⟨v, h1, h2, h3, h4⟩ := h
  exact ⟨v, h1.on hb, h2, h3, h4.trans (hb.mono h4.size)⟩
theorem Ow.moved {w w1 w2 : World} {t M c P M' c' P' : Nat} {v v' : Value} {m m' : Hd → Option Int} (h2 : w.heap.size ≤ t) (h3 : ∀ k, v.ownBlock = some k → w.heap.size ≤ k) (h4 : Below w.heap.size w w1) (hT : Tb w2 t v' M' c' P' m') (hm : Moved w1 w2 t v v') : Ow w w2 t M' c' P' m' :=
  ⟨v', hT, h2, hm.ge h4.size h3, h4.trans (hm.below h4.size h2 h3)⟩
theorem ow_put (w w1 : World) (t M c P : Nat) (m : Hd → Option Int) (k : Hd) (y : Int) (h : Ow w w1 t M c P m) (o : OkH k) :
    Calls Try.prog 10 #[.pointer (some ⟨t, 0, none⟩), .agg #[.int .u32 (k.s : Int), .int .u32 (k.d : Int), .int .u16 (k.p : Int), .int .u16 (k.q : Int), .int .u8 (k.r : Int)], .int .i64 y] w1 fun e w' => e = .returned (.int .i64 (putE m M c k)) ∧ Ow w w' t M (putN m M c k) (max P (putN m M c k)) (putM m M c k y) := by
  obtain ⟨v, h1, h2, h3, h4⟩ := h
  refine (putC t v M c P m k y w1 h1 o).mono ?_
  rintro e w2 ⟨he, v', hT, hm⟩
  exact ⟨he, Ow.moved (M := M) (c := c) (P := P) (m := m) h2 h3 h4 hT hm⟩
theorem ow_del (w w1 : World) (t M c P : Nat) (m : Hd → Option Int) (k : Hd) (h : Ow w w1 t M c P m) (o : OkH k) :
    Calls Try.prog 14 #[.pointer (some ⟨t, 0, none⟩), .agg #[.int .u32 (k.s : Int), .int .u32 (k.d : Int), .int .u16 (k.p : Int), .int .u16 (k.q : Int), .int .u8 (k.r : Int)]] w1 fun e w' => e = .returned (.bool (m k).isSome) ∧ Ow w w' t M (delN m c k) P (upd m k none) := by
  obtain ⟨v, h1, h2, h3, h4⟩ := h
  refine (delC t v M c P m k w1 h1 o).mono ?_
  rintro e w2 ⟨he, hT, _, hm⟩
  exact ⟨he, Ow.moved (M := M) (c := c) (P := P) (m := m) h2 h3 h4 hT hm⟩
theorem ow_get (w w1 : World) (t M c P : Nat) (m : Hd → Option Int) (k : Hd) (h : Ow w w1 t M c P m) (o : OkH k) :
    Calls Try.prog 12 #[.pointer (some ⟨t, 0, none⟩), .agg #[.int .u32 (k.s : Int), .int .u32 (k.d : Int), .int .u16 (k.p : Int), .int .u16 (k.q : Int), .int .u8 (k.r : Int)]] w1 fun e w' => e = .returned (.tuple #[.int .i64 ((m k).getD 0), .bool (m k).isSome]) ∧ Ow w w' t M c P m := by
  obtain ⟨v, h1, h2, h3, h4⟩ := id h
  exact (getC t v M c P m k w1 h1 o).mono fun e w2 ⟨he, hb⟩ => ⟨he, h.on hb⟩
theorem ow_len (w w1 : World) (t M c P : Nat) (m : Hd → Option Int) (h : Ow w w1 t M c P m) :
    Calls Try.prog 19 #[.pointer (some ⟨t, 0, none⟩)] w1 fun e w' => e = .returned (.int .i64 (c : Int)) ∧ Ow w w' t M c P m := by
  obtain ⟨v, h1, h2, h3, h4⟩ := id h
  exact (lenC t v M c P m w1 h1).mono fun e w2 ⟨he, hb⟩ => ⟨he, h.on hb⟩
set_option maxHeartbeats 1000000 in
theorem newN (n : Int) (w : World) (h : n < 1 ∨ 65536 < n) :
    Calls Try.prog 7 #[.int .i64 n] w fun e w' => e = .returned (.tuple #[.pointer none, .int .i64 1]) ∧ w' = w := by
  go_enter Try.func7, Try.ntmps7
  rcases h with h | h
  · go_wp2
    go_ret2
    exact ⟨rfl, rfl⟩
  · have h1 : ¬ n < 1 := by omega
    go_wp2
    go_ret2
    exact ⟨rfl, rfl⟩
set_option maxHeartbeats 2000000 in
theorem newC (n : Nat) (w : World) (h1 : 1 ≤ n) (h2 : n ≤ 65536) :
    Calls Try.prog 7 #[.int .i64 (n : Int)] w fun e w' => ∃ t, e = .returned (.tuple #[.pointer (some ⟨t, 0, none⟩), .int .i64 0]) ∧ Ow w w' t n 0 0 m0 := by
  obtain ⟨i0, hi, hz0, hz1, hz2⟩ := info_parts infoL
  have hmk := fun W => run_make (P := Try.prog) W 60 72 i0 _ Try.underlying60 hi hz0 .i64 .i64 (8 : Int) (8 : Int) (by omega) (Int.le_refl _) (by rw [hz2]; omega) (by omega)
  simp only [hz1, show ((8 : Int)).toNat = 8 from rfl] at hmk
  clear hi hz0 hz1 hz2
  have hr := made_rowL w 8 (by omega)
  have HR : Hid (RowL ((w.alloc (.cells (madeCells #[.int .i64 0, .int .u32 0, .int .u32 0, .int .u16 0, .int .u16 0, .int .u8 0, .int .i64 0] (8 * 7)) 72)).alloc (.cells #[.int .i64 (n : Int), .int .i64 0, .int .i64 0, .slice (some ⟨w.heap.size, 0, none⟩) 8 8] 62)) 0 (.slice (some ⟨w.heap.size, 0, none⟩) 8 8) (newL 8 slZ)) := (hr.base (Nat.zero_le _)).alloc _
  have HI : Hid (Inv way (newL 8 slZ) 0 0) := inv_new (m := 3) rfl (by omega) rfl
  have HH : Hid (Holds (newL 8 slZ) m0) := fun k v => ⟨fun h => absurd h (has_new rfl k v), fun h => by cases h⟩
  clear hr
  have h1' : ¬ (n : Int) < 1 := by omega
  have h2' : ¬ (65536 : Int) < (n : Int) := by omega
  go_enter Try.func7, Try.ntmps7
  go_wp2
  go_ret2
  refine ⟨w.heap.size + 1, rfl, .slice (some ⟨w.heap.size, 0, none⟩) 8 8, ⟨0, newL 8 slZ, ⟨?_, HR.out, ?_⟩, HI.out, HH.out, fun k v e => (by cases e), ?_, Nat.le_refl _, Nat.zero_le _, h2⟩, Nat.le_succ _, fun k e => ?_, ?_⟩
  · have := blk_new (w.alloc (.cells (madeCells #[.int .i64 0, .int .u32 0, .int .u32 0, .int .u16 0, .int .u16 0, .int .u8 0, .int .i64 0] (8 * 7)) 72)) (.cells #[.int .i64 (n : Int), .int .i64 0, .int .i64 0, .slice (some ⟨w.heap.size, 0, none⟩) 8 8] 62)
    rw [show (w.alloc (.cells (madeCells #[.int .i64 0, .int .u32 0, .int .u32 0, .int .u16 0, .int .u16 0, .int .u8 0, .int .i64 0] (8 * 7)) 72)).heap.size = w.heap.size + 1 by simp] at this
    exact this
  · simp [Value.ownBlock]
  · unfold newL; rw [List.length_replicate]; omega
  · simp [Value.ownBlock] at e; omega
  · (repeat (first | assumption | exact Below.refl _ _ | refine Below.drew ?_ | refine bel_drewN ?_ _ | refine Below.setCell ?_ (by first | omega | (simp; done) | (simp; omega)) _ | refine Below.alloc ?_ (by first | omega | (simp; done) | (simp; omega)) _ | refine bel_of ?_ (by assumption)))
def hP (n : Nat) : Hd := ⟨0, 0, 0, 0, n⟩
theorem ok_hP {n : Nat} (h : n < 256) : OkH (hP n) := by unfold OkH hP; simp; omega
theorem protoC (n : Nat) (w : World) : Calls Try.prog 22 #[.int .u8 (n : Int)] w fun e w' => e = .returned (.agg #[.int .u32 ((hP n).s : Int), .int .u32 ((hP n).d : Int), .int .u16 ((hP n).p : Int), .int .u16 ((hP n).q : Int), .int .u8 ((hP n).r : Int)]) ∧ Below w.heap.size w w' := by
  go_enter Try.func22, Try.ntmps22
  go_wp2
  exact bodyPost_ret (results_blk Try.results22 rfl (blk_new w (.cells #[.int .u32 (((hP n)).s : Int), .int .u32 (((hP n)).d : Int), .int .u16 (((hP n)).p : Int), .int .u16 (((hP n)).q : Int), .int .u8 (((hP n)).r : Int)] 36)) Try.underlying36 rfl (by kernel_rfl)) rfl ⟨rfl, (Below.refl _ _).alloc (Nat.le_refl _) _⟩
theorem put1 {w : World} {t : Nat} (W : World) (h : Ow w W t 2 0 0 m0) : Calls Try.prog 10 #[.pointer (some ⟨t, 0, none⟩), .agg #[.int .u32 ((hP 0).s : Int), .int .u32 ((hP 0).d : Int), .int .u16 ((hP 0).p : Int), .int .u16 ((hP 0).q : Int), .int .u8 ((hP 0).r : Int)], .int .i64 5] W fun e w' => e = .returned (.int .i64 0) ∧ Ow w w' t 2 1 1 (upd m0 (hP 0) (some 5)) := ow_put w W t 2 0 0 m0 (hP 0) 5 h (ok_hP (by decide))
theorem put2 {w : World} {t : Nat} (W : World) (h : Ow w W t 2 1 1 (upd m0 (hP 0) (some 5))) : Calls Try.prog 10 #[.pointer (some ⟨t, 0, none⟩), .agg #[.int .u32 ((hP 6).s : Int), .int .u32 ((hP 6).d : Int), .int .u16 ((hP 6).p : Int), .int .u16 ((hP 6).q : Int), .int .u8 ((hP 6).r : Int)], .int .i64 7] W fun e w' => e = .returned (.int .i64 0) ∧ Ow w w' t 2 2 2 (upd (upd m0 (hP 0) (some 5)) (hP 6) (some 7)) := ow_put w W t 2 1 1 (upd m0 (hP 0) (some 5)) (hP 6) 7 h (ok_hP (by decide))
theorem put3 {w : World} {t : Nat} (W : World) (h : Ow w W t 2 2 2 (upd (upd m0 (hP 0) (some 5)) (hP 6) (some 7))) : Calls Try.prog 10 #[.pointer (some ⟨t, 0, none⟩), .agg #[.int .u32 ((hP 7).s : Int), .int .u32 ((hP 7).d : Int), .int .u16 ((hP 7).p : Int), .int .u16 ((hP 7).q : Int), .int .u8 ((hP 7).r : Int)], .int .i64 8] W fun e w' => e = .returned (.int .i64 150) ∧ Ow w w' t 2 2 2 (upd (upd m0 (hP 0) (some 5)) (hP 6) (some 7)) := ow_put w W t 2 2 2 (upd (upd m0 (hP 0) (some 5)) (hP 6) (some 7)) (hP 7) 8 h (ok_hP (by decide))
theorem put4 {w : World} {t : Nat} (W : World) (h : Ow w W t 2 2 2 (upd (upd m0 (hP 0) (some 5)) (hP 6) (some 7))) : Calls Try.prog 10 #[.pointer (some ⟨t, 0, none⟩), .agg #[.int .u32 ((hP 6).s : Int), .int .u32 ((hP 6).d : Int), .int .u16 ((hP 6).p : Int), .int .u16 ((hP 6).q : Int), .int .u8 ((hP 6).r : Int)], .int .i64 9] W fun e w' => e = .returned (.int .i64 0) ∧ Ow w w' t 2 2 2 (upd (upd (upd m0 (hP 0) (some 5)) (hP 6) (some 7)) (hP 6) (some 9)) := ow_put w W t 2 2 2 (upd (upd m0 (hP 0) (some 5)) (hP 6) (some 7)) (hP 6) 9 h (ok_hP (by decide))
theorem get1 {w : World} {t : Nat} (W : World) (h : Ow w W t 2 2 2 (upd (upd (upd m0 (hP 0) (some 5)) (hP 6) (some 7)) (hP 6) (some 9))) : Calls Try.prog 12 #[.pointer (some ⟨t, 0, none⟩), .agg #[.int .u32 ((hP 6).s : Int), .int .u32 ((hP 6).d : Int), .int .u16 ((hP 6).p : Int), .int .u16 ((hP 6).q : Int), .int .u8 ((hP 6).r : Int)]] W fun e w' => e = .returned (.tuple #[.int .i64 9, .bool true]) ∧ Ow w w' t 2 2 2 (upd (upd (upd m0 (hP 0) (some 5)) (hP 6) (some 7)) (hP 6) (some 9)) := ow_get w W t 2 2 2 (upd (upd (upd m0 (hP 0) (some 5)) (hP 6) (some 7)) (hP 6) (some 9)) (hP 6) h (ok_hP (by decide))
theorem get2 {w : World} {t : Nat} (W : World) (h : Ow w W t 2 2 2 (upd (upd (upd m0 (hP 0) (some 5)) (hP 6) (some 7)) (hP 6) (some 9))) : Calls Try.prog 12 #[.pointer (some ⟨t, 0, none⟩), .agg #[.int .u32 ((hP 7).s : Int), .int .u32 ((hP 7).d : Int), .int .u16 ((hP 7).p : Int), .int .u16 ((hP 7).q : Int), .int .u8 ((hP 7).r : Int)]] W fun e w' => e = .returned (.tuple #[.int .i64 0, .bool false]) ∧ Ow w w' t 2 2 2 (upd (upd (upd m0 (hP 0) (some 5)) (hP 6) (some 7)) (hP 6) (some 9)) := ow_get w W t 2 2 2 (upd (upd (upd m0 (hP 0) (some 5)) (hP 6) (some 7)) (hP 6) (some 9)) (hP 7) h (ok_hP (by decide))
theorem len1 {w : World} {t : Nat} (W : World) (h : Ow w W t 2 2 2 (upd (upd (upd m0 (hP 0) (some 5)) (hP 6) (some 7)) (hP 6) (some 9))) : Calls Try.prog 19 #[.pointer (some ⟨t, 0, none⟩)] W fun e w' => e = .returned (.int .i64 2) ∧ Ow w w' t 2 2 2 (upd (upd (upd m0 (hP 0) (some 5)) (hP 6) (some 7)) (hP 6) (some 9)) := ow_len w W t 2 2 2 (upd (upd (upd m0 (hP 0) (some 5)) (hP 6) (some 7)) (hP 6) (some 9)) h
theorem del1 {w : World} {t : Nat} (W : World) (h : Ow w W t 2 2 2 (upd (upd (upd m0 (hP 0) (some 5)) (hP 6) (some 7)) (hP 6) (some 9))) : Calls Try.prog 14 #[.pointer (some ⟨t, 0, none⟩), .agg #[.int .u32 ((hP 6).s : Int), .int .u32 ((hP 6).d : Int), .int .u16 ((hP 6).p : Int), .int .u16 ((hP 6).q : Int), .int .u8 ((hP 6).r : Int)]] W fun e w' => e = .returned (.bool true) ∧ Ow w w' t 2 1 2 (upd (upd (upd (upd m0 (hP 0) (some 5)) (hP 6) (some 7)) (hP 6) (some 9)) (hP 6) none) := ow_del w W t 2 2 2 (upd (upd (upd m0 (hP 0) (some 5)) (hP 6) (some 7)) (hP 6) (some 9)) (hP 6) h (ok_hP (by decide))
theorem del2 {w : World} {t : Nat} (W : World) (h : Ow w W t 2 1 2 (upd (upd (upd (upd m0 (hP 0) (some 5)) (hP 6) (some 7)) (hP 6) (some 9)) (hP 6) none)) : Calls Try.prog 14 #[.pointer (some ⟨t, 0, none⟩), .agg #[.int .u32 ((hP 6).s : Int), .int .u32 ((hP 6).d : Int), .int .u16 ((hP 6).p : Int), .int .u16 ((hP 6).q : Int), .int .u8 ((hP 6).r : Int)]] W fun e w' => e = .returned (.bool false) ∧ Ow w w' t 2 1 2 (upd (upd (upd (upd (upd m0 (hP 0) (some 5)) (hP 6) (some 7)) (hP 6) (some 9)) (hP 6) none) (hP 6) none) := ow_del w W t 2 1 2 (upd (upd (upd (upd m0 (hP 0) (some 5)) (hP 6) (some 7)) (hP 6) (some 9)) (hP 6) none) (hP 6) h (ok_hP (by decide))
theorem len2 {w : World} {t : Nat} (W : World) (h : Ow w W t 2 1 2 (upd (upd (upd (upd (upd m0 (hP 0) (some 5)) (hP 6) (some 7)) (hP 6) (some 9)) (hP 6) none) (hP 6) none)) : Calls Try.prog 19 #[.pointer (some ⟨t, 0, none⟩)] W fun e w' => e = .returned (.int .i64 1) ∧ Ow w w' t 2 1 2 (upd (upd (upd (upd (upd m0 (hP 0) (some 5)) (hP 6) (some 7)) (hP 6) (some 9)) (hP 6) none) (hP 6) none) := ow_len w W t 2 1 2 (upd (upd (upd (upd (upd m0 (hP 0) (some 5)) (hP 6) (some 7)) (hP 6) (some 9)) (hP 6) none) (hP 6) none) h
set_option maxHeartbeats 4000000 in
set_option maxRecDepth 20000 in
theorem awakeC (w : World) : Calls Try.prog 9 #[] w fun e w' => e = .returned (.bool true) ∧ Below w.heap.size w w' := by
  have hNew : ∀ W, Calls Try.prog 7 #[.int .i64 2] W fun e w' => ∃ t, e = .returned (.tuple #[.pointer (some ⟨t, 0, none⟩), .int .i64 0]) ∧ Ow W w' t 2 0 0 m0 := fun W => newC 2 W (by decide) (by decide)
  have hPr0 : ∀ W, Calls Try.prog 22 #[.int .u8 0] W fun e w' => e = .returned (.agg #[.int .u32 ((hP 0).s : Int), .int .u32 ((hP 0).d : Int), .int .u16 ((hP 0).p : Int), .int .u16 ((hP 0).q : Int), .int .u8 ((hP 0).r : Int)]) ∧ Below W.heap.size W w' := fun W => protoC 0 W
  have hPr6 : ∀ W, Calls Try.prog 22 #[.int .u8 6] W fun e w' => e = .returned (.agg #[.int .u32 ((hP 6).s : Int), .int .u32 ((hP 6).d : Int), .int .u16 ((hP 6).p : Int), .int .u16 ((hP 6).q : Int), .int .u8 ((hP 6).r : Int)]) ∧ Below W.heap.size W w' := fun W => protoC 6 W
  have hPr7 : ∀ W, Calls Try.prog 22 #[.int .u8 7] W fun e w' => e = .returned (.agg #[.int .u32 ((hP 7).s : Int), .int .u32 ((hP 7).d : Int), .int .u16 ((hP 7).p : Int), .int .u16 ((hP 7).q : Int), .int .u8 ((hP 7).r : Int)]) ∧ Below W.heap.size W w' := fun W => protoC 7 W
  go_enter Try.func9, Try.ntmps9
  go_wp2_with (fail)
  refine (hNew w).mono ?_
  rintro e w1 ⟨t, rfl, ho⟩
  have H1 : Hid (Ow w w1 t 2 0 0 m0) := ho
  clear ho
  go_wp2_with (fail)
  refine (hPr0 _).mono ?_
  rintro e w2 ⟨rfl, hb⟩
  have H2 : Hid (Ow w w2 t 2 0 0 m0) := H1.out.on hb
  clear hb H1
  go_wp2_with (fail)
  refine (put1 _ H2.out).mono ?_
  rintro e w3 ⟨rfl, ho⟩
  have H3 : Hid (Ow w w3 t 2 1 1 (upd m0 (hP 0) (some 5))) := ho
  clear ho H2
  go_wp2_with (fail)
  refine (hPr6 _).mono ?_
  rintro e w4 ⟨rfl, hb⟩
  have H4 : Hid (Ow w w4 t 2 1 1 (upd m0 (hP 0) (some 5))) := H3.out.on hb
  clear hb H3
  go_wp2_with (fail)
  refine (put2 _ H4.out).mono ?_
  rintro e w5 ⟨rfl, ho⟩
  have H5 : Hid (Ow w w5 t 2 2 2 (upd (upd m0 (hP 0) (some 5)) (hP 6) (some 7))) := ho
  clear ho H4
  go_wp2_with (fail)
  refine (hPr7 _).mono ?_
  rintro e w6 ⟨rfl, hb⟩
  have H6 : Hid (Ow w w6 t 2 2 2 (upd (upd m0 (hP 0) (some 5)) (hP 6) (some 7))) := H5.out.on hb
  clear hb H5
  go_wp2_with (fail)
  refine (put3 _ H6.out).mono ?_
  rintro e w7 ⟨rfl, ho⟩
  have H7 : Hid (Ow w w7 t 2 2 2 (upd (upd m0 (hP 0) (some 5)) (hP 6) (some 7))) := ho
  clear ho H6
  go_wp2_with (fail)
  refine (hPr6 _).mono ?_
  rintro e w8 ⟨rfl, hb⟩
  have H8 : Hid (Ow w w8 t 2 2 2 (upd (upd m0 (hP 0) (some 5)) (hP 6) (some 7))) := H7.out.on hb
  clear hb H7
  go_wp2_with (fail)
  refine (put4 _ H8.out).mono ?_
  rintro e w9 ⟨rfl, ho⟩
  have H9 : Hid (Ow w w9 t 2 2 2 (upd (upd (upd m0 (hP 0) (some 5)) (hP 6) (some 7)) (hP 6) (some 9))) := ho
  clear ho H8
  go_wp2_with (fail)
  refine (hPr6 _).mono ?_
  rintro e w10 ⟨rfl, hb⟩
  have H10 : Hid (Ow w w10 t 2 2 2 (upd (upd (upd m0 (hP 0) (some 5)) (hP 6) (some 7)) (hP 6) (some 9))) := H9.out.on hb
  clear hb H9
  go_wp2_with (fail)
  refine (get1 _ H10.out).mono ?_
  rintro e w11 ⟨rfl, ho⟩
  have H11 : Hid (Ow w w11 t 2 2 2 (upd (upd (upd m0 (hP 0) (some 5)) (hP 6) (some 7)) (hP 6) (some 9))) := ho
  clear ho H10
  go_wp2_with (fail)
  refine (hPr7 _).mono ?_
  rintro e w12 ⟨rfl, hb⟩
  have H12 : Hid (Ow w w12 t 2 2 2 (upd (upd (upd m0 (hP 0) (some 5)) (hP 6) (some 7)) (hP 6) (some 9))) := H11.out.on hb
  clear hb H11
  go_wp2_with (fail)
  refine (get2 _ H12.out).mono ?_
  rintro e w13 ⟨rfl, ho⟩
  have H13 : Hid (Ow w w13 t 2 2 2 (upd (upd (upd m0 (hP 0) (some 5)) (hP 6) (some 7)) (hP 6) (some 9))) := ho
  clear ho H12
  go_wp2_with (fail)
  refine (len1 _ H13.out).mono ?_
  rintro e w14 ⟨rfl, ho⟩
  have H14 : Hid (Ow w w14 t 2 2 2 (upd (upd (upd m0 (hP 0) (some 5)) (hP 6) (some 7)) (hP 6) (some 9))) := ho
  clear ho H13
  go_wp2_with (fail)
  refine (hPr6 _).mono ?_
  rintro e w15 ⟨rfl, hb⟩
  have H15 : Hid (Ow w w15 t 2 2 2 (upd (upd (upd m0 (hP 0) (some 5)) (hP 6) (some 7)) (hP 6) (some 9))) := H14.out.on hb
  clear hb H14
  go_wp2_with (fail)
  refine (del1 _ H15.out).mono ?_
  rintro e w16 ⟨rfl, ho⟩
  have H16 : Hid (Ow w w16 t 2 1 2 (upd (upd (upd (upd m0 (hP 0) (some 5)) (hP 6) (some 7)) (hP 6) (some 9)) (hP 6) none)) := ho
  clear ho H15
  go_wp2_with (fail)
  refine (hPr6 _).mono ?_
  rintro e w17 ⟨rfl, hb⟩
  have H17 : Hid (Ow w w17 t 2 1 2 (upd (upd (upd (upd m0 (hP 0) (some 5)) (hP 6) (some 7)) (hP 6) (some 9)) (hP 6) none)) := H16.out.on hb
  clear hb H16
  go_wp2_with (fail)
  refine (del2 _ H17.out).mono ?_
  rintro e w18 ⟨rfl, ho⟩
  have H18 : Hid (Ow w w18 t 2 1 2 (upd (upd (upd (upd (upd m0 (hP 0) (some 5)) (hP 6) (some 7)) (hP 6) (some 9)) (hP 6) none) (hP 6) none)) := ho
  clear ho H17
  go_wp2_with (fail)
  refine (len2 _ H18.out).mono ?_
  rintro e w19 ⟨rfl, ho⟩
  have H19 : Hid (Ow w w19 t 2 1 2 (upd (upd (upd (upd (upd m0 (hP 0) (some 5)) (hP 6) (some 7)) (hP 6) (some 9)) (hP 6) none) (hP 6) none)) := ho
  clear ho H18
  go_wp2_with (fail)
  go_ret
  obtain ⟨_, _, _, _, hb⟩ := H19.out
  exact ⟨rfl, hb⟩
end Go.Proofs.Ythfjdoenofkghaa
