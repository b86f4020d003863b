/-
  A table made; a table that was made since; the document's examples.
-/
import Derived.Test.YthfjdoenofkghaaDoorHsP
namespace Go.Proofs.YthfjdoenofkghaaDoor.Ss
open Go.RowKit
set_option linter.unusedVariables false
set_option linter.unusedSimpArgs false

def m0 : Hd → Option ByteArray := fun _ => none
/-- A table made since w. -/
def Ow (w w' : World) (t M c P : Nat) (m : Hd → Option ByteArray) : Prop := ∃ v, Tb w' t v M c P m ∧ w.heap.size ≤ t ∧ (∀ k, v.ownBlock = some k → w.heap.size ≤ k) ∧ Below w.heap.size w w'
theorem Ow.on {w w1 w2 : World} {t M c P : Nat} {m : Hd → Option ByteArray} (h : Ow w w1 t M c P m) (hb : Below w1.heap.size w1 w2) : Ow w w2 t M c P m := by
  obtain ⟨v, h1, h2, h3, h4⟩ := h
  exact ⟨v, h1.on hb, h2, h3, h4.trans (hb.mono h4.size)⟩
theorem Ow.moved {w w1 w2 : World} {t M c P M' c' P' : Nat} {v v' : Value} {m m' : Hd → Option ByteArray} (h2 : w.heap.size ≤ t) (h3 : ∀ k, v.ownBlock = some k → w.heap.size ≤ k) (h4 : Below w.heap.size w w1) (hT : Tb w2 t v' M' c' P' m') (hm : Moved w1 w2 t v v') : Ow w w2 t M' c' P' m' :=
  ⟨v', hT, h2, hm.ge h4.size h3, h4.trans (hm.below h4.size h2 h3)⟩
theorem ow_put (w w1 : World) (t M c P : Nat) (m : Hd → Option ByteArray) (k : Hd) (y : ByteArray) (h : Ow w w1 t M c P m) (o : OkH k) :
    Calls Tryd.prog 7 #[.pointer (some ⟨t, 0, none⟩), .agg #[.int .u32 (k.s : Int), .int .u32 (k.d : Int), .int .u16 (k.p : Int), .int .u16 (k.q : Int), .int .u8 (k.r : Int)], .string y] w1 fun e w' => e = .returned (.int .i64 (putE m M c k)) ∧ Ow w w' t M (putN m M c k) (max P (putN m M c k)) (putM m M c k y) := by
  obtain ⟨v, h1, h2, h3, h4⟩ := h
  refine (putC t v M c P m k y w1 h1 o).mono ?_
  rintro e w2 ⟨he, v', hT, hm⟩
  exact ⟨he, Ow.moved (M := M) (c := c) (P := P) (m := m) h2 h3 h4 hT hm⟩
theorem ow_del (w w1 : World) (t M c P : Nat) (m : Hd → Option ByteArray) (k : Hd) (h : Ow w w1 t M c P m) (o : OkH k) :
    Calls Tryd.prog 6 #[.pointer (some ⟨t, 0, none⟩), .agg #[.int .u32 (k.s : Int), .int .u32 (k.d : Int), .int .u16 (k.p : Int), .int .u16 (k.q : Int), .int .u8 (k.r : Int)]] w1 fun e w' => e = .returned (.bool (m k).isSome) ∧ Ow w w' t M (delN m c k) P (upd m k none) := by
  obtain ⟨v, h1, h2, h3, h4⟩ := h
  refine (delC t v M c P m k w1 h1 o).mono ?_
  rintro e w2 ⟨he, hT, _, hm⟩
  exact ⟨he, Ow.moved (M := M) (c := c) (P := P) (m := m) h2 h3 h4 hT hm⟩
theorem ow_get (w w1 : World) (t M c P : Nat) (m : Hd → Option ByteArray) (k : Hd) (h : Ow w w1 t M c P m) (o : OkH k) :
    Calls Tryd.prog 8 #[.pointer (some ⟨t, 0, none⟩), .agg #[.int .u32 (k.s : Int), .int .u32 (k.d : Int), .int .u16 (k.p : Int), .int .u16 (k.q : Int), .int .u8 (k.r : Int)]] w1 fun e w' => e = .returned (.tuple #[.string ((m k).getD .empty), .bool (m k).isSome]) ∧ Ow w w' t M c P m := by
  obtain ⟨v, h1, h2, h3, h4⟩ := id h
  exact (getC t v M c P m k w1 h1 o).mono fun e w2 ⟨he, hb⟩ => ⟨he, h.on hb⟩
theorem ow_len (w w1 : World) (t M c P : Nat) (m : Hd → Option ByteArray) (h : Ow w w1 t M c P m) :
    Calls Tryd.prog 10 #[.pointer (some ⟨t, 0, none⟩)] w1 fun e w' => e = .returned (.int .i64 (c : Int)) ∧ Ow w w' t M c P m := by
  obtain ⟨v, h1, h2, h3, h4⟩ := id h
  exact (lenC t v M c P m w1 h1).mono fun e w2 ⟨he, hb⟩ => ⟨he, h.on hb⟩
set_option maxHeartbeats 1000000 in
theorem newN (n : Int) (w : World) (h : n < 1 ∨ 65536 < n) :
    Calls Tryd.prog 4 #[.int .i64 n] w fun e w' => e = .returned (.tuple #[.pointer none, .int .i64 1]) ∧ w' = w := by
  go_enter Tryd.func4, Tryd.ntmps4
  rcases h with h | h
  · go_wp2
    go_ret2
    exact ⟨rfl, rfl⟩
  · have h1 : ¬ n < 1 := by omega
    go_wp2
    go_ret2
    exact ⟨rfl, rfl⟩
set_option maxHeartbeats 2000000 in
theorem newC (n : Nat) (w : World) (h1 : 1 ≤ n) (h2 : n ≤ 65536) :
    Calls Tryd.prog 4 #[.int .i64 (n : Int)] w fun e w' => ∃ t, e = .returned (.tuple #[.pointer (some ⟨t, 0, none⟩), .int .i64 0]) ∧ Ow w w' t n 0 0 m0 := by
  obtain ⟨i0, hi, hz0, hz1, hz2⟩ := info_parts infoL
  have hmk := fun W => run_make (P := Tryd.prog) W 41 49 i0 _ Tryd.underlying41 hi hz0 .i64 .i64 (8 : Int) (8 : Int) (by omega) (Int.le_refl _) (by rw [hz2]; omega) (by omega)
  simp only [hz1, show ((8 : Int)).toNat = 8 from rfl] at hmk
  clear hi hz0 hz1 hz2
  have hr := made_rowL w 8 (by omega)
  have HR : Hid (RowL ((w.alloc (.cells (madeCells #[.int .i64 0, .int .u32 0, .int .u32 0, .int .u16 0, .int .u16 0, .int .u8 0, .string .empty] (8 * 7)) 49)).alloc (.cells #[.int .i64 (n : Int), .int .i64 0, .int .i64 0, .slice (some ⟨w.heap.size, 0, none⟩) 8 8] 43)) 0 (.slice (some ⟨w.heap.size, 0, none⟩) 8 8) (newL 8 slZ)) := (hr.base (Nat.zero_le _)).alloc _
  have HI : Hid (Inv way (newL 8 slZ) 0 0) := inv_new (m := 3) rfl (by omega) rfl
  have HH : Hid (Holds (newL 8 slZ) m0) := fun k v => ⟨fun h => absurd h (has_new rfl k v), fun h => by cases h⟩
  clear hr
  have h1' : ¬ (n : Int) < 1 := by omega
  have h2' : ¬ (65536 : Int) < (n : Int) := by omega
  go_enter Tryd.func4, Tryd.ntmps4
  go_wp2
  go_ret2
  refine ⟨w.heap.size + 1, rfl, .slice (some ⟨w.heap.size, 0, none⟩) 8 8, ⟨0, newL 8 slZ, ⟨?_, HR.out, ?_⟩, HI.out, HH.out, fun k v e => (by cases e), ?_, Nat.le_refl _, Nat.zero_le _, h2⟩, Nat.le_succ _, fun k e => ?_, ?_⟩
  · have := blk_new (w.alloc (.cells (madeCells #[.int .i64 0, .int .u32 0, .int .u32 0, .int .u16 0, .int .u16 0, .int .u8 0, .string .empty] (8 * 7)) 49)) (.cells #[.int .i64 (n : Int), .int .i64 0, .int .i64 0, .slice (some ⟨w.heap.size, 0, none⟩) 8 8] 43)
    rw [show (w.alloc (.cells (madeCells #[.int .i64 0, .int .u32 0, .int .u32 0, .int .u16 0, .int .u16 0, .int .u8 0, .string .empty] (8 * 7)) 49)).heap.size = w.heap.size + 1 by simp] at this
    exact this
  · simp [Value.ownBlock]
  · unfold newL; rw [List.length_replicate]; omega
  · simp [Value.ownBlock] at e; omega
  · (repeat (first | assumption | exact Below.refl _ _ | refine Below.drew ?_ | refine bel_drewN ?_ _ | refine Below.setCell ?_ (by first | omega | (simp; done) | (simp; omega)) _ | refine Below.alloc ?_ (by first | omega | (simp; done) | (simp; omega)) _ | refine bel_of ?_ (by assumption)))
end Go.Proofs.YthfjdoenofkghaaDoor.Ss
