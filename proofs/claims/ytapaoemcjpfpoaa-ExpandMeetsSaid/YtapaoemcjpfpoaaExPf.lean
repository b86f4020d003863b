/-
  Back and Least of package expand; with them every function of expand has its contract.
-/
import Derived.Test.YtapaoemcjpfpoaaExPo2
import Derived.Test.YtapaoemcjpfpoaaSpUn
namespace Go.Proofs.Ytapaoemcjpfpoaa
open Go.RowKit
set_option linter.unusedVariables false
set_option linter.unusedSimpArgs false

theorem made_none (w : World) {n : Nat} {z : Array Value} (hn : n ≤ 1048576) : Row (w.alloc (.cells (madeCells z (n * 2)) 26)) w.heap.size (.slice (some ⟨w.heap.size, 0, none⟩) 0 n) [] :=
  ⟨rfl, .inr ⟨w.heap.size, n, _, rfl, Nat.le_refl _, heap_alloc_new _ _, Nat.zero_le _, by unfold maxLen; omega, size_madeCells _ _, by simp [flat]⟩⟩
set_option maxHeartbeats 2000000 in
theorem backA (l : List (Nat × Int)) (v : Value) (w : World) (hs : SrcT w v l) (hl : l.length ≤ 1048576) (hbd : BdT l) (E : Int) (C : List (Nat × Nat)) (hy : Hid (okT l = true → E = 0 ∧ C = canonOf (memT l))) (hn : Hid (okT l = false → E = 50 ∧ C = [])) :
    Calls Try.prog 23 #[v] w fun e w' => ∃ v' : Value, e = .returned (.tuple #[v', .int .i64 E]) ∧ Row w' w.heap.size v' C ∧ Below w.heap.size w w' := by
  obtain ⟨i0, hi, hz0, hz1, hz2⟩ := info_parts info_sp
  have hmk := fun W => run_make (P := Try.prog) W 41 26 i0 (.agg #[.int .u16 0, .int .u16 0]) Try.underlying41 hi hz0 .i64 .i64 0 l.length (by omega) (by omega) (by rw [hz2]; omega) (by omega)
  simp only [hz1, Int.toNat_natCast, Int.toNat_zero] at hmk
  obtain ⟨ad, cap, rfl, hat⟩ := hs.at
  have HBd : Hid (BdT l) := hbd
  clear hs hi hz0 hz1 hz2 hbd
  go_enter Try.func23, Try.ntmps23
  go_wp2_with (fail)
  go_loopw [4, 14] (fun sv iv wr => ∃ k : Nat, k ≤ l.length ∧ iv = .int .i64 (k : Int) ∧ Hid (Row wr w.heap.size sv ((l.take k).map spT)) ∧ Hid (okT (l.take k) = true) ∧ Hid (Below w.heap.size w wr)) (fun _ iv _ => l.length - (intOf iv).toNat)
  case atStart => exact ⟨0, Nat.zero_le _, rfl, made_none w hl, rfl, by show Below _ _ _; (repeat (first | assumption | exact Below.refl _ _ | refine Below.drew ?_ | refine bel_drewN ?_ _ | refine Below.setCell ?_ (by first | omega | (simp; done) | (simp; omega)) _ | refine Below.alloc ?_ (by first | omega | (simp; done) | (simp; omega)) _ | refine bel_of ?_ (by assumption)))⟩
  case round =>
    obtain ⟨k, hk, rfl, hrow, hok, hbl⟩ := hrel
    by_cases hlt : k < l.length
    · obtain ⟨g, off, rfl, hcell⟩ := hat (by omega)
      obtain ⟨t, ht⟩ : ∃ t, t = l[k] := ⟨_, rfl⟩
      obtain ⟨x0, x1⟩ := hcell k hlt
      rw [← ht] at x0 x1
      have y0 := (hbl.out.cell (World.block_lt_of_cell? _ _ x0)).trans x0
      have y1 := (hbl.out.cell (World.block_lt_of_cell? _ _ x1)).trans x1
      have hz := hbl.out.size
      have hlt' : (k : Int) < (l.length : Int) := by omega
      have hk0 : (0 : Int) ≤ (k : Int) := by omega
      have hb6 : t.1 < 65536 := HBd.out t (by rw [ht]; exact List.getElem_mem _)
      cases hm : mayT t.1 t.2
      · have HN : okT l = false := okT_no hlt (by rw [← ht]; exact hm)
        obtain ⟨rfl, rfl⟩ := hn.out HN
        clear HN hy hn
        have hsp := fun W => spnN t.1 t.2 W hb6 hm
        clear hat hcell x0 x1 ht hm hok
        go_wp2_with (fail)
        refine (hsp _).mono ?_
        rintro e w1 ⟨rfl, hb1⟩
        have hz1 := hb1.size
        simp at hz1
        have HB1 : Hid (Below w.heap.size w w1) := (hbl.out.alloc hz _).trans (hb1.mono (by simp; omega))
        clear hb1 hsp y0 y1 hbl hrow
        go_wp2
        go_ret2
        exact ⟨_, rfl, Row.nil _ _, HB1.out.alloc (by omega) _⟩
      · have HK : Hid (okT (l.take (k + 1)) = true) := (by show _ = _; rw [okT_take hlt, hok.out, ← ht, hm]; rfl)
        have hsp := fun W => spnC t.1 t.2 W hb6 hm
        have HT : Hid ((l.take (k + 1)).map spT = (l.take k).map spT ++ [(t.1, topT t.1 t.2)]) := by
          show _ = _
          rw [List.take_succ_eq_append_getElem hlt, List.map_append, ← ht]; rfl
        have hlen : ((l.take k).map spT).length ≤ 1048576 := by simp; omega
        generalize (l.take k).map spT = J at *
        generalize topT t.1 t.2 = tp at *
        clear hat hcell x0 x1 ht hm hok
        go_wp2_with (fail)
        refine (hsp _).mono ?_
        rintro e w1 ⟨rfl, hb1⟩
        have hz1 := hb1.size
        simp at hz1
        have HB1 : Hid (Below w.heap.size w w1) := (hbl.out.alloc hz _).trans (hb1.mono (by simp; omega))
        have HR1 : Hid (Row w1 w.heap.size u4 J) := (hrow.out.alloc _).on hb1
        clear hb1 hsp y0 y1 hbl hrow
        go_wp2_with (at_builtin; refine wpList_append_rows rfl (.tmp 26) (.tmp 28) rfl w.heap.size _ J rfl ((HR1.out.alloc _).alloc _) w.heap.size _ [(t.1, tp)] rfl (Row.one2 (w1.alloc (.cells #[.int .u16 (t.1 : Nat), .int .u16 (tp : Nat)] 26)) w.heap.size t.1 tp (B := w1.heap.size + 1) (by simp) rfl rfl (by simp; omega)) (by simp; omega) (by simp; omega) ?_; intro v5 w5 hrow5 hgr5)
        go_roundw
        case rel =>
          exact ⟨k + 1, by omega, by go_num, by show Row _ _ _ _; rw [HT.out]; exact hrow5, HK.out, ((HB1.out.alloc (by omega) _).alloc (by simp; omega) _).grown hgr5 (by simp; omega) (fun x hx => (HR1.out.lt x hx).1)⟩
        case measure => simp [intOf]; omega
    · obtain rfl : k = l.length := by omega
      have ho := hok.out
      have hr := hrow.out
      rw [List.take_length] at ho hr
      obtain ⟨rfl, rfl⟩ := hy.out ho
      clear hy hn
      have hun := unionS (l.map spT) u4 wr hr.src (by simp; omega) (bd_spT HBd.out ho)
      have hz := hbl.out.size
      clear ho hr hrow hok hat
      go_wp2_with (fail)
      refine hun.mono ?_
      rintro e w2 ⟨v2, rfl, hr2, hb2⟩
      have HR : Hid (Row w2 w.heap.size v2 (canonOf (memT l))) := by
        show Row _ _ _ _
        rw [← canon_spT]
        exact hr2.base hz
      have HB2 : Hid (Below w.heap.size w w2) := hbl.out.trans (hb2.mono hz)
      clear hr2 hb2 hun
      go_wp2
      go_ret2
      exact ⟨_, rfl, HR.out, HB2.out⟩
theorem backN : BackN := by
  intro l v w hs hl hbd ho
  exact backA l v w hs hl hbd 50 [] (fun h => by rw [ho] at h; cases h) (fun _ => ⟨rfl, rfl⟩)
theorem backC : BackC := by
  intro l v w hs hl hbd ho
  exact backA l v w hs hl hbd 0 (canonOf (memT l)) (fun _ => ⟨rfl, rfl⟩) (fun h => by rw [ho] at h; cases h)
theorem lstN : LstN := by
  intro l v w hs hl hbd ho
  have hbk := backN l v w hs hl hbd ho
  obtain ⟨ad, cap, rfl, _⟩ := hs
  go_enter Try.func27, Try.ntmps27
  go_wp2_with (fail)
  refine hbk.mono ?_
  rintro e w1 ⟨v1, rfl, hr1, hb1⟩
  obtain ⟨ad1, cap1, rfl, _, _⟩ := hr1.form
  clear hr1 hbk
  go_wp2
  go_ret2
  exact ⟨_, rfl, RowT.nil _ _, hb1⟩
set_option maxHeartbeats 1000000 in
theorem lstC : LstC := by
  intro l v w hs hl hbd ho
  have hbk := backC l v w hs hl hbd ho
  have hcn := canonOf_canon (memT l)
  have hcv := fun v' W hW => coverT (canonOf (memT l)) v' W hW (fun s hs => (hcn.each s hs).2) (length_canonOf _)
  rw [tl_memT]
  generalize canonOf (memT l) = C at *
  clear hcn
  obtain ⟨ad, cap, rfl, _⟩ := hs
  go_enter Try.func27, Try.ntmps27
  go_wp2_with (fail)
  refine hbk.mono ?_
  rintro e w1 ⟨v1, rfl, hr1, hb1⟩
  have hsr := hr1.src
  obtain ⟨ad1, cap1, rfl, _, _⟩ := hr1.form
  have HC := hcv _ w1 hsr
  have HB : Hid (Below w.heap.size w w1) := hb1
  have hz := hb1.size
  clear hr1 hbk hcv hsr hb1
  go_wp2_with (fail)
  refine HC.mono ?_
  rintro e w2 ⟨v2, rfl, hr2, hb2⟩
  have HR : Hid (RowT w2 w.heap.size v2 (grds C)) := hr2.base hz
  have HB2 : Hid (Below w.heap.size w w2) := HB.out.trans (hb2.mono hz)
  obtain ⟨ad2, cap2, rfl, _, _⟩ := hr2.form
  clear hr2 hb2 HC
  go_wp2
  go_ret2
  exact ⟨_, rfl, HR.out, HB2.out⟩
end Go.Proofs.Ytapaoemcjpfpoaa
