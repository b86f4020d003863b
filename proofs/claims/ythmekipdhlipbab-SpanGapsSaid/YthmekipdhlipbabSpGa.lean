/-
  span.Gaps: what it hands back.
-/
import Derived.Test.YthmekipdhlipbabSpUn
namespace Go.Proofs.Ythmekipdhlipbab
open Go.RowKit Go.Shelf
set_option linter.unusedVariables false
set_option linter.unusedSimpArgs false

theorem Row.apart {w : World} {b B : Nat} {v : Value} {l : List (Nat × Nat)} (h : Row w b v l) (hB : w.heap.size ≤ B) : some B ≠ v.ownBlock := fun e => by
  have := (h.lt B e.symm).2; omega
theorem gapsF_step {u : List (Nat × Nat)} {k next : Nat} (h : k < u.length) : gapsF next (u.drop k) = (if next < (u[k]).1 then [(next, (u[k]).1 - 1)] else []) ++ gapsF ((u[k]).2 + 1) (u.drop (k + 1)) := by
  rw [List.drop_eq_getElem_cons h]; rfl
theorem app_len {G R u : List (Nat × Nat)} (h : G ++ R = u) (hu : u.length ≤ 65536) : G.length ≤ 65536 := by
  have := congrArg List.length h; simp at this; omega
set_option maxHeartbeats 2000000 in
theorem gapsS (l : List (Nat × Nat)) (v : Value) (w : World) (h : Src w v l) (hl : l.length ≤ 4294967296) (hbd : Bd l) :
    Calls Try.prog 9 #[v] w fun e w' => ∃ v' : Value, e = .returned v' ∧ Row w' w.heap.size v' (canonOf fun i => !memB l i) ∧ Below w.heap.size w w' := by
  have hun := unionS l v w h hl hbd
  have hG : Hid (gapsF 0 (canonOf (memB l)) = canonOf fun i => !memB l i) := gaps_done _
  have hGl : Hid ((gapsF 0 (canonOf (memB l))).length ≤ 65536) := by show _ ≤ _; rw [gaps_done]; exact length_canonOf _
  have hU := canonOf_canon (memB l)
  have hUl := length_canonOf (memB l)
  generalize canonOf (memB l) = u at hun hG hU hUl hGl
  go_enter Try.func9, Try.ntmps9
  go_wp2_with (fail)
  refine hun.mono ?_
  rintro e w2 ⟨v2, rfl, hrow, hb2⟩
  obtain ⟨ad, cap, rfl, hcap, hat⟩ := hrow.form
  have HU : Hid (Canon 0 u) := hU
  have HB2 : Hid (Below w.heap.size w w2) := hb2
  clear hun hU hrow hbd hb2 h hl hcap
  go_wp2_with (fail)
  go_loopw [3, 4, 10] (fun gv nv iv wr => ∃ (k next : Nat) (G : List (Nat × Nat)), k ≤ u.length ∧ iv = .int .i64 k ∧ nv = .int .i64 next ∧ next ≤ 65536 ∧ Hid (Row wr w2.heap.size gv G) ∧ Hid (G ++ gapsF next (u.drop k) = gapsF 0 u) ∧ Hid (Below w2.heap.size w2 wr)) (fun _ _ iv _ => u.length - (intOf iv).toNat)
  case atStart => exact ⟨0, 0, [], Nat.zero_le _, rfl, rfl, by omega, Row.nil _ _, rfl, Below.refl _ _⟩
  case round =>
    obtain ⟨k, next, G, hk, rfl, rfl, hnx, hGr, hGe, hbl⟩ := hrel
    have hGn : G.length ≤ 65536 := app_len hGe.out hGl.out
    have hzW := hbl.out.size
    by_cases hlt : k < u.length
    · obtain ⟨g, rfl, hgb, hgl, hcell⟩ := hat (by omega)
      obtain ⟨s, hs⟩ : ∃ s, s = u[k] := ⟨_, rfl⟩
      obtain ⟨x0, x1⟩ := hcell k hlt
      rw [← hs] at x0 x1
      have y0 := (hbl.out.cell (World.block_lt_of_cell? _ _ x0)).trans x0
      have y1 := (hbl.out.cell (World.block_lt_of_cell? _ _ x1)).trans x1
      have hsb := HU.out.each s (by rw [hs]; exact List.getElem_mem _)
      have HST : Hid (gapsF next (u.drop k) = (if next < s.1 then [(next, s.1 - 1)] else []) ++ gapsF (s.2 + 1) (u.drop (k + 1))) := by show _ = _; rw [hs]; exact gapsF_step hlt
      have h12 : (s.2 : Int) < 65536 := by omega
      have h11 : (s.1 : Int) < 65536 := by omega
      clear hat hcell x0 x1 hs
      by_cases hn : next < s.1
      · have hn' : (next : Int) < (s.1 : Int) := by omega
        have hs1 : (1 : Int) ≤ (s.1 : Int) := by omega
        have hw1 : ((s.1 : Int) - 1) = ((s.1 - 1 : Nat) : Int) := by omega
        have HW1 : Hid (((s.1 : Int) - 1) = ((s.1 - 1 : Nat) : Int)) := hw1
        clear hw1
        go_wp2_with (at_builtin; go_loud (refine wpList_append_rows rfl (.tmp 19) (.tmp 26) rfl w2.heap.size _ G rfl ((hGr.out.alloc _).alloc _) w2.heap.size _ [(next, s.1 - 1)] rfl (Row.one2 (wr.alloc (.cells #[.int .u16 (s.1), .int .u16 (s.2)] 31)) w2.heap.size next (s.1 - 1) (by simp) (by first | rfl | omega) (by first | exact HW1.out | omega) (by first | omega | (simp; omega))) (by first | omega | (simp; omega)) (by first | omega | (simp; done) | (simp; omega)) ?_; intro v5 w5 hrow5 hgr5; have c5 : w5.cell? ⟨wr.heap.size, 1, none⟩ = some (.int .u16 s.2) := hgr5.cell (cell_alloc (by simp [go_sem])) (hGr.out.apart (Nat.le_refl _))))
        go_wp2
        go_roundw
        case rel =>
          exact ⟨k + 1, s.2 + 1, G ++ [(next, s.1 - 1)], by omega, by go_num, by go_num, by omega, hrow5, by show _ = _; rw [← hGe.out, HST.out, if_pos hn, List.append_assoc], ((hbl.out.alloc (by omega) _).alloc (by simp; omega) _).grown hgr5 (by simp; omega) (fun x hx => (hGr.out.lt x hx).1)⟩
        case measure => simp [intOf]; omega
      · have hn' : ¬ (next : Int) < (s.1 : Int) := by omega
        go_wp2
        go_roundw
        case rel =>
          exact ⟨k + 1, s.2 + 1, G, by omega, by go_num, by go_num, by omega, hGr.out.alloc _, by show _ = _; rw [← hGe.out, HST.out, if_neg hn, List.nil_append], hbl.out.alloc (by omega) _⟩
        case measure => simp [intOf]; omega
    · obtain rfl : k = u.length := by omega
      have he : G ++ gapsF next [] = gapsF 0 u := by have := hGe.out; rwa [List.drop_length] at this
      have HE : Hid (G ++ gapsF next [] = gapsF 0 u) := he
      clear he
      by_cases hn : next ≤ 65535
      · have hn' : (next : Int) ≤ 65535 := by omega
        go_wp2_with (at_builtin; go_loud (refine wpList_append_rows rfl (.tmp 35) (.tmp 39) rfl w2.heap.size _ G rfl (hGr.out.alloc _) w2.heap.size _ [(next, 65535)] rfl (Row.one2 wr w2.heap.size next 65535 rfl (by first | rfl | omega) (by first | rfl | omega) (by omega)) (by first | omega | (simp; omega)) (by first | omega | (simp; done) | (simp; omega)) ?_; intro v5 w5 hrow5 hgr5))
        go_ret
        have hbe : Below w2.heap.size w2 w5 := (hbl.out.alloc (by omega) _).grown hgr5 (by simp; omega) (fun x hx => (hGr.out.lt x hx).1)
        refine ⟨_, rfl, ?_, HB2.out.trans (hbe.mono HB2.out.size)⟩
        have e : G ++ [(next, 65535)] = canonOf fun i => !memB l i := by rw [← hG.out, ← HE.out]; unfold gapsF; rw [if_pos hn]
        rw [← e]
        exact hrow5.base HB2.out.size
      · have hn' : ¬ (next : Int) ≤ 65535 := by omega
        go_wp2
        go_ret
        refine ⟨_, rfl, ?_, HB2.out.trans (hbl.out.mono HB2.out.size)⟩
        have e : G = canonOf fun i => !memB l i := by rw [← hG.out, ← HE.out]; unfold gapsF; rw [if_neg hn, List.append_nil]
        rw [← e]
        exact hGr.out.base HB2.out.size
end Go.Proofs.Ythmekipdhlipbab
