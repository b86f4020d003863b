/-
  span.Union: what it hands back.
-/
import Derived.Test.YtapaoemcjpfpoaaSpSo
import Derived.Test.YtapaoemcjpfpoaaSpPlB
import Derived.Deep.RegionHeld3
namespace Go.Proofs.Ytapaoemcjpfpoaa
open Go.RowKit Go.Shelf
set_option linter.unusedVariables false
set_option linter.unusedSimpArgs false

/-- Ports' numbers. -/
def Bd (l : List (Nat × Nat)) : Prop := ∀ s ∈ l, s.1 < 65536 ∧ s.2 < 65536
theorem take_snoc {l : List (Nat × Nat)} {k : Nat} (h : k < l.length) : l.take (k + 1) = l.take k ++ [l[k]] := by rw [List.take_succ_eq_append_getElem h]
theorem rise_le {l : List (Nat × Nat)} (h : Rise l) {k : Nat} (hk : k < l.length) : ∀ x ∈ l.take k, x.1 ≤ (l[k]).1 := by
  intro x hx
  obtain ⟨i, hi, rfl⟩ := List.mem_iff_getElem.1 hx
  have hi' : i < k := by simp at hi; omega
  rw [List.getElem_take]
  exact h i k (by omega) hk hi'
theorem snoc_of_pos {l : List (Nat × Nat)} (h : 0 < l.length) : ∃ f t, l = f ++ [t] :=
  ⟨l.dropLast, l.getLast (by intro e; simp [e] at h), (List.dropLast_concat_getLast _).symm⟩
set_option maxHeartbeats 2000000 in
theorem unionS (l : List (Nat × Nat)) (v : Value) (w : World) (h : Src w v l) (hl : l.length ≤ 4294967296) (hbd : Bd l) :
    Calls Try.prog 43 #[v] w fun e w' => ∃ v' : Value, e = .returned v' ∧ Row w' w.heap.size v' (canonOf (memB l)) ∧ Below w.heap.size w w' := by
  have hso := sortedS l v w h hl
  go_enter Try.func43, Try.ntmps43
  go_wp2_with (fail)
  refine hso.mono ?_
  rintro e w2 ⟨v2, l', rfl, hp, hri, hrow, hb2⟩
  obtain ⟨ad, cap, rfl, hat⟩ := hrow.src.at
  have hmem : Hid (∀ i, memB l' i = memB l i) := perm_mem hp
  have hbd' : Hid (Bd l') := fun s hs => hbd s (hp.mem_iff.1 hs)
  have hl' : l'.length ≤ 4294967296 := by rw [hp.length_eq]; exact hl
  have HR : Hid (Rise l') := hri
  have HB2 : Hid (Below w.heap.size w w2) := hb2
  clear hso hp hri hrow hbd hb2 h hl
  go_wp2_with (fail)
  go_loopw [3, 10] (fun jv iv wr => ∃ (k : Nat) (J : List (Nat × Nat)), k ≤ l'.length ∧ iv = .int .i64 k ∧ Hid (Row wr w2.heap.size jv J) ∧ Hid (UI (l'.take k) J) ∧ Hid (Below w2.heap.size w2 wr)) (fun _ iv _ => l'.length - (intOf iv).toNat)
  case atStart => exact ⟨0, [], Nat.zero_le _, rfl, Row.nil _ _, UI.nil, Below.refl _ _⟩
  case round =>
    obtain ⟨k, J, hk, rfl, hJ, hUI, hbl⟩ := hrel
    by_cases hlt : k < l'.length
    · obtain ⟨g, off, rfl, hcell⟩ := hat (by omega)
      obtain ⟨s, hs⟩ : ∃ s, s = l'[k] := ⟨_, rfl⟩
      obtain ⟨x0, x1⟩ := hcell k hlt
      rw [← hs] at x0 x1
      have y0 := (hbl.out.cell (World.block_lt_of_cell? _ _ x0)).trans x0
      have y1 := (hbl.out.cell (World.block_lt_of_cell? _ _ x1)).trans x1
      have hz := hbl.out.size
      obtain ⟨jad, jcap, rfl, hjcap, hjat⟩ := hJ.out.form
      have HS : Hid (s = l'[k]) := hs
      clear hat hcell x0 x1 hs
      go_wp2_with (fail)
      refine (checkS _ _ _).mono ?_
      rintro e w3 ⟨rfl, hb3⟩
      have z0 : w3.cell? ⟨wr.heap.size, 0, none⟩ = some (.int .u16 s.1) := cell_on hb3 (by simp [go_sem])
      have z1 : w3.cell? ⟨wr.heap.size, 1, none⟩ = some (.int .u16 s.2) := cell_on hb3 (by simp [go_sem])
      have hz3 := hb3.size
      simp at hz3
      have hb3' : Hid (Below w2.heap.size w2 w3) := hbl.out.trans ((((Below.refl _ _).alloc (by omega) _).trans (hb3.mono (by simp; omega))).mono (Nat.le_refl _))
      by_cases hv : s.2 < s.1
      · rw [show chkS s.1 s.2 = 30 from if_pos hv]
        go_wp2
        go_roundw
        case rel => exact ⟨k + 1, J, by omega, by go_num, (hJ.out.alloc _).on hb3, by have := take_snoc hlt; show UI _ _; rw [this, ← HS.out]; exact hUI.out.skip hv, hb3'.out⟩
        case measure => simp [intOf]; omega
      · rw [show chkS s.1 s.2 = 0 from if_neg hv]
        by_cases hJ0 : 0 < J.length
        · obtain ⟨f, t, rfl⟩ := snoc_of_pos hJ0
          obtain ⟨gJ, rfl, hgb, hgl, hjc⟩ := hjat (by simp)
          obtain ⟨t0, t1⟩ := hjc f.length (by simp)
          rw [List.getElem_concat_length rfl] at t0 t1
          have q0 : w3.cell? ⟨gJ, f.length * 2, none⟩ = some (.int .u16 t.1) := cell_on hb3 (cell_alloc t0)
          have q1 : w3.cell? ⟨gJ, f.length * 2 + 1, none⟩ = some (.int .u16 t.2) := cell_on hb3 (cell_alloc t1)
          have hd : decide ((0 : Int) < (f.length : Int) + 1) = true := decide_eq_true (by omega)
          have hlen : f.length ≤ 65536 := by have := hUI.out.len; simp at this; omega
          have hs2 : s.1 < 65536 ∧ s.2 < 65536 := hbd'.out s (by rw [HS.out]; exact List.getElem_mem _)
          have ht2 := (hUI.out.1.each t (by simp)).2.2
          clear t0 t1 hjc hjat y0 y1
          go_wp2
          have kne : Nonempty (Kin (w3)) := ⟨⟨_, Below.refl _ _⟩⟩
          have kc0 : ∀ y : Kin (w3), y.val.cell? ⟨gJ, f.length * 2, none⟩ = some (.int .u16 t.1) := fun y => by rw [kin_cell (by first | omega | (simp <;> omega))]; first | assumption | (simp [go_sem]; done) | simp [go_sem, *]
          have kc1 : ∀ y : Kin (w3), y.val.cell? ⟨gJ, f.length * 2 + 1, none⟩ = some (.int .u16 t.2) := fun y => by rw [kin_cell (by first | omega | (simp <;> omega))]; first | assumption | (simp [go_sem]; done) | simp [go_sem, *]
          have kc2 : ∀ y : Kin (w3), y.val.cell? ⟨wr.heap.size, 0, none⟩ = some (.int .u16 s.1) := fun y => by rw [kin_cell (by first | omega | (simp <;> omega))]; first | assumption | (simp [go_sem]; done) | simp [go_sem, *]
          have kc3 : ∀ y : Kin (w3), y.val.cell? ⟨wr.heap.size, 1, none⟩ = some (.int .u16 s.2) := fun y => by rw [kin_cell (by first | omega | (simp <;> omega))]; first | assumption | (simp [go_sem]; done) | simp [go_sem, *]
          refine wp_region_kin (w3) (Below.refl _ _) (by kernel_rfl) (by kernel_rfl) ?_
          repeat (go_big_quiet_step ((go_at_call 48; exact kin_call (reachesS _ _ _ _ _ (by omega) (by omega)))))
          refine wpQuiet_nil ?_
          rintro wq ⟨⟨xq, hxq⟩, hyq⟩
          have hq : Below (w3).heap.size (w3) wq := by rw [hyq]; exact hxq
          clear hyq hxq xq
          clear kne kc0 kc1 kc2 kc3
          obtain ⟨hcq, hfq⟩ := bcell hq
          have hzq := hq.size
          try simp at hzq
          have p0 := cell_on hq q0
          have p1 := cell_on hq q1
          have r0 := cell_on hq z0
          have r1 := cell_on hq z1
          have hL : (f ++ [t]).length = f.length + 1 := by simp
          have HR3 : Hid (Row wq w2.heap.size (.slice (some ⟨gJ, 0, none⟩) (f.length + 1) jcap) (f ++ [t])) := by rw [← hL]; exact ((hJ.out.alloc _).on hb3).on hq
          have hbq : Hid (Below w2.heap.size w2 wq) := hb3'.out.trans (hq.mono (by have := hb3'.out.size; omega))
          have fz := HR3.out.frozen (f.length * 2 + 1)
          have hzW := hbq.out.size
          have hts : l'.take (k + 1) = l'.take k ++ [s] := by rw [HS.out]; exact take_snoc hlt
          have HT : Hid (l'.take (k + 1) = l'.take k ++ [s]) := hts
          have hris : Hid (∀ x ∈ l'.take k, x.1 ≤ s.1) := by rw [HS.out]; exact rise_le HR.out hlt
          clear q0 q1 z0 z1 hcq hfq hb3 hb3' hL hts
          by_cases hj : s.1 ≤ t.2 + 1
          · simp only [decide_eq_true hj]
            go_wp2
            go_region
            all_goals
              go_wp2
              go_roundw
              case rel =>
                have hmx : max (t.2 : Int) (s.2 : Int) = ((max t.2 s.2 : Nat) : Int) := by omega
                rw [hmx]
                have hset := HR3.out.setHi (max t.2 s.2)
                exact ⟨k + 1, f ++ [(t.1, max t.2 s.2)], by omega, by go_num, hset.1, by rw [HT.out]; exact hUI.out.join hris.out (by omega) hs2.2 hj, (hbq.out.setCell (by show w2.heap.size ≤ gJ; omega) _).drew⟩
              case measure => simp [intOf]; omega
          · simp only [decide_eq_false hj]
            go_wp2_with (at_builtin; refine wpList_append_rows rfl (.tmp 44) (.tmp 46) rfl w2.heap.size _ (f ++ [t]) rfl (HR3.out.alloc _) w2.heap.size _ [s] rfl (Row.one wq w2.heap.size s.1 s.2 (by omega)) (by first | omega | (simp; omega)) (by first | omega | (simp; done) | (simp; omega)) ?_; intro v5 w5 hrow5 hgr5)
            go_roundw
            case rel =>
              exact ⟨k + 1, f ++ [t] ++ [s], by omega, by go_num, hrow5, by rw [HT.out]; exact hUI.out.new (by omega) hs2.2 hj, (hbq.out.alloc (by have := hbq.out.size; omega) _).grown hgr5 (by have := hbq.out.size; simp; omega) (fun x hx => (HR3.out.lt x hx).1)⟩
            case measure => simp [intOf]; omega
        · obtain rfl : J = [] := List.eq_nil_of_length_eq_zero (by omega)
          go_wp2
          have kne : Nonempty (Kin (w3)) := ⟨⟨_, Below.refl _ _⟩⟩
          refine wp_region_kin (w3) (Below.refl _ _) (by kernel_rfl) (by kernel_rfl) ?_
          repeat (go_big_quiet_step (fail))
          refine wpQuiet_nil ?_
          rintro wq ⟨⟨xq, hxq⟩, hyq⟩
          have hq : Below (w3).heap.size (w3) wq := by rw [hyq]; exact hxq
          clear hyq hxq xq
          clear kne 
          obtain ⟨hcq, hfq⟩ := bcell hq
          have hzq := hq.size
          try simp at hzq
          have r0 := cell_on hq z0
          have r1 := cell_on hq z1
          have hs2 : s.1 < 65536 ∧ s.2 < 65536 := hbd'.out s (by rw [HS.out]; exact List.getElem_mem _)
          have HR3 : Hid (Row wq w2.heap.size (.slice jad 0 jcap) []) := ((hJ.out.alloc _).on hb3).on hq
          have hbq : Hid (Below w2.heap.size w2 wq) := hb3'.out.trans (hq.mono (by have := hb3'.out.size; omega))
          have hzW := hbq.out.size
          have HT : Hid (l'.take (k + 1) = l'.take k ++ [s]) := by have := take_snoc hlt; rw [HS.out]; exact this
          clear hcq hfq hb3 hb3' z0 z1
          go_wp2_with (at_builtin; refine wpList_append_rows rfl (.tmp 44) (.tmp 46) rfl w2.heap.size _ [] rfl (HR3.out.alloc _) w2.heap.size _ [s] rfl (Row.one wq w2.heap.size s.1 s.2 (by omega)) (by first | omega | (simp; omega)) (by first | omega | (simp; done) | (simp; omega)) ?_; intro v5 w5 hrow5 hgr5)
          go_roundw
          case rel =>
            refine ⟨k + 1, [s], by omega, by go_num, hrow5, by rw [HT.out]; exact hUI.out.first (by omega) hs2.2, (hbq.out.alloc (by have := hbq.out.size; omega) _).grown hgr5 (by have := hbq.out.size; simp; omega) (fun x hx => ((HR3.out.lt x hx).1))⟩
          case measure => simp [intOf]; omega
    · obtain rfl : k = l'.length := by omega
      go_wp2
      go_ret
      have hJu := hUI.out
      rw [List.take_length] at hJu
      have e : J = canonOf (memB l) := by rw [hJu.done]; exact canonOf_congr fun i _ => hmem.out i
      refine ⟨_, rfl, ?_, HB2.out.trans (hbl.out.mono HB2.out.size)⟩
      rw [← e]
      exact hJ.out.base HB2.out.size
end Go.Proofs.Ytapaoemcjpfpoaa
