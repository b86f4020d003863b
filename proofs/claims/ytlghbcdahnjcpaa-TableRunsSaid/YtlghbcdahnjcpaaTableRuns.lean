/-
  For any configuration and any calls on a table: each answers as the document's list does, and clones go ways of their own (P11.2 to P11.6); the examples of the document hold.
  Conditions: none; the law holds for every input.
-/
import Derived.LaidEql
import Derived.Test.YtlghbcdahnjcpaaTbRn
import Derived.Test.YtlghbcdahnjcpaaTbX
import Derived.Test.YtlghbcdahnjcpaaTbRk
import Derived.Test.YtlghbcdahnjcpaaTbFr
namespace Go.Proofs.Ytlghbcdahnjcpaa
open Go.ChangeShapes Go.WideShapes Go.ChangeAt Go.RowKit Go.Joins
set_option linter.unusedVariables false
set_option linter.unusedSimpArgs false

theorem infoXO : (Try.prog.info? 47).map (·.size) = some 21 := by kernel_rfl
theorem encO_len (o : Opp) : (encO o).length = 21 := rfl
theorem ptr_yes (a : Nat) (w : World) : Sem.run Try.prog (binOp .eql 27 (.pointer (some ⟨a, 0, none⟩)) (.pointer (some ⟨a, 0, none⟩))) w = .ok (.bool true) w := by
  have h : ∀ d, Sem.run Try.prog (Op.equalIn (d + 1) 27 (.pointer (some ⟨a, 0, none⟩)) (.pointer (some ⟨a, 0, none⟩))) w = .ok true w := fun d => by
    rw [Op.equalIn]
    simp [go_sem, run_underlying Try.underlying27, run_sameAddr_same]
  have h2 : Sem.run Try.prog (Op.equal 27 (.pointer (some ⟨a, 0, none⟩)) (.pointer (some ⟨a, 0, none⟩))) w = .ok true w := h 9999
  simp [binOp, go_sem, h2]
theorem ptr_no {ca cb : Array Value} {ta tb : TypeId} (a b : Nat) (hab : ¬ a = b) (w : World) (ha : w.heap[a]? = some (.cells ca ta (0, 0))) (hb : w.heap[b]? = some (.cells cb tb (0, 0))) : Sem.run Try.prog (binOp .eql 27 (.pointer (some ⟨a, 0, none⟩)) (.pointer (some ⟨b, 0, none⟩))) w = .ok (.bool false) w := by
  have h : ∀ d, Sem.run Try.prog (Op.equalIn (d + 1) 27 (.pointer (some ⟨a, 0, none⟩)) (.pointer (some ⟨b, 0, none⟩))) w = .ok false w := fun d => by
    rw [Op.equalIn]
    have h3 := run_sameAddr_other (P := Try.prog) (w := w) (a := ⟨a, 0, none⟩) (b := ⟨b, 0, none⟩) (by intro e; cases e; exact hab rfl) ha hb
    simp [go_sem, run_underlying Try.underlying27, h3]
  have h2 : Sem.run Try.prog (Op.equal 27 (.pointer (some ⟨a, 0, none⟩)) (.pointer (some ⟨b, 0, none⟩))) w = .ok false w := h 9999
  simp [binOp, go_sem, h2]
set_option maxRecDepth 100000 in
set_option maxHeartbeats 16000000 in
theorem tableRuns_walk (c : Cf) (bc : BdC c) (S : List Opp) (sv : Value) (_ : True) (w : World) (hs : SrcO w sv S ∧ ∀ o ∈ S, BdO w o) :
    Calls Try.prog 4 #[.agg #[.int .i64 c.m, .int .i64 c.a, .int .i64 c.p, .int .i64 c.g, .int .i64 c.t, .int .i64 c.b, .int .i64 c.d], sv] w fun e w' => e = .returned (.bool true) ∧ Below w.heap.size w w' := by
  obtain ⟨hs, hbo⟩ := hs
  have hr := fun W => rcheckCC c W
  have HS : Hid (SrcO w sv S) := hs
  have HO : Hid (∀ o ∈ S, BdO w o) := hbo
  obtain ⟨ad, cap, rfl, hcap, hat⟩ := hs
  obtain ⟨n, hn⟩ : ∃ n, n = S.length := ⟨_, rfl⟩
  have Hn : Hid (n = S.length) := hn
  rw [← hn] at hcap HS ⊢
  clear hat hn hbo
  have hbU : Below w.heap.size w (w.alloc (.cells #[.int .i64 c.m, .int .i64 c.a, .int .i64 c.p, .int .i64 c.g, .int .i64 c.t, .int .i64 c.b, .int .i64 c.d] 24)) := (Below.refl _ _).alloc (Nat.le_refl _) _
  have kU : (w.alloc (.cells #[.int .i64 c.m, .int .i64 c.a, .int .i64 c.p, .int .i64 c.g, .int .i64 c.t, .int .i64 c.b, .int .i64 c.d] 24)).heap[w.heap.size]? = some (.cells #[.int .i64 c.m, .int .i64 c.a, .int .i64 c.p, .int .i64 c.g, .int .i64 c.t, .int .i64 c.b, .int .i64 c.d] 24) := blk_new w _
  by_cases hn2 : 2000 < n
  · have hn' : (2000 : Int) < (n : Int) := by omega
    clear hr kU
    go_enter Try.func4, Try.ntmps4
    go_wp2_with (fail)
    refine (awakeT _).mono ?_
    rintro e W1 ⟨rfl, hb⟩
    have HB1 : Hid (Below w.heap.size w W1) := hbU.trans (hb.mono hbU.size)
    clear hb hbU
    go_wp2_with (fail)
    go_ret
    exact ⟨rfl, HB1.out⟩
  · have hn' : ¬ (2000 : Int) < (n : Int) := by omega
    cases hok : okC c
    · have e : errC c = 110 := by unfold errC; rw [hok]; rfl
      rw [e] at hr
      clear hok e bc kU
      go_enter Try.func4, Try.ntmps4
      go_wp2_with (fail)
      refine (hr _).mono ?_
      rintro e W1 ⟨rfl, hb⟩
      have HB1 : Hid (Below w.heap.size w W1) := hbU.trans (hb.mono hbU.size)
      clear hb hbU hr
      go_wp2_with (fail)
      refine (awakeT _).mono ?_
      rintro e W2 ⟨rfl, hb⟩
      have HB2 : Hid (Below w.heap.size w W2) := HB1.out.trans (hb.mono HB1.out.size)
      clear hb HB1
      go_wp2_with (fail)
      go_ret
      exact ⟨rfl, HB2.out⟩
    · have e : errC c = 0 := by unfold errC; rw [hok]; rfl
      rw [e] at hr
      have hNew := fun W => newOk c bc hok W
      have hM : I64 c.m := bc.1
      clear e hok bc
      go_enter Try.func4, Try.ntmps4
      go_wp2_with (fail)
      refine (hr _).mono ?_
      rintro e W1 ⟨rfl, hb⟩
      have HB1 : Hid (Below w.heap.size w W1) := hbU.trans (hb.mono hbU.size)
      have K1 : Hid (W1.heap[w.heap.size]? = some (.cells #[.int .i64 c.m, .int .i64 c.a, .int .i64 c.p, .int .i64 c.g, .int .i64 c.t, .int .i64 c.b, .int .i64 c.d] 24)) := blk_on kU hb
      clear hb hbU hr kU
      have z0 : W1.cell? ⟨w.heap.size, 0, none⟩ = some (.int .i64 c.m) := blk_cell K1.out rfl
      have z1 : W1.cell? ⟨w.heap.size, 1, none⟩ = some (.int .i64 c.a) := blk_cell K1.out rfl
      have z2 : W1.cell? ⟨w.heap.size, 2, none⟩ = some (.int .i64 c.p) := blk_cell K1.out rfl
      have z3 : W1.cell? ⟨w.heap.size, 3, none⟩ = some (.int .i64 c.g) := blk_cell K1.out rfl
      have z4 : W1.cell? ⟨w.heap.size, 4, none⟩ = some (.int .i64 c.t) := blk_cell K1.out rfl
      have z5 : W1.cell? ⟨w.heap.size, 5, none⟩ = some (.int .i64 c.b) := blk_cell K1.out rfl
      have z6 : W1.cell? ⟨w.heap.size, 6, none⟩ = some (.int .i64 c.d) := blk_cell K1.out rfl
      go_wp2_with (fail)
      refine (hNew _).mono ?_
      rintro e W2 ⟨t, rfl, hT2, ht2, hb⟩
      have HR2 : Hid (Run w W2 t (.slice none 0 0) [] (.slice none 0 0) c 0 t (.slice none 0 0)) := ⟨hT2, ⟨⟨none, 0, rfl, ⟨Nat.le_refl _, fun _ => rfl⟩, fun h => absurd h (Nat.lt_irrefl _)⟩, fun k e => (by cases e)⟩, by simp, fun R h => (by cases h), HB1.out.trans (hb.mono HB1.out.size), (by have := HB1.out.size; omega), fun k e => (by cases e), ⟨blk_on K1.out hb, (by have := blk_lt K1.out; omega), fun e => (by cases e)⟩, .inl rfl⟩
      clear hNew hT2 ht2 hb HB1 K1 z0 z1 z2 z3 z4 z5 z6
      go_upto_region 10 with (fail)
      go_loopw [5, 7, 8, 9, 10] (fun s5 s7 s8 s9 s10 wr => ∃ (k t : Nat) (v : Value) (L : List Ru) (u : Value) (te : Nat) (uk : Value), k ≤ n ∧ s5 = .pointer (some ⟨t, 0, none⟩) ∧ u = s7 ∧ s8 = .pointer (some ⟨te, 0, none⟩) ∧ uk = s9 ∧ s10 = .int .i64 (k : Int) ∧ Hid (Run w wr t v L u c k te uk)) (fun _ _ _ _ s10 _ => n - (intOf s10).toNat)
      case atStart => exact ⟨0, t, _, [], _, t, _, Nat.zero_le _, rfl, rfl, rfl, rfl, rfl, HR2.out⟩
      case round =>
        clear HR2
        obtain ⟨k, t, v, L, u, te, uk, hk, rfl, rfl, rfl, rfl, rfl, HR⟩ := hrel
        by_cases hlt : k < n
        · have hkl : k < S.length := by rw [← Hn.out]; exact hlt
          have hlt' : (k : Int) < (n : Int) := by omega
          obtain ⟨g, off, rfl, hrg⟩ := HS.out.rng wr HR.out.2.2.2.2.1 k hkl
          have hRg : ∀ W, Below w.heap.size w W → W.rangeAt g (off + k * 21) (encO (S[k]'hkl)) := fun W hb => by
            obtain ⟨g', off', e, h⟩ := HS.out.rng W hb k hkl
            cases e
            exact h
          have hBo : BdO w (S[k]'hkl) := HO.out _ (List.getElem_mem hkl)
          generalize S[k]'hkl = o at hrg hRg hBo
          have Hrg : Hid (∀ W, Below w.heap.size w W → W.rangeAt g (off + k * 21) (encO o)) := hRg
          clear hRg
          obtain ⟨oad, ocap, hou, hoc, _⟩ := id hBo.2.2.2.2.2.1
          have x0 : wr.cell? ⟨g, off + k * 21, none⟩ = some (.int .i64 o.k) := hrg 0 _ rfl
          have x20 : wr.cell? ⟨g, off + k * 21 + 20, none⟩ = some (.slice oad o.l.length ocap) := by have h : wr.cell? ⟨g, off + k * 21 + 20, none⟩ = some o.u := hrg 20 _ rfl; rw [hou] at h; exact h
          obtain ⟨q, hq⟩ : ∃ q, q = o.l.length := ⟨_, rfl⟩
          have Hq : Hid (q = o.l.length) := hq
          rw [← hq] at x20
          have HBo : Hid (BdO w o) := hBo
          clear hrg hou hoc hq hBo
          by_cases hol : 2000 < q
          · have hol' : (2000 : Int) < (q : Int) := by omega
            go_wp2_with (fail)
            go_ret
            exact ⟨rfl, HR.out.2.2.2.2.1⟩
          · have hol' : ¬ (2000 : Int) < (q : Int) := by omega
            by_cases hk8 : o.k = 8
            · rw [hk8] at x0
              have hC := cloneC t v c.m c.a L wr HR.out.1 (by have := HR.out.2.2.1; omega)
              go_wp2_with (fail)
              refine hC.mono ?_
              rintro e W3 ⟨t3, v3, rfl, hT3, ht3, hv3, hb3⟩
              have HR3 : Hid (Run w W3 t3 v3 L u c (k + 1) t u) := HR.out.clone (by omega) hT3 ht3 hv3 hb3
              clear hC hT3 ht3 hv3 hb3 HR x0 x20
              go_wp2_with (fail)
              go_roundw
              case rel => exact ⟨k + 1, t3, v3, L, u, t, u, by omega, rfl, rfl, rfl, rfl, by go_num, HR3.out⟩
              case measure => simp [intOf]; omega
            · have hSt := stepC t v L u c o w wr.drew (HR.out.1.on (Below.refl _ _).drew) (HR.out.2.1.on (Below.refl _ _).drew) (by have := HR.out.2.2.1; omega) HR.out.2.2.2.1 hM HR.out.2.2.2.2.1.drew HR.out.2.2.2.2.2.1 HR.out.2.2.2.2.2.2.1 HBo.out (by have := Hq.out; omega)
              have hix : (k : Int) < (n : Int) := hlt'
              have hix2 : ¬ n ≤ k := by omega
              go_upto_region 20 with (fail)
              clear x0 x20
              refine wp_region_held_drew (S := fun w' => w'.heap[w.heap.size]? = some (.cells #[.int .i64 c.m, .int .i64 c.a, .int .i64 c.p, .int .i64 c.g, .int .i64 c.t, .int .i64 c.b, .int .i64 c.d] 24) ∧ Below w.heap.size w w') (by kernel_rfl) ⟨HR.out.2.2.2.2.2.2.2.1.1, HR.out.2.2.2.2.1.drew⟩ (fun hS0 => ?_)
              show wpAnyH _ _ _ _ _ 13 _ _ _
              refine wpAnyH_take (i := 0) (v := .pointer (some ⟨t, 0, none⟩)) rfl (by kernel_rfl) (by kernel_rfl) (by kernel_rfl) (fun _ _ _ h => h) (.inl ⟨rfl, fun _ _ => by simp [execOp, go_sem]⟩) hS0 ?_
              simp only [List.getElem_toArray, List.getElem_cons_succ, List.getElem_cons_zero, Act.put, List.setIfInBounds_toArray, List.set_cons_zero, List.set_cons_succ]
              refine wpAnyH_take (i := 1) (v := u) rfl (by kernel_rfl) (by kernel_rfl) (by kernel_rfl) (fun _ _ _ h => h) (.inl ⟨rfl, fun _ _ => by simp [execOp, go_sem]⟩) hS0 ?_
              simp only [List.getElem_toArray, List.getElem_cons_succ, List.getElem_cons_zero, Act.put, List.setIfInBounds_toArray, List.set_cons_zero, List.set_cons_succ]
              refine wpAnyH_take (i := 2) (v := .agg ([.int .i64 c.m, .int .i64 c.a, .int .i64 c.p, .int .i64 c.g, .int .i64 c.t, .int .i64 c.b, .int .i64 c.d] : List Value).toArray) rfl (by kernel_rfl) (by kernel_rfl) (by kernel_rfl) (fun _ _ _ h => h) (yieldsIf_load_mid rfl 24 (.tmp 2) rfl w.heap.size 0 rfl [.int .i64 c.m, .int .i64 c.a, .int .i64 c.p, .int .i64 c.g, .int .i64 c.t, .int .i64 c.b, .int .i64 c.d] _ (fun w' hw' => by have := World.rangeAt_of_block hw'.1 0 7; simpa using this) Try.underlying24 rfl (by kernel_rfl)) hS0 ?_
              simp only [List.getElem_toArray, List.getElem_cons_succ, List.getElem_cons_zero, Act.put, List.setIfInBounds_toArray, List.set_cons_zero, List.set_cons_succ]
              refine wpAnyH_take (i := 3) (v := .slice (some ⟨g, off, none⟩) n cap) rfl (by kernel_rfl) (by kernel_rfl) (by kernel_rfl) (fun _ _ _ h => h) (.inl ⟨rfl, fun _ _ => by simp [execOp, go_sem]⟩) hS0 ?_
              simp only [List.getElem_toArray, List.getElem_cons_succ, List.getElem_cons_zero, Act.put, List.setIfInBounds_toArray, List.set_cons_zero, List.set_cons_succ]
              refine wpAnyH_take (i := 4) (v := .int .i64 (k : Int)) rfl (by kernel_rfl) (by kernel_rfl) (by kernel_rfl) (fun _ _ _ h => h) (.inl ⟨rfl, fun _ _ => by simp [execOp, go_sem]⟩) hS0 ?_
              simp only [List.getElem_toArray, List.getElem_cons_succ, List.getElem_cons_zero, Act.put, List.setIfInBounds_toArray, List.set_cons_zero, List.set_cons_succ]
              refine wpAnyH_take (i := 5) (v := .pointer (some ⟨g, off + k * 21, none⟩)) rfl (by kernel_rfl) (by kernel_rfl) (by kernel_rfl) (fun _ _ _ h => h) (yieldsIf_index rfl 32 (.tmp 64) (.tmp 65) rfl _ (fun w => by simp [Instr.indexAt, go_sem, hix, hix2])) hS0 ?_
              simp only [List.getElem_toArray, List.getElem_cons_succ, List.getElem_cons_zero, Act.put, List.setIfInBounds_toArray, List.set_cons_zero, List.set_cons_succ]
              refine wpAnyH_take (i := 6) (v := .agg (encO o).toArray) rfl (by kernel_rfl) (by kernel_rfl) (by kernel_rfl) (fun _ _ _ h => h) (yieldsIf_load_mid rfl 47 (.tmp 66) rfl g (off + k * 21) rfl (encO o) _ (fun w' hw' => Hrg.out w' hw'.2) Try.underlying47 rfl infoXO) hS0 ?_
              simp only [List.getElem_toArray, List.getElem_cons_succ, List.getElem_cons_zero, Act.put, List.setIfInBounds_toArray, List.set_cons_zero, List.set_cons_succ]
              refine wpAnyH_all (rs := [7]) (by kernel_rfl) (by simp) ?_
              intro i hi
              simp only [List.mem_cons, List.not_mem_nil, or_false] at hi
              subst hi
              refine wpOp_of_wp rfl rfl (fun K' hK' => ?_)
              go_wp2_with (go_at_call 14; refine hSt.mono ?_; rintro e W3 ⟨m, v3, L3, rfl, hT3, hD3, hm3, hl3, hb3⟩)
              have HR3 : Hid (Run w W3 t v3 L3 m c (k + 1) te uk) := (HR.out.on ((Below.refl _ _).drew)).moved hm3 hT3 hD3 hl3 hb3
              have hS3 : W3.heap[w.heap.size]? = some (.cells #[.int .i64 c.m, .int .i64 c.a, .int .i64 c.p, .int .i64 c.g, .int .i64 c.t, .int .i64 c.b, .int .i64 c.d] 24) ∧ Below w.heap.size w W3 := ⟨HR3.out.2.2.2.2.2.2.2.1.1, HR3.out.2.2.2.2.1⟩
              refine ⟨hS3, ?_⟩
              refine wpAnyH_take (i := 8) (v := .tuple #[m, .bool true]) rfl (by kernel_rfl) (by kernel_rfl) (by kernel_rfl) (fun _ _ _ h => h) (.inl ⟨rfl, fun _ _ => by simp [execOp, go_sem]⟩) hS3 ?_
              simp only [List.getElem_toArray, List.getElem_cons_succ, List.getElem_cons_zero, Act.put, List.setIfInBounds_toArray, List.set_cons_zero, List.set_cons_succ]
              refine wpAnyH_take (i := 9) (v := m) rfl (by kernel_rfl) (by kernel_rfl) (by kernel_rfl) (fun _ _ _ h => h) (.inl ⟨rfl, fun _ _ => by simp [execOp, go_sem]⟩) hS3 ?_
              simp only [List.getElem_toArray, List.getElem_cons_succ, List.getElem_cons_zero, Act.put, List.setIfInBounds_toArray, List.set_cons_zero, List.set_cons_succ]
              refine wpAnyH_take (i := 10) (v := .bool true) rfl (by kernel_rfl) (by kernel_rfl) (by kernel_rfl) (fun _ _ _ h => h) (.inl ⟨rfl, fun _ _ => by simp [execOp, go_sem]⟩) hS3 ?_
              simp only [List.getElem_toArray, List.getElem_cons_succ, List.getElem_cons_zero, Act.put, List.setIfInBounds_toArray, List.set_cons_zero, List.set_cons_succ]
              refine wpAnyH_take (i := 11) (v := m) rfl (by kernel_rfl) (by kernel_rfl) (by kernel_rfl) (fun _ _ _ h => h) (.inl ⟨rfl, fun _ _ => by simp [execOp, go_sem]⟩) hS3 ?_
              simp only [List.getElem_toArray, List.getElem_cons_succ, List.getElem_cons_zero, Act.put, List.setIfInBounds_toArray, List.set_cons_zero, List.set_cons_succ]
              refine wpAnyH_take (i := 12) (v := .bool true) rfl (by kernel_rfl) (by kernel_rfl) (by kernel_rfl) (fun _ _ _ h => h) (.inl ⟨rfl, fun _ _ => by simp [execOp, go_sem]⟩) hS3 ?_
              simp only [List.getElem_toArray, List.getElem_cons_succ, List.getElem_cons_zero, Act.put, List.setIfInBounds_toArray, List.set_cons_zero, List.set_cons_succ]
              refine wpAnyH_done (by kernel_rfl) ?_ _
              clear hS0 hS3 hT3 hD3 hm3 hl3 hb3 hSt HR
              go_wp2_with (fail)
              go_roundw
              case rel => exact ⟨k + 1, t, v3, L3, m, te, uk, by omega, rfl, rfl, rfl, rfl, by go_num, HR3.out⟩
              case measure => simp [intOf]; omega
        · obtain rfl : k = n := by omega
          have HB : Hid (Below w.heap.size w wr) := HR.out.2.2.2.2.1
          have hA := fun W => awakeT W
          have hT1 : ∀ W, Below wr.heap.size wr W → Calls Try.prog 15 #[.pointer (some ⟨t, 0, none⟩), u] W fun e w' => e = .returned (.bool true) ∧ Below W.heap.size W w' := fun W hb => toldC t v c.m c.a L u W (HR.out.1.on hb) (HR.out.2.1.on hb).1 (by have := HR.out.2.2.1; omega) (bd_at HR.out.2.2.2.1)
          rcases HR.out.2.2.2.2.2.2.2.2 with rfl | ⟨ve, Le, e1, e2, e3, e4, e5, _⟩
          · clear HR
            have hpe := ptr_yes te
            go_wp2_with (fail)
            refine (hA _).mono ?_
            rintro e W3 ⟨rfl, hb3⟩
            have HB3 : Hid (Below w.heap.size w W3) := HB.out.trans (hb3.mono HB.out.size)
            have h4 := hT1 W3 hb3
            clear hb3 hA hT1
            go_wp2_with (fail)
            refine h4.mono ?_
            rintro e W4 ⟨rfl, hb4⟩
            have HB4 : Hid (Below w.heap.size w W4) := HB3.out.trans (hb4.mono HB3.out.size)
            clear hb4 h4 HB3 HB
            go_wp2_with (fail)
            go_ret
            exact ⟨rfl, HB4.out⟩
          · have hT2 : ∀ W, Below wr.heap.size wr W → Calls Try.prog 15 #[.pointer (some ⟨te, 0, none⟩), uk] W fun e w' => e = .returned (.bool true) ∧ Below W.heap.size W w' := fun W hb => toldC te ve c.m c.a Le uk W (e1.on hb) (e2.on hb).1 (by omega) (bd_at e4)
            have hne : ¬ te = t := e5
            have hpe := ptr_no te t e5 wr e1.1 HR.out.1.1
            clear HR e1 e2 e3 e4 e5
            go_wp2_with (fail)
            refine (hA _).mono ?_
            rintro e W3 ⟨rfl, hb3⟩
            have HB3 : Hid (Below w.heap.size w W3) := HB.out.trans (hb3.mono HB.out.size)
            have HC3 : Hid (Below wr.heap.size wr W3) := hb3
            have h4 := hT1 W3 hb3
            clear hb3 hA hT1
            go_wp2_with (fail)
            refine h4.mono ?_
            rintro e W4 ⟨rfl, hb4⟩
            have HB4 : Hid (Below w.heap.size w W4) := HB3.out.trans (hb4.mono HB3.out.size)
            have h5 := hT2 W4 (HC3.out.trans (hb4.mono HC3.out.size))
            clear hb4 h4 HB3 HB HC3 hT2
            go_wp2_with (fail)
            refine h5.mono ?_
            rintro e W5 ⟨rfl, hb5⟩
            have HB5 : Hid (Below w.heap.size w W5) := HB4.out.trans (hb5.mono HB4.out.size)
            clear hb5 h5 HB4
            go_wp2_with (fail)
            go_ret
            exact ⟨rfl, HB5.out⟩

set_option maxRecDepth 100000 in
theorem tableRuns_lifted (os : Os) (started : os.Started) (H : Type) (enc : TypeId × Value → H) :
    ReturnsInHanded {} Try.checked os 4 .any (Rows.tableRunsSpec.pre6 enc Try.prog Try.f4 Rows.tableRunsRow.domain false) (Rows.tableRunsSpec.post enc Try.prog Try.f4 false true false false) := by
  refine returnsInHanded_of_change (C := Try.checked) own started (by kernel_rfl) Try.func4
    (ChangeSpec.witness6 (enc := enc) (C := Try.checked) false ⟨#[], #[.agg #[.int .i64 0, .int .i64 0, .int .i64 0, .int .i64 0, .int .i64 0, .int .i64 0, .int .i64 0], .slice none 0 0], []⟩ 8 (by kernel_rfl) (by kernel_rfl) (by kernel_rfl) (by kernel_rfl)) ?_
  intro W base args ds gs before hval0 hW hcnd _
  have hval : ∀ (j : Nat) t v, Try.f4.params[j]? = some t → args[j]? = some v → Value.okWide Try.prog W .any base t v := hval0
  have hW' := hW
  obtain ⟨p, q, hA0, hV, rfl, hfz, hnd⟩ := hW
  have hA : DataW.TrodAll enc Try.prog W 0 (fun _ => true) true Try.f4.params.toList args.toList ds p := hA0
  rw [Try.params4] at hA hval
  obtain ⟨v0, vs0, d0, ds0, p0, q0, hargs, rfl, rfl, h0, r0⟩ := trodAll_cons hA
  obtain ⟨v1, vs1, d1, ds1, p1, q1, rfl, rfl, rfl, h1, r1⟩ := trodAll_cons r0
  obtain ⟨rfl, rfl, rfl⟩ := trodAll_nil r1
  obtain rfl : args = #[v0, v1] := by cases args; simp_all
  obtain ⟨rfl, rfl⟩ := trodVars_none hV
  have hlt0 : ∀ x ∈ p0, x.block < W.heap.size := fun x hx => by simpa using hW'.lt x (by simp [hx])
  obtain ⟨g0, rfl, o0⟩ := open_cf (hval 0 24 v0 rfl rfl) h0
  have hlt1 : ∀ x ∈ p1, x.block < W.heap.size := fun x hx => by simpa using hW'.lt x (by simp [hx])
  obtain ⟨l1, s1, bd1⟩ := open_ops (hval 1 32 v1 rfl rfl) h1
  clear hA0 hval0
  simp only [List.append_nil] at hW'
  refine (tableRuns_walk g0 o0 l1 v1 bd1 W s1).mono fun e W' ⟨he, bel⟩ => ?_
  subst he
  exact ⟨_, rfl, _, _, _, [], _, [], hW', trodAll_mk1 (shut_bool Try.underlying4 _), (trodAll_cons_mk (Below.trod laidOut (by kernel_rfl) (of_decide_eq_true (by kernel_rfl)) h0 bel hlt0) (trodAll_cons_mk (Below.trod laidOut (by kernel_rfl) (of_decide_eq_true (by kernel_rfl)) h1 bel hlt1) trodAll_mk0)), rfl, bel.frame _, fun h => by cases h⟩

/-- The given statement. -/
theorem tableRuns_holds : Rows.TableRunsSaid :=
  OpenClaim.holds_of_wide 4 Try.f4 rfl rfl rfl rfl rfl rfl rfl ⟨rfl, rfl, rfl, rfl, rfl⟩ rfl rfl rfl rfl rfl (by kernel_rfl) Try.func4 (by kernel_rfl)
    (of_decide_eq_true (by kernel_rfl)) (by unfold Func.isWrapper; first | (rw [if_pos (by decide +kernel)]; kernel_rfl) | (rw [if_neg (by decide +kernel)]; exact ⟨rfl, rfl⟩))
    (fun os started H enc _ => tableRuns_lifted os started H enc)
#print axioms tableRuns_holds
end Go.Proofs.Ytlghbcdahnjcpaa
