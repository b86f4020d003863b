/-
  The document's Find.
-/
import Derived.Test.YtcjpjofoddpfhaaGreatNsRy
namespace Go.Proofs.YtcjpjofoddpfhaaGreat
open Go.RowKit
set_option linter.unusedVariables false
set_option linter.unusedSimpArgs false

theorem fndR_more (q : Nat → Nat → Bool) (L k : Nat) : fndR q (L + 1) k = fndR q L k ++ [fstI (q L) k] := by simp [fndR, List.range_succ]
theorem fstI_big (q : Nat → Bool) (k : Nat) : fstI q k = -1 ∨ ∃ j : Nat, fstI q k = (j : Int) ∧ j < k := by
  rcases fstI_spec q k with ⟨e, _⟩ | ⟨j, e, h, _⟩
  · exact .inl e
  · exact .inr ⟨j, e, h⟩
set_option maxRecDepth 20000 in
set_option maxHeartbeats 4000000 in
theorem rFindC (l : List (Nat × Nat)) (p : Nat) (v : Value) (w : World) (hs : SrcS w v l) (hl : l.length ≤ 16777216) :
    Calls Tryz.prog 15 #[v, .int .u16 (p : Int)] w fun e w' => ((okS l = true ∧ ∃ (v' : Value) (u : List (Nat × Nat)), e = .returned (.tuple #[v', .int .i64 0]) ∧ InO u ∧ (∀ x, x ∈ u ↔ x ∈ l) ∧ RowI w' w.heap.size v' (fnds u l p)) ∨ (okS l = false ∧ e = .returned (.tuple #[.slice none 0 0, .int .i64 30]))) ∧ Below w.heap.size w w' := by
  have HS : Hid (SrcS w v l) := hs
  have hL := rLevelsC l v w hs hl
  obtain ⟨ad, cap, rfl, _, _⟩ := hs
  obtain ⟨n, hn⟩ : ∃ n, n = l.length := ⟨_, rfl⟩
  rw [← hn] at HS hl hL ⊢
  have Hn : Hid (n = l.length) := hn
  clear hn
  go_enter Tryz.func15, Tryz.ntmps15
  go_wp2_with (fail)
  refine hL.mono ?_
  rintro e w1 ⟨hq, hb1⟩
  have HB1 : Hid (Below w.heap.size w w1) := hb1
  have HS1 : Hid (SrcS w1 (.slice ad n cap) l) := HS.out.keep hb1
  have hD := rDepthC l _ w1 HS1.out (by rw [← Hn.out]; exact hl)
  have key : ∃ (v6 : Value) (er : Int), e = .returned (.tuple #[v6, .int .i64 er]) ∧ ((okS l = true ∧ er = 0 ∧ ∃ u : List (Nat × Nat), InO u ∧ (∀ x, x ∈ u ↔ x ∈ l) ∧ SrcI w1 v6 (ofN (l.map (lvU u)))) ∨ (okS l = false ∧ er = 30)) := by
    rcases hq with ⟨hok, v', u, rfl, h1, h2, h3⟩ | ⟨hno, rfl⟩
    · exact ⟨v', 0, rfl, .inl ⟨hok, rfl, u, h1, h2, h3.src⟩⟩
    · exact ⟨_, 30, rfl, .inr ⟨hno, rfl⟩⟩
  obtain ⟨v6, er, rfl, HE⟩ := key
  have HE1 : Hid _ := HE
  clear hb1 hL hq HE HS
  go_wp2_with (fail)
  refine hD.mono ?_
  rintro e w2 ⟨hq, hb2⟩
  have HB2 : Hid (Below w.heap.size w w2) := bel_of HB1.out hb2 HB1.out.size
  have HS2 : Hid (SrcS w2 (.slice ad n cap) l) := HS1.out.keep hb2
  have key : ∃ (u : List (Nat × Nat)) (D : Nat) (er2 : Int), e = .returned (.tuple #[.int .i64 (D : Int), .int .i64 er2]) ∧ D ≤ 16777216 ∧ (D = 0 ∨ SrcI w2 v6 (ofN (l.map (lvU u)))) ∧ ((okS l = true ∧ InO u ∧ (∀ x, x ∈ u ↔ x ∈ l) ∧ fnds u l p = fndR (qF u l p) D l.length ∧ er = 0) ∨ (okS l = false ∧ D = 0 ∧ er = 30)) := by
    rcases HE1.out with ⟨hok, rfl, u, h1, h2, h3⟩ | ⟨hno, rfl⟩
    · rcases hq with ⟨_, u', h1', h2', rfl⟩ | ⟨hno, _⟩
      · obtain rfl : u' = u := ino_uniq h1' h1 (fun x => by rw [h2' x, h2 x])
        have hul : u'.length ≤ l.length := List.Nodup.length_le_of_subset (ino_nodup h1) (fun x hx => (h2 x).1 hx)
        have hDl : dep (l.map (lvU u')) ≤ u'.length := dep_le (fun n hn => by
          obtain ⟨s, hs, rfl⟩ := List.mem_map.1 hn
          exact lvU_lt ((h2 s).2 hs))
        exact ⟨u', _, 0, rfl, by have := Hn.out; omega, .inr (h3.keep hb2), .inl ⟨hok, h1, h2, rfl, rfl⟩⟩
      · rw [hok] at hno; cases hno
    · rcases hq with ⟨hok, _⟩ | ⟨_, rfl⟩
      · rw [hok] at hno; cases hno
      · exact ⟨[], 0, 30, rfl, by omega, .inl rfl, .inr ⟨hno, rfl, rfl⟩⟩
  obtain ⟨u, D, er2, rfl, hDb, hN, HE⟩ := key
  have HE2 : Hid _ := HE
  have HN : Hid _ := hN
  clear hq hb2 hD HE HE1 hN HB1 HS1
  obtain ⟨q, hqq⟩ : ∃ q, q = qF u l p := ⟨_, rfl⟩
  have Hq : Hid (q = qF u l p) := hqq
  clear hqq
  go_wp2_with (fail)
  go_loopw [10, 11] (fun sA sB wr => ∃ (L : Nat) (vA : Value), L ≤ D ∧ vA = sA ∧ sB = .int .i64 (L : Int) ∧ Hid (L = 0 → vA = .slice none 0 0) ∧ Hid (RowI wr w2.heap.size vA (fndR q L n)) ∧ Hid (Below w2.heap.size w2 wr)) (fun _ sB _ => D - (intOf sB).toNat)
  case atStart => exact ⟨0, _, Nat.zero_le _, rfl, rfl, (fun _ => rfl), RowI.nil _ _, Below.refl _ _⟩
  case round =>
    obtain ⟨L, vA, hLD, rfl, rfl, Hnone, HR, HB⟩ := hrel
    by_cases hlt : L < D
    · have hlti : (L : Int) < (D : Int) := by omega
      have HN2 : Hid (SrcI w2 v6 (ofN (l.map (lvU u)))) := HN.out.elim (fun h => absurd hlt (by omega)) id
      obtain ⟨a6, c6, rfl⟩ := HN2.out.len
      have e6 : (ofN (l.map (lvU u))).length = n := by rw [ofN_len, List.length_map]; exact Hn.out.symm
      rw [e6] at HN2 ⊢
      clear e6
      go_wp2_with (fail)
      generalize wr = V1 at *
      go_loopw [12, 13] (fun sC sD wr => ∃ k : Nat, k ≤ n ∧ sC = .int .i64 (fstI (q L) k) ∧ sD = .int .i64 (k : Int) ∧ wr = V1) (fun _ sD _ => n - (intOf sD).toNat)
      case atStart => exact ⟨0, Nat.zero_le _, rfl, rfl, rfl⟩
      case round =>
        obtain ⟨k, hk, rfl, rfl, rfl⟩ := hrel
        by_cases hltk : k < n
        · have hltk' : k < l.length := by rw [← Hn.out]; exact hltk
          have hltki : (k : Int) < (n : Int) := by omega
          obtain ⟨g, off, ea, c0, c1⟩ := (srcS_at HS2.out).2 HB.out k hltk'
          subst ea
          obtain ⟨g6, o6, ea6, f0⟩ := (HN2.out.keep HB.out).at (k := k) (by rw [ofN_len, List.length_map]; exact hltk')
          subst ea6
          rw [ofN_at, List.getElem_map] at f0
          have hqk : q L k = (decide (lvU u l[k] = L) && hasI l[k] p) := by
            rw [Hq.out]; unfold qF
            have e : l.getD k (0, 0) = l[k] := by simp [hltk']
            rw [e]
          generalize l[k] = s at c0 c1 f0 hqk
          generalize lvU u s = x at f0 hqk
          unfold hasI at hqk
          rcases fstI_big (q L) k with h0 | ⟨j, h0, hjk⟩
          · rw [h0]
            by_cases h1 : x = L
            · subst h1
              have hxx : ((x : Int) == (x : Int)) = true := by simp
              by_cases h2 : s.1 ≤ p
              · have h2i : (s.1 : Int) ≤ (p : Int) := by omega
                by_cases h3 : p ≤ s.2
                · have h3i : (p : Int) ≤ (s.2 : Int) := by omega
                  have Hnx : Hid (fstI (q x) (k + 1) = (k : Int)) := fstI_hit (by omega) (by rw [hqk]; simp [h2, h3])
                  clear hqk h0
                  go_wp2_with (fail)
                  go_roundw
                  case rel => exact ⟨k + 1, by omega, by rw [Hnx.out], by go_num, trivial⟩
                  case measure => simp [intOf]; omega
                · have h3i : ¬ (p : Int) ≤ (s.2 : Int) := by omega
                  have Hnx : Hid (fstI (q x) (k + 1) = -1) := (fstI_skip (by rw [hqk]; simp [h3])).trans h0
                  clear hqk h0
                  go_wp2_with (fail)
                  go_roundw
                  case rel => exact ⟨k + 1, by omega, by rw [Hnx.out], by go_num, trivial⟩
                  case measure => simp [intOf]; omega
              · have h2i : ¬ (s.1 : Int) ≤ (p : Int) := by omega
                have Hnx : Hid (fstI (q x) (k + 1) = -1) := (fstI_skip (by rw [hqk]; simp [h2])).trans h0
                clear hqk h0
                go_wp2_with (fail)
                go_roundw
                case rel => exact ⟨k + 1, by omega, by rw [Hnx.out], by go_num, trivial⟩
                case measure => simp [intOf]; omega
            · have hxx : ((x : Int) == (L : Int)) = false := by simp; omega
              have Hnx : Hid (fstI (q L) (k + 1) = -1) := (fstI_skip (by rw [hqk]; simp [h1])).trans h0
              clear hqk h0 h1
              go_wp2_with (fail)
              go_roundw
              case rel => exact ⟨k + 1, by omega, by rw [Hnx.out], by go_num, trivial⟩
              case measure => simp [intOf]; omega
          · have Hnx : Hid (fstI (q L) (k + 1) = (j : Int)) := (fstI_old (by omega)).trans h0
            rw [h0]
            have hj0 : ¬ (j : Int) < 0 := by omega
            clear hqk h0
            go_wp2_with (fail)
            go_roundw
            case rel => exact ⟨k + 1, by omega, by rw [Hnx.out], by go_num, trivial⟩
            case measure => simp [intOf]; omega
        · obtain rfl : k = n := by omega
          have hnk : ¬ (k : Int) < (k : Int) := by omega
          have Hmo : Hid (fndR q (L + 1) k = fndR q L k ++ [fstI (q L) k]) := fndR_more q L k
          generalize fstI (q L) k = y at *
          obtain ⟨W1, hW1⟩ : ∃ W1, W1 = wr.alloc (.cells #[.int .i64 y] 3) := ⟨_, rfl⟩
          have hc1 : Hid (W1.cell? ⟨wr.heap.size, 0, none⟩ = some (.int .i64 y)) := by show _ = _; rw [hW1]; exact blk_cell (blk_new wr _) rfl
          have HR5 : Hid (RowI W1 w2.heap.size vA (fndR q L k)) := by show RowI _ _ _ _; rw [hW1]; exact HR.out.alloc _
          have HB5 : Hid (Below w2.heap.size w2 W1) := by show Below _ _ _; rw [hW1]; exact HB.out.alloc HB.out.size _
          have Hlen : Hid ((fndR q L k).length + 1 ≤ 4294967296) := by show _ ≤ _; rw [fndR_len]; omega
          clear HR HB
          subst hW1
          go_wp2_with (at_builtin; refine wpList_appendI rfl (.tmp 64) (.tmp 66) rfl w2.heap.size _ (fndR q L k) rfl HR5.out _ _ rfl hc1.out HB5.out.size Hlen.out ?_; intro v7 w7 hr7 hg7)
          have HB7 : Hid (Below w2.heap.size w2 w7) := bel_appendI HB5.out HR5.out hg7 HB5.out.size (Nat.le_refl _)
          have HR7 : Hid (RowI w7 w2.heap.size v7 (fndR q (L + 1) k)) := by show RowI _ _ _ _; rw [Hmo.out]; exact hr7
          clear hr7 hg7 hc1 HR5 HB5
          go_roundw
          case rel => exact ⟨L + 1, _, by omega, rfl, by go_num, (fun h => by omega), HR7.out, HB7.out⟩
          case measure => simp [intOf]; omega
    · obtain rfl : L = D := by omega
      have hni : ¬ (L : Int) < (L : Int) := by omega
      have HB3 : Hid (Below w.heap.size w wr) := bel_of HB2.out HB.out HB2.out.size
      have HR3 : Hid (RowI wr w.heap.size vA (fndR q L n)) := HR.out.base HB2.out.size
      go_wp2_with (fail)
      go_ret2
      refine ⟨?_, HB3.out⟩
      rcases HE2.out with ⟨hok, h1, h2, h3, rfl⟩ | ⟨hno, rfl, rfl⟩
      · refine .inl ⟨hok, _, rfl, u, h1, fun a b => h2 (a, b), ?_⟩
        rw [h3, ← Hq.out, ← Hn.out]; exact HR3.out
      · refine .inr ⟨hno, ?_⟩
        rw [Hnone.out rfl]
        try rfl
end Go.Proofs.YtcjpjofoddpfhaaGreat
