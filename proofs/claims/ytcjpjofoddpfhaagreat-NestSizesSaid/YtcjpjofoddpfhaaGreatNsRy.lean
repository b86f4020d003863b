/-
  The document's Levels and Depth.
-/
import Derived.Test.YtcjpjofoddpfhaaGreatNsRx
namespace Go.Proofs.YtcjpjofoddpfhaaGreat
open Go.RowKit
set_option linter.unusedVariables false
set_option linter.unusedSimpArgs false

def hitL (u : List (Nat × Nat)) (s : Nat × Nat) (k : Nat) : List Nat := if s ∈ u.take k then [lvU u s] else []
theorem hitL_zero (u : List (Nat × Nat)) (s : Nat × Nat) : hitL u s 0 = [] := by simp [hitL]
theorem hitL_len (u : List (Nat × Nat)) (s : Nat × Nat) (k : Nat) : (hitL u s k).length ≤ 1 := by unfold hitL; split <;> simp
theorem hitL_all {u : List (Nat × Nat)} {s : Nat × Nat} (h : s ∈ u) : hitL u s u.length = [lvU u s] := by simp [hitL, h]
theorem hitL_no {u : List (Nat × Nat)} {s : Nat × Nat} {k : Nat} (hk : k < u.length) (h : u[k] ≠ s) : hitL u s (k + 1) = hitL u s k := by
  unfold hitL
  rw [take_at hk]
  simp only [List.mem_append, List.mem_singleton]
  have : ¬ s = u[k] := fun e => h e.symm
  simp [this]
theorem hitL_yes {u : List (Nat × Nat)} (hu : u.Nodup) {k : Nat} (hk : k < u.length) : hitL u u[k] k = [] ∧ hitL u u[k] (k + 1) = [lvU u u[k]] := by
  have h1 : u[k] ∉ u.take k := fun hm => by
    obtain ⟨j, hj, e⟩ := List.mem_iff_getElem.1 hm
    rw [List.length_take] at hj
    rw [List.getElem_take] at e
    exact (List.pairwise_iff_getElem.1 hu j k (by omega) hk (by omega)) e
  refine ⟨by simp [hitL, h1], ?_⟩
  have h2 : u[k] ∈ u.take (k + 1) := by rw [take_at hk]; exact List.mem_append.2 (.inr (List.mem_singleton.2 rfl))
  unfold hitL
  rw [if_pos h2]
set_option maxRecDepth 20000 in
set_option maxHeartbeats 4000000 in
theorem rLevelsC (l : List (Nat × Nat)) (v : Value) (w : World) (hs : SrcS w v l) (hl : l.length ≤ 16777216) :
    Calls Tryz.prog 9 #[v] w fun e w' => ((okS l = true ∧ ∃ (v' : Value) (u : List (Nat × Nat)), e = .returned (.tuple #[v', .int .i64 0]) ∧ InO u ∧ (∀ x, x ∈ u ↔ x ∈ l) ∧ RowI w' w.heap.size v' (ofN (l.map (lvU u)))) ∨ (okS l = false ∧ e = .returned (.tuple #[.slice none 0 0, .int .i64 30]))) ∧ Below w.heap.size w w' := by
  have HS : Hid (SrcS w v l) := hs
  obtain ⟨ad, cap, rfl, _, _⟩ := hs
  have hW := wrongC l (.slice ad l.length cap) w HS.out (by unfold maxLen; omega)
  obtain ⟨n, hn⟩ : ∃ n, n = l.length := ⟨_, rfl⟩
  rw [← hn] at HS hl hW ⊢
  have Hn : Hid (n = l.length) := hn
  clear hn
  go_enter Tryz.func9, Tryz.ntmps9
  go_wp2_with (fail)
  refine hW.mono ?_
  rintro e w1 ⟨rfl, hb1⟩
  have HB1 : Hid (Below w.heap.size w w1) := hb1
  have HS1 : Hid (SrcS w1 (.slice ad n cap) l) := HS.out.keep hb1
  clear hb1 hW
  cases hok : okS l with
  | false =>
    have Hok : Hid (okS l = false) := hok
    clear hok
    go_wp2_with (fail)
    go_ret2
    exact ⟨.inr ⟨Hok.out, rfl⟩, HB1.out⟩
  | true =>
    have Hok : Hid (okS l = true) := hok
    clear hok
    have hU := runlikeC l _ w1 HS1.out (by rw [← Hn.out]; exact hl)
    go_wp2_with (fail)
    refine hU.mono ?_
    rintro e w2 ⟨v4, u, rfl, h1, h2, h3, hb2⟩
    have hul : u.length ≤ l.length := List.Nodup.length_le_of_subset (ino_nodup h1) (fun x hx => (h2 x).1 hx)
    have hL := rlevelsC u v4 w2 h3.src (by rw [← Hn.out] at hul; omega)
    have HQ : Hid (InO u ∧ (∀ x, x ∈ u ↔ x ∈ l)) := ⟨h1, h2⟩
    have HB2 : Hid (Below w.heap.size w w2) := bel_of HB1.out hb2 HB1.out.size
    have HS2 : Hid (SrcS w2 (.slice ad n cap) l) := HS1.out.keep hb2
    have HU2 : Hid (SrcS w2 v4 u) := h3.src
    have Hul : Hid (u.length ≤ l.length) := hul
    clear hU hul h1 h2 h3 hb2 HB1 HS1 HS
    go_wp2_with (fail)
    refine hL.mono ?_
    rintro e w3 ⟨v5, rfl, h3, hb3⟩
    have HB3 : Hid (Below w.heap.size w w3) := bel_of HB2.out hb3 HB2.out.size
    have HS3 : Hid (SrcS w3 (.slice ad n cap) l) := HS2.out.keep hb3
    have HU3 : Hid (SrcS w3 v4 u) := HU2.out.keep hb3
    have HN3 : Hid (SrcI w3 v5 (ofN (lvN u))) := h3.src
    clear hL h3 hb3 HB2 HS2 HU2
    obtain ⟨a4, c4, rfl, _⟩ : ∃ a4 c4, v4 = .slice a4 u.length c4 ∧ True := by obtain ⟨a, c, h, _⟩ := HU3.out; exact ⟨a, c, h, trivial⟩
    obtain ⟨m, hm⟩ : ∃ m, m = u.length := ⟨_, rfl⟩
    rw [← hm] at HU3 ⊢
    have Hm : Hid (m = u.length) := hm
    have hmn : m ≤ n := by rw [hm, Hn.out]; exact Hul.out
    clear hm Hul
    obtain ⟨a5, c5, rfl⟩ := HN3.out.len
    have e5 : (ofN (lvN u)).length = m := by rw [ofN_len, lvN_len]; exact Hm.out.symm
    rw [e5] at HN3 ⊢
    clear e5
    go_wp2_with (fail)
    go_loopw [6, 7] (fun s6 s7 wr => ∃ (i : Nat) (v6 : Value), i ≤ n ∧ v6 = s6 ∧ s7 = .int .i64 (i : Int) ∧ Hid (RowI wr w3.heap.size v6 (ofN ((l.take i).map (lvU u)))) ∧ Hid (Below w3.heap.size w3 wr)) (fun _ s7 _ => n - (intOf s7).toNat)
    case atStart => exact ⟨0, _, Nat.zero_le _, rfl, rfl, RowI.nil _ _, Below.refl _ _⟩
    case round =>
      obtain ⟨i, v6, hi, rfl, rfl, HR, HB⟩ := hrel
      by_cases hlt : i < n
      · have hlt' : i < l.length := by rw [← Hn.out]; exact hlt
        have hlti : (i : Int) < (n : Int) := by omega
        obtain ⟨s, hs⟩ : ∃ s, s = l[i] := ⟨_, rfl⟩
        have Hend : Hid ((l.take i).map (lvU u) ++ hitL u s m = (l.take (i + 1)).map (lvU u)) := by
          show _ = _
          rw [take_at hlt', List.map_append, Hm.out, hitL_all ((HQ.out.2 s).2 (by rw [hs]; exact List.getElem_mem _)), hs]; rfl
        have HI : Hid (s = l[i]) := hs
        clear hs
        have Hpl : Hid (((l.take i).map (lvU u)).length = i) := by show _ = _; rw [List.length_map, List.length_take]; omega
        obtain ⟨P, hP⟩ : ∃ P, P = (l.take i).map (lvU u) := ⟨_, rfl⟩
        rw [← hP] at HR Hend Hpl
        clear hP
        go_wp2_with (fail)
        generalize wr = V1 at *
        go_loopw [6, 8] (fun s6 s8 wr => ∃ (k : Nat) (x6 : Value), k ≤ m ∧ x6 = s6 ∧ s8 = .int .i64 (k : Int) ∧ Hid (RowI wr w3.heap.size x6 (ofN (P ++ hitL u s k))) ∧ Hid (Below w3.heap.size w3 wr)) (fun _ s8 _ => m - (intOf s8).toNat)
        case atStart => exact ⟨0, _, Nat.zero_le _, rfl, rfl, by show RowI _ _ _ _; rw [hitL_zero, List.append_nil]; exact HR.out, HB.out⟩
        case round =>
          obtain ⟨k, x6, hk, rfl, rfl, HR1, HB1⟩ := hrel
          clear HR HB
          by_cases hltk : k < m
          · have hk1 : k < u.length := by rw [← Hm.out]; exact hltk
            have hk2 : k < (lvN u).length := by rw [lvN_len]; exact hk1
            have hltki : (k : Int) < (m : Int) := by omega
            obtain ⟨g, off, ea, c0, c1⟩ := (srcS_at HS3.out).2 HB1.out i hlt'
            subst ea
            obtain ⟨g4, off4, ea4, d0, d1⟩ := (srcS_at HU3.out).2 HB1.out k hk1
            subst ea4
            rw [← HI.out] at c0 c1
            obtain ⟨t, ht⟩ : ∃ t, t = u[k] := ⟨_, rfl⟩
            rw [← ht] at d0 d1
            have Ht : Hid (t = u[k]) := ht
            have he := fun W => eqS_any t s W
            by_cases hts : t = s
            · rw [decide_eq_true hts] at he
              obtain ⟨g5, o5, ea5, f0⟩ := (HN3.out.keep HB1.out).at (k := k) (by rw [ofN_len]; exact hk2)
              subst ea5
              have hy := hitL_yes (ino_nodup HQ.out.1) hk1
              rw [ofN_at, ← lvN_at HQ.out.1 hk1 hk2] at f0
              rw [← ht, hts] at f0 hy
              obtain ⟨x, hx⟩ : ∃ x, x = lvU u s := ⟨_, rfl⟩
              rw [← hx] at f0 hy
              have Hy : Hid (hitL u s k = [] ∧ hitL u s (k + 1) = [x]) := hy
              clear hts hx hy ht
              go_wp2_with (fail)
              go_quiet (fail)
              have HRt : Hid (RowI (wr.drewN nq) w3.heap.size x6 (ofN P)) := by have := HR1.out; rw [Hy.out.1, List.append_nil] at this; exact this
              have HBt : Hid (Below w3.heap.size w3 (wr.drewN nq)) := bel_drewN HB1.out _
              have f0' : (wr.drewN nq).cell? ⟨g5, o5 + k, none⟩ = some (.int .i64 (x : Int)) := f0
              clear HR1 HB1 c0 c1 d0 d1 f0 he
              generalize hWt : wr.drewN nq = Wt at *
              clear hWt
              obtain ⟨W1, hW1⟩ : ∃ W1, W1 = Wt.alloc (.cells #[.int .i64 (x : Int)] 3) := ⟨_, rfl⟩
              have hc1 : Hid (W1.cell? ⟨Wt.heap.size, 0, none⟩ = some (.int .i64 (x : Int))) := by show _ = _; rw [hW1]; exact blk_cell (blk_new Wt _) rfl
              have HR5 : Hid (RowI W1 w3.heap.size x6 (ofN P)) := by show RowI _ _ _ _; rw [hW1]; exact HRt.out.alloc _
              have HB5 : Hid (Below w3.heap.size w3 W1) := by show Below _ _ _; rw [hW1]; exact HBt.out.alloc HBt.out.size _
              have Hlen : Hid ((ofN P).length + 1 ≤ 4294967296) := by show _ ≤ _; rw [ofN_len, Hpl.out]; omega
              clear HRt HBt
              subst hW1
              go_wp2_with (at_builtin; refine wpList_appendI rfl (.tmp 36) (.tmp 41) rfl w3.heap.size _ (ofN P) rfl HR5.out _ _ rfl hc1.out HB5.out.size Hlen.out ?_; intro v7 w7 hr7 hg7)
              have HB7 : Hid (Below w3.heap.size w3 w7) := bel_appendI HB5.out HR5.out hg7 HB5.out.size (Nat.le_refl _)
              have HR7 : Hid (RowI w7 w3.heap.size v7 (ofN (P ++ hitL u s (k + 1)))) := by
                show RowI _ _ _ _
                rw [Hy.out.2]
                have e : ofN (P ++ [x]) = ofN P ++ [(x : Int)] := by simp [ofN]
                rw [e]; exact hr7
              clear hr7 hg7 hc1 HR5 HB5 f0'
              go_roundw
              case rel => exact ⟨k + 1, _, by omega, rfl, by go_num, HR7.out, HB7.out⟩
              case measure => simp [intOf]; omega
            · rw [decide_eq_false hts] at he
              have Hno : Hid (hitL u s (k + 1) = hitL u s k) := hitL_no hk1 (by rw [← ht]; exact hts)
              clear hts ht
              go_wp2_with (fail)
              go_quiet (fail)
              go_wp2_with (fail)
              go_roundw
              case rel => exact ⟨k + 1, _, by omega, rfl, by go_num, by show RowI _ _ _ _; rw [Hno.out]; exact HR1.out, bel_drewN HB1.out _⟩
              case measure => simp [intOf]; omega
          · obtain rfl : k = m := by omega
            have hnk : ¬ (k : Int) < (k : Int) := by omega
            have HR2 : Hid (RowI wr w3.heap.size x6 (ofN ((l.take (i + 1)).map (lvU u)))) := by have := HR1.out; rwa [Hend.out] at this
            go_wp2_with (fail)
            go_roundw
            case rel => exact ⟨i + 1, _, by omega, rfl, by go_num, HR2.out, HB1.out⟩
            case measure => simp [intOf]; omega
      · obtain rfl : i = n := by omega
        have hni : ¬ (i : Int) < (i : Int) := by omega
        have HR2 : Hid (RowI wr w.heap.size v6 (ofN (l.map (lvU u)))) := by have := HR.out.base HB3.out.size; rwa [Hn.out, List.take_length] at this
        have HB2 : Hid (Below w.heap.size w wr) := bel_of HB3.out HB.out HB3.out.size
        go_wp2
        go_ret2
        exact ⟨.inl ⟨Hok.out, _, rfl, u, HQ.out.1, fun a b => HQ.out.2 (a, b), HR2.out⟩, HB2.out⟩
set_option maxRecDepth 20000 in
set_option maxHeartbeats 4000000 in
theorem rDepthC (l : List (Nat × Nat)) (v : Value) (w : World) (hs : SrcS w v l) (hl : l.length ≤ 16777216) :
    Calls Tryz.prog 12 #[v] w fun e w' => ((okS l = true ∧ ∃ u : List (Nat × Nat), InO u ∧ (∀ x, x ∈ u ↔ x ∈ l) ∧ e = .returned (.tuple #[.int .i64 (dep (l.map (lvU u)) : Nat), .int .i64 0])) ∨ (okS l = false ∧ e = .returned (.tuple #[.int .i64 0, .int .i64 30]))) ∧ Below w.heap.size w w' := by
  have hL := rLevelsC l v w hs hl
  clear hs
  go_enter Tryz.func12, Tryz.ntmps12
  go_wp2_with (fail)
  refine hL.mono ?_
  rintro e w1 ⟨hq, hb1⟩
  have HB : Hid (Below w.heap.size w w1) := hb1
  clear hb1 hL
  have key : ∃ (ns : List Nat) (v' : Value) (er : Int), e = .returned (.tuple #[v', .int .i64 er]) ∧ SrcI w1 v' (ofN ns) ∧ ns.length ≤ 4294967296 ∧ (∀ n ∈ ns, n < 4294967296) ∧ ((okS l = true ∧ ∃ u : List (Nat × Nat), InO u ∧ (∀ x, x ∈ u ↔ x ∈ l) ∧ ns = l.map (lvU u) ∧ er = 0) ∨ (okS l = false ∧ ns = [] ∧ er = 30)) := by
    rcases hq with ⟨hok, v', u, rfl, h1, h2, h3⟩ | ⟨hno, rfl⟩
    · have hul : u.length ≤ l.length := List.Nodup.length_le_of_subset (ino_nodup h1) (fun x hx => (h2 x).1 hx)
      exact ⟨_, v', 0, rfl, h3.src, by rw [List.length_map]; omega, (fun n hn => by
        obtain ⟨s, hs, rfl⟩ := List.mem_map.1 hn
        have := lvU_lt ((h2 s).2 hs)
        omega), .inl ⟨hok, u, h1, h2, rfl, rfl⟩⟩
    · exact ⟨[], _, 30, rfl, (RowI.nil w1 0).src, by simp, by simp, .inr ⟨hno, rfl, rfl⟩⟩
  clear hq
  obtain ⟨ns, v', er, rfl, h1, h2, h3, h4⟩ := key
  have HE : Hid _ := h4
  obtain ⟨ad, cap, rfl⟩ := h1.len
  rw [ofN_len] at h1 ⊢
  have HS : Hid (SrcI w1 (.slice ad ns.length cap) (ofN ns)) := h1
  obtain ⟨n, hn⟩ : ∃ n, n = ns.length := ⟨_, rfl⟩
  rw [← hn] at HS h2 ⊢
  have Hn : Hid (n = ns.length) := hn
  have Hb : Hid (∀ n ∈ ns, n < 4294967296) := h3
  clear h1 hn h3 h4 hl
  go_wp2_with (fail)
  go_loopw [6, 7] (fun vm vi wr => ∃ i : Nat, i ≤ n ∧ vm = .int .i64 ((dep (ns.take i) : Nat) : Int) ∧ vi = .int .i64 (i : Int) ∧ wr = w1) (fun _ vi _ => n - (intOf vi).toNat)
  case atStart => exact ⟨0, Nat.zero_le _, rfl, rfl, rfl⟩
  case round =>
    obtain ⟨i, hi, rfl, rfl, rfl⟩ := hrel
    by_cases hlt : i < n
    · have hlt' : i < ns.length := by rw [← Hn.out]; exact hlt
      obtain ⟨g, off, rfl, hc⟩ := HS.out.at (k := i) (by rw [ofN_len]; exact hlt')
      rw [ofN_at] at hc
      have hm := dep_max ns i hlt'
      have hx := Hb.out _ (List.getElem_mem hlt')
      generalize ns[i] = x at hc hm hx
      have hlti : (i : Int) < (n : Int) := by omega
      have Hm : Hid (max (dep (ns.take i) : Int) ((x : Nat) + 1 : Int) = ((dep (ns.take (i + 1)) : Nat) : Int)) := hm
      clear hm
      generalize dep (ns.take i) = D at *
      go_wp2
      go_roundw
      case rel => exact ⟨i + 1, by omega, by rw [← Hm.out], by go_num, trivial⟩
      case measure => simp [intOf]; omega
    · obtain rfl : i = n := by omega
      have hni : ¬ (i : Int) < (i : Int) := by omega
      have e : ns.take i = ns := by rw [Hn.out]; exact List.take_length
      rw [e]
      go_wp2
      go_ret2
      refine ⟨?_, HB.out⟩
      rcases HE.out with ⟨hok, u, h1, h2, rfl, rfl⟩ | ⟨hno, rfl, rfl⟩
      · exact .inl ⟨hok, u, h1, fun a b => h2 (a, b), rfl⟩
      · exact .inr ⟨hno, rfl⟩
end Go.Proofs.YtcjpjofoddpfhaaGreat
