/-
  GgGH: GdT GdX, one behind the other (tools/merge.py).
-/
import Derived.Test.YtgidohnikggjfaaGreatGgGD
import Derived.Test.YtgidohnikggjfaaGreatTbT
import Derived.Test.YtgidohnikggjfaaGreatTbRd
/-
  grid's find: the lists that a header meets.
-/
namespace Go.Proofs.YtgidohnikggjfaaGreat
open Go.RowKit
set_option linter.unusedVariables false
set_option linter.unusedSimpArgs false

def fD (N : List Gn) (h : Hd) : List Nat := wy (N.map Gn.p) h.s 33 1 0
def fB (N : List Gn) (h : Hd) : Nat := blo (N.map Gn.p) (fD N h)
def fA (N : List Gn) (h : Hd) : List Nat := wy (N.map Gn.p) h.d 33 (fB N h) 0
/-- How many nodes find goes through; the lists that it tells. -/
def fndN (N : List Gn) (h : Hd) : Nat := if N.length = 0 then 0 else (fD N h).length + (fA N h).length
def gd (N : List Gn) (i : Nat) : Gn := N.getD i (mk0 pz)
def fndVs (N : List Gn) (h : Hd) : List Value := if N.length = 0 then [] else (fA N h).map fun i => (gd N i).v
theorem gd_at {N : List Gn} {i : Nat} {x : Gn} (h : N[i]? = some x) : gd N i = x := by unfold gd; rw [List.getD_eq_getElem?_getD, h]; rfl
theorem fndN_le (N : List Gn) (h : Hd) : fndN N h ≤ 66 := by
  unfold fndN
  split
  · omega
  · have h1 : (fD N h).length ≤ 33 := wy_len _ _ _ _ _
    have h2 : (fA N h).length ≤ 33 := wy_len _ _ _ _ _
    omega
theorem way_mem {M : List Pn} {a : Nat} {f : Nat → Nat} (h : Way M a f) : ∀ x ∈ wy M a 33 (f 0) 0, (∃ k, k < 33 ∧ x = f k) ∧ x ≠ 0 ∧ x < M.length := by
  intro x hx
  rw [h.wy 33 0 (by decide), h.all] at hx
  obtain ⟨h1, h2⟩ := List.mem_filter.1 hx
  obtain ⟨k, hk, rfl⟩ := List.mem_map.1 h1
  rw [Nat.zero_add] at h2 ⊢
  exact ⟨⟨k, List.mem_range.1 hk, rfl⟩, by simpa using h2, h.lt k⟩
/-- What is known of a forest's ways. -/
theorem plg_ways {l : List Ru} {N : List Gn} {LS : List (List Nat)} (P : Plg l N LS) (hne : l ≠ []) (h : Hd) : ∃ f1 f2 : Nat → Nat, Way (N.map Gn.p) h.s f1 ∧ f1 0 = 1 ∧ Way (N.map Gn.p) h.d f2 ∧ f2 0 = fB N h ∧ N.length ≠ 0 ∧ N.length - 1 ≠ 0 := by
  rcases P with ⟨e, _⟩ | ⟨_, N0, G, S, hs, hS, hj, rfl⟩
  · exact absurd e hne
  · have w1 := way_src hs.gw hs.bk hj h.s
    have w2 := way_dst hs.gw hj h.s h.d
    have hlen : N.length = N0.length := by have := hj.len; rwa [List.length_map] at this
    have h2 : 1 < N0.length := by rw [hs.gw.wf.len]; exact pn_lt hs.gw.r1
    refine ⟨_, _, w1, ?_, w2, ?_, by omega, by omega⟩
    · rw [if_pos (by decide), pth_zero]; exact hs.gw.ix_of hs.gw.r1
    · rw [if_pos (by decide), pth_zero]
      exact (blo_way hs.gw hs.bk hj h.s (fun q => rfl) hs.c0).symm
theorem wpList_appendL {ops : Array Oper} {rest : List Oper} {o : Oper} {a : Act} {w : World} {Q : Exit → Act → World → Prop} (hgd : o.guard = none) (s x : Operand)
    (ho : o.op = .call { callee := .builtin .append, args := #[s, x], argTypes := #[82, 82] })
    (b : Nat) (v : Value) (l : List Value) (hs : a.eval s = v) (h : RowL w b v l) (g : Nat) (y : Value) (hx : a.eval x = .slice (some ⟨g, 0, none⟩) 1 1) (hy : y.oneCell' = true) (hk : w.cell? ⟨g, 0, none⟩ = some y)
    (hb : b ≤ w.heap.size) (hsz : l.length + 1 ≤ 4294967296)
    (hK : ∀ v' w', RowL w' b v' (l ++ [y]) → w.grownBy w' v.ownBlock → wpList Tryz.prog ops Q rest (a.put o.dst v') w') : wpList Tryz.prog ops Q (o :: rest) a w :=
  wpList_plain hgd fun _ hK' => wp_appendL s x ho b v l hs h g y hx hy hk hb hsz fun v' w' h2 h3 _ => hK' _ _ (hK v' w' h2 h3)
theorem blo_step {M : List Pn} {D : List Nat} {i : Nat} (hi : i < D.length) : blo M (D.take (i + 1)) = if (nd M D[i]).c = 0 then blo M (D.take i) else (nd M D[i]).c := by rw [take_at hi, blo_snoc]
theorem RowL.nil (w : World) (b : Nat) : RowL w b (.slice none 0 0) [] := World.ownsRow_nil w b _ _
theorem RowL.base {w : World} {b b' : Nat} {v : Value} {l : List Value} (h : RowL w b v l) (hb : b' ≤ b) : RowL w b' v l := by
  refine ⟨h.1, ?_⟩
  rcases h.2 with h2 | ⟨g, cap, cur, hv, hg, r⟩
  · exact .inl h2
  · exact .inr ⟨g, cap, cur, hv, by omega, r⟩
set_option maxHeartbeats 8000000 in
set_option maxRecDepth 20000 in
theorem findFC (B o : Nat) (nv : Value) (N : List Gn) (LS : List (List Nat)) (l : List Ru) (h : Hd) (w : World) (hF : Fo w B o nv N) (P : Plg l N LS) (oh : OkH h) (hN : N.length ≤ 4200) :
    Calls Tryz.prog 19 #[.pointer (some ⟨B, o, none⟩), .agg #[.int .u32 (h.s : Int), .int .u32 (h.d : Int), .int .u16 (h.p : Int), .int .u16 (h.q : Int), .int .u8 (h.r : Int)]] w fun e w' => ∃ v' : Value, e = .returned (.tuple #[v', .int .i64 (fndN N h : Nat)]) ∧ RowL w' w.heap.size v' (fndVs N h) ∧ Below w.heap.size w w' := by
  have hb0 : Below w.heap.size w (w.alloc (.cells #[.int .u32 (h.s : Int), .int .u32 (h.d : Int), .int .u16 (h.p : Int), .int .u16 (h.q : Int), .int .u8 (h.r : Int)] 28)) := (Below.refl _ _).alloc (Nat.le_refl _) _
  have hS := sizeC B o nv N _ (hF.on hb0) hN
  by_cases hne : l = []
  · have hN0 : N.length = 0 := by
      rcases P with ⟨_, e, _⟩ | ⟨e, _⟩
      · rw [e]; rfl
      · exact absurd hne e
    have Hk : Hid (fndN N h = 0) := if_pos hN0
    have Hp : Hid (fndVs N h = []) := if_pos hN0
    rw [hN0] at hS
    have HB0 : Hid (Below w.heap.size w (w.alloc (.cells #[.int .u32 (h.s : Int), .int .u32 (h.d : Int), .int .u16 (h.p : Int), .int .u16 (h.q : Int), .int .u8 (h.r : Int)] 28))) := hb0
    clear hN0 P hF hb0 hne
    go_enter Tryz.func19, Tryz.ntmps19
    go_wp2_with (go_at_call 23; refine hS.mono ?_; rintro e w4 ⟨rfl, hw4⟩; obtain rfl := hw4.symm; clear hw4)
    go_ret2
    exact ⟨_, by rw [Hk.out]; rfl, by rw [Hp.out]; exact RowL.nil _ _, HB0.out⟩
  · obtain ⟨f1, f2, hw1, hf1, hw2, hf2, hn0, hn1⟩ := plg_ways P hne h
    have Hk : Hid (fndN N h = (fD N h).length + (fA N h).length) := if_neg hn0
    have Hp : Hid (fndVs N h = (fA N h).map fun i => (gd N i).v) := if_neg hn0
    have HF : Hid (Fo w B o nv N) := hF
    have HD : Hid (∀ x ∈ fD N h, x < N.length) := fun x hx => by
      have := (way_mem hw1 x (by rw [hf1]; exact hx)).2.2
      rwa [List.length_map] at this
    have HA : Hid (∀ x ∈ fA N h, x < N.length) := fun x hx => by
      have := (way_mem hw2 x (by rw [hf2]; exact hx)).2.2
      rwa [List.length_map] at this
    have Hb0 : Hid (fB N h = blo (N.map Gn.p) (fD N h)) := rfl
    have hC1 := fun W (hb : Below w.heap.size w W) => pathC B o nv N f1 1 h.s W (HF.out.on hb) hw1 hf1 oh.1 hN
    have hC2 := fun W (hb : Below w.heap.size w W) => pathC B o nv N f2 (fB N h) h.d W (HF.out.on hb) hw2 hf2 oh.2.1 hN
    have HC1 : Hid (∀ W, Below w.heap.size w W → Calls Tryz.prog 37 #[.pointer (some ⟨B, o, none⟩), .int .i64 1, .int .u32 (h.s : Int)] W fun e w' => ∃ v' : Value, e = .returned v' ∧ RowI w' W.heap.size v' (ofN (fD N h)) ∧ Below W.heap.size W w') := hC1
    have HC2 : Hid (∀ W, Below w.heap.size w W → Calls Tryz.prog 37 #[.pointer (some ⟨B, o, none⟩), .int .i64 ((fB N h : Nat) : Int), .int .u32 (h.d : Int)] W fun e w' => ∃ v' : Value, e = .returned v' ∧ RowI w' W.heap.size v' (ofN (fA N h)) ∧ Below W.heap.size W w') := hC2
    have hDl : (fD N h).length ≤ 33 := wy_len _ _ _ _ _
    have hAl : (fA N h).length ≤ 33 := wy_len _ _ _ _ _
    obtain ⟨n, hn⟩ : ∃ n, n = N.length := ⟨_, rfl⟩
    have Hn : Hid (n = N.length) := hn
    have hnb : (n : Int) ≤ 4200 := by omega
    have hsz : ((((N.length - 1 : Nat)) : Int) == 0) = false := by rw [beq_eq_false_iff_ne]; omega
    obtain ⟨ad, cap, hnv, _, _⟩ := hF.nod.form
    rw [← hn] at hnv
    subst hnv
    have HB0 : Hid (Below w.heap.size w (w.alloc (.cells #[.int .u32 (h.s : Int), .int .u32 (h.d : Int), .int .u16 (h.p : Int), .int .u16 (h.q : Int), .int .u8 (h.r : Int)] 28))) := hb0
    have z0 : (w.alloc (.cells #[.int .u32 (h.s : Int), .int .u32 (h.d : Int), .int .u16 (h.p : Int), .int .u16 (h.q : Int), .int .u8 (h.r : Int)] 28)).cell? ⟨w.heap.size, 0, none⟩ = some (.int .u32 (h.s : Int)) := blk_cell (blk_new w _) rfl
    have Hz1 : Hid ((w.alloc (.cells #[.int .u32 (h.s : Int), .int .u32 (h.d : Int), .int .u16 (h.p : Int), .int .u16 (h.q : Int), .int .u8 (h.r : Int)] 28)).cell? ⟨w.heap.size, 1, none⟩ = some (.int .u32 (h.d : Int))) := blk_cell (blk_new w _) rfl
    have HCell : Hid (∀ W, Below w.heap.size w W → ∀ t (ht : t < N.length), ∃ g x, ad = some ⟨g, 0, none⟩ ∧ N[t]? = some x ∧ W.cell? ⟨B, o, none⟩ = some (.slice ad n cap) ∧ W.cell? ⟨g, t * 4 + 2, none⟩ = some (.int .i64 (x.c : Int)) ∧ W.cell? ⟨g, t * 4 + 3, none⟩ = some (.slice x.ad x.n x.cap)) := fun W hb t ht => by
      have hx : N[t]? = some N[t] := List.getElem?_eq_getElem ht
      obtain ⟨g, cap', e, _, _, _, c2, c3, _, _⟩ := (HF.out.on hb).nod.cells hx
      injection e with e1 e2 e3
      exact ⟨g, _, e1, hx, (HF.out.on hb).c0, c2, c3⟩
    clear hn P hne hw1 hf1 hw2 hf2 hn0 hn1 hC1 hC2 hF hb0 hN
    generalize N.length - 1 = sz at *
    go_enter Tryz.func19, Tryz.ntmps19
    go_wp2_with (first | (go_at_call 23; refine hS.mono ?_; rintro e w4 ⟨rfl, hw4⟩; obtain rfl := hw4.symm; clear hw4) | (go_at_call 37; fail))
    refine (HC1.out _ HB0.out).mono ?_
    rintro e w1 ⟨v1, rfl, hr1, hb1⟩
    have HB1 : Hid (Below w.heap.size w w1) := bel_of HB0.out hb1 HB0.out.size
    have HR1 : Hid (SrcI w1 v1 (ofN (fD N h))) := hr1.src
    have Hz2 : Hid (w1.cell? ⟨w.heap.size, 1, none⟩ = some (.int .u32 (h.d : Int))) := cell_on1 hb1 Hz1.out
    obtain ⟨a1, c1, rfl, _⟩ := hr1.form
    rw [ofN_len] at HR1 ⊢
    obtain ⟨D, hD⟩ : ∃ D, D = fD N h := ⟨_, rfl⟩
    rw [← hD] at HR1 hDl HD Hk Hb0 ⊢
    obtain ⟨d, hd⟩ : ∃ d, d = D.length := ⟨_, rfl⟩
    have Hd : Hid (d = D.length) := hd
    rw [← hd] at HR1 hDl Hk ⊢
    clear hr1 hb1 hS z0 hsz hD hd HC1 HB0 Hz1
    go_wp2_with (fail)
    go_loopw [7, 22] (fun vb vi wr => ∃ (i b : Nat), i ≤ d ∧ vb = .int .i64 (b : Int) ∧ vi = .int .i64 (i : Int) ∧ Hid (b = blo (N.map Gn.p) (D.take i)) ∧ wr = w1) (fun _ vi _ => d - (intOf vi).toNat)
    case atStart => exact ⟨0, 0, Nat.zero_le _, rfl, rfl, rfl, rfl⟩
    case round =>
      obtain ⟨i, b, hi, rfl, rfl, HBl, rfl⟩ := hrel
      by_cases hlt : i < d
      · have hlt' : i < D.length := by rw [← Hd.out]; exact hlt
        have hlti : (i : Int) < (d : Int) := by omega
        obtain ⟨gv, ov, rfl, cv⟩ := SrcI.at HR1.out (k := i) (by rw [ofN_len]; exact hlt')
        rw [ofN_at] at cv
        have hst := blo_step (M := N.map Gn.p) hlt'
        have hin := HD.out _ (List.getElem_mem hlt')
        obtain ⟨t, ht⟩ : ∃ t, t = D[i] := ⟨_, rfl⟩
        rw [← ht] at cv hst hin
        obtain ⟨g, x, rfl, hx, f0, c2, _⟩ := HCell.out wr HB1.out t hin
        rw [nd_p hx, ← HBl.out] at hst
        have hti : (t : Int) < (n : Int) := by have := Hn.out; omega
        by_cases hc : x.c = 0
        · have hcb : ((x.c : Int) != 0) = false := by rw [hc]; rfl
          have HBn : Hid (b = blo (N.map Gn.p) (D.take (i + 1))) := by rw [hst]; exact (if_pos hc).symm
          clear hst hc ht hin hx HBl
          go_wp2_with (fail)
          go_roundw
          case rel => exact ⟨i + 1, b, by omega, rfl, by go_num, HBn, trivial⟩
          case measure => simp [intOf]; omega
        · have hcb : ((x.c : Int) != 0) = true := by simpa using hc
          have HBn : Hid (x.c = blo (N.map Gn.p) (D.take (i + 1))) := by rw [hst]; exact (if_neg hc).symm
          clear hst hc ht hin hx HBl
          go_wp2_with (fail)
          go_roundw
          case rel => exact ⟨i + 1, x.c, by omega, rfl, by go_num, HBn, trivial⟩
          case measure => simp [intOf]; omega
      · obtain rfl : i = d := by omega
        have hni : ¬ (i : Int) < (i : Int) := by omega
        have hbf : b = fB N h := by rw [HBl.out, Hb0.out, Hd.out, List.take_length]
        have hP := HC2.out wr HB1.out
        rw [← hbf] at hP
        have z1 := Hz2.out
        clear hbf HBl HC2
        go_wp2_with (go_at_call 37; fail)
        refine hP.mono ?_
        rintro e w2 ⟨v2, rfl, hr2, hb2⟩
        have HB2 : Hid (Below w.heap.size w w2) := bel_of HB1.out hb2 HB1.out.size
        have HR2 : Hid (SrcI w2 v2 (ofN (fA N h))) := hr2.src
        obtain ⟨a2, c2, rfl, _⟩ := hr2.form
        rw [ofN_len] at HR2 ⊢
        obtain ⟨A, hA⟩ : ∃ A, A = fA N h := ⟨_, rfl⟩
        rw [← hA] at HR2 hAl HA Hk Hp ⊢
        obtain ⟨m, hm⟩ : ∃ m, m = A.length := ⟨_, rfl⟩
        have Hm : Hid (m = A.length) := hm
        rw [← hm] at HR2 hAl Hk ⊢
        clear hr2 hb2 hP z1 hA hm Hz2 HR1 HB1
        go_wp2_with (fail)
        go_loopw [4, 51] (fun sv vi wr => ∃ (j : Nat) (vs : Value), j ≤ m ∧ vs = sv ∧ vi = .int .i64 (j : Int) ∧ Hid (RowL wr w2.heap.size vs ((A.take j).map fun i => (gd N i).v)) ∧ Hid (Below w2.heap.size w2 wr)) (fun _ vi _ => m - (intOf vi).toNat)
        case atStart => exact ⟨0, _, Nat.zero_le _, rfl, rfl, RowL.nil _ _, Below.refl _ _⟩
        case round =>
          obtain ⟨j, vs, hj, rfl, rfl, HL, HB⟩ := hrel
          by_cases hltj : j < m
          · have hltj' : j < A.length := by rw [← Hm.out]; exact hltj
            have hltji : (j : Int) < (m : Int) := by omega
            obtain ⟨gv, ov, rfl, cv⟩ := SrcI.at (HR2.out.keep HB.out) (k := j) (by rw [ofN_len]; exact hltj')
            rw [ofN_at] at cv
            have hst : (A.take (j + 1)).map (fun i => (gd N i).v) = ((A.take j).map fun i => (gd N i).v) ++ [(gd N A[j]).v] := by rw [take_at hltj', List.map_append]; rfl
            have hin := HA.out _ (List.getElem_mem hltj')
            obtain ⟨t, ht⟩ : ∃ t, t = A[j] := ⟨_, rfl⟩
            rw [← ht] at cv hst hin
            obtain ⟨g, x, rfl, hx, f0, _, c3⟩ := HCell.out wr (bel_of HB2.out HB.out HB2.out.size) t hin
            rw [gd_at hx] at hst
            have Hst : Hid ((A.take (j + 1)).map (fun i => (gd N i).v) = ((A.take j).map fun i => (gd N i).v) ++ [.slice x.ad x.n x.cap]) := hst
            have hti : (t : Int) < (n : Int) := by have := Hn.out; omega
            have hbW : Below wr.heap.size wr (wr.alloc (.cells #[.slice x.ad x.n x.cap] 74)) := (Below.refl _ _).alloc (Nat.le_refl _) _
            have HLw : Hid (RowL (wr.alloc (.cells #[.slice x.ad x.n x.cap] 74)) w2.heap.size vs ((A.take j).map fun i => (gd N i).v)) := HL.out.on hbW
            have HBw : Hid (Below w2.heap.size w2 (wr.alloc (.cells #[.slice x.ad x.n x.cap] 74))) := HB.out.trans (hbW.mono HB.out.size)
            have Hone : Hid ((wr.alloc (.cells #[.slice x.ad x.n x.cap] 74)).cell? ⟨wr.heap.size, 0, none⟩ = some (.slice x.ad x.n x.cap)) := blk_cell (blk_new wr _) rfl
            have Hln : Hid (((A.take j).map fun i => (gd N i).v).length + 1 ≤ 4294967296) := by show _ ≤ _; rw [List.length_map, List.length_take]; omega
            clear hst ht hin hx hbW HL HB
            go_wp2_with (first | (at_builtin; refine wpList_appendL rfl (.tmp 55) (.tmp 64) rfl w2.heap.size vs _ rfl HLw.out wr.heap.size (.slice x.ad x.n x.cap) rfl rfl Hone.out HBw.out.size Hln.out ?_; intro v6 w6 hr6 hg6))
            have HL6 : Hid (RowL w6 w2.heap.size v6 ((A.take (j + 1)).map fun i => (gd N i).v)) := by rw [Hst.out]; exact hr6
            have HB6 : Hid (Below w2.heap.size w2 w6) := HBw.out.grown hg6 HBw.out.size (fun q hq => (HLw.out.lt q hq).1)
            clear hr6 hg6
            go_roundw
            case rel => exact ⟨j + 1, v6, by omega, rfl, by go_num, HL6, HB6⟩
            case measure => simp [intOf]; omega
          · obtain rfl : j = m := by omega
            have hnj : ¬ (j : Int) < (j : Int) := by omega
            have HLf : Hid (RowL wr w.heap.size vs (fndVs N h)) := by
              have := HL.out
              rw [Hm.out, List.take_length, ← Hp.out] at this
              exact this.base HB2.out.size
            have HBf : Hid (Below w.heap.size w wr) := bel_of HB2.out HB.out HB2.out.size
            clear HL HB
            go_wp2_with (fail)
            go_ret2
            exact ⟨_, by rw [Hk.out]; go_num, HLf.out, HBf.out⟩
end Go.Proofs.YtgidohnikggjfaaGreat
/-
  The stock's first: the first match among the rules at the places in some lists.
-/
namespace Go.Proofs.YtgidohnikggjfaaGreat
open Go.RowKit
set_option linter.unusedVariables false
set_option linter.unusedSimpArgs false

/-- The verdict of the rule at a place; 64: none. -/
def Vd (A : Int) (l : List Ru) (b : Nat) (vb : Bool) (vi va : Int) : Prop := (b = 64 ∧ vb = false ∧ vi = 0 ∧ va = A) ∨ (b ≠ 64 ∧ vb = true ∧ vi = (ruAt l b).i ∧ va = (ruAt l b).act)
def FstOut (A : Int) (l : List Ru) (R : Nat × Nat) (e : Ending) : Prop := ∃ (vb : Bool) (vi va : Int), e = .returned (.tuple #[.agg #[.bool vb, .int .i64 vi, .int .i64 va], .int .i64 ((R.2 : Nat) : Int)]) ∧ Vd A l R.1 vb vi va
theorem fl1_end (l : List Ru) (h : Hd) (m : Nat) : fl1 l h [] m = (m, 0) := rfl
theorem drop_at {α : Type} {L : List α} {j : Nat} (hj : j < L.length) : L.drop j = L[j] :: L.drop (j + 1) := List.drop_eq_getElem_cons hj
theorem vd_at {l : List Ru} {A : Int} {k : Nat} (hk : k < l.length) : vdH (k : Int) = true ∧ vdI l (k : Int) = (ruAt l k).i ∧ vdA A l (k : Int) = (ruAt l k).act := by
  rw [ruAt_at hk]
  exact ⟨by unfold vdH; simp, vdI_at hk, vdA_at hk⟩
theorem flA_step {l : List Ru} {h : Hd} {Ls : List (List Nat)} {i b : Nat} (hi : i < Ls.length) : flA l h (Ls.drop i) b = ((flA l h (Ls.drop (i + 1)) (fl1 l h Ls[i] b).1).1, (fl1 l h Ls[i] b).2 + (flA l h (Ls.drop (i + 1)) (fl1 l h Ls[i] b).1).2) := by
  rw [drop_at hi, flA]
theorem fl1_stop {l : List Ru} {h : Hd} {L : List Nat} {j b : Nat} (hj : j < L.length) (e : b < L[j]) : fl1 l h (L.drop j) b = (b, 0) := by
  rw [drop_at hj, fl1, if_pos e]
theorem fl1_hit {l : List Ru} {h : Hd} {L : List Nat} {j b : Nat} (hj : j < L.length) (e : ¬ b < L[j]) (m : matchR (ruAt l L[j]) h = true) : fl1 l h (L.drop j) b = (L[j], 1) := by
  rw [drop_at hj, fl1, if_neg e, if_pos m]
theorem fl1_no {l : List Ru} {h : Hd} {L : List Nat} {j b : Nat} (hj : j < L.length) (e : ¬ b < L[j]) (m : matchR (ruAt l L[j]) h = false) : fl1 l h (L.drop j) b = ((fl1 l h (L.drop (j + 1)) b).1, (fl1 l h (L.drop (j + 1)) b).2 + 1) := by
  rw [drop_at hj, fl1, if_neg e, if_neg (by rw [m]; simp)]
theorem fl1_done {l : List Ru} {h : Hd} {L : List Nat} {j b : Nat} (hj : L.length ≤ j) : fl1 l h (L.drop j) b = (b, 0) := by
  rw [List.drop_eq_nil_of_le hj]; rfl
theorem RowL.at {w : World} {b : Nat} {v : Value} {l : List Value} (h : RowL w b v l) {k : Nat} {x : Value} (hx : l[k]? = Option.some x) : ∃ g cap, v = .slice (Option.some ⟨g, 0, none⟩) l.length cap ∧ w.cell? ⟨g, k, none⟩ = Option.some x := by
  have hk := pn_lt hx
  obtain ⟨ad, cap, rfl, _, hat⟩ := h.form
  obtain ⟨g, rfl, _, hc⟩ := hat (by omega)
  refine ⟨g, cap, rfl, ?_⟩
  rw [hc k hk, ← hx, List.getElem?_eq_getElem hk]
set_option maxHeartbeats 8000000 in
set_option maxRecDepth 20000 in
theorem firstC (X t : Nat) (v : Value) (M A0 A : Int) (l : List Ru) (h : Hd) (u : Value) (vs : List Value) (Ls : List (List Nat)) (w : World) (c0 : w.cell? ⟨X, 0, none⟩ = some (.pointer (some ⟨t, 0, none⟩))) (c1 : w.cell? ⟨X, 1, none⟩ = some (.int .i64 A)) (hT : Tab w t v M A0 l) (hu : RowL w 0 u vs) (hlen : vs.length = Ls.length) (h33 : Ls.length ≤ 33)
    (hsrc : ∀ (k : Nat) (x : Value) (L : List Nat), vs[k]? = some x → Ls[k]? = some L → SrcI w x (ofN L)) (hin : ∀ L ∈ Ls, (∀ p ∈ L, p < l.length) ∧ L.length ≤ 64) (ok : OkA l) (hl : l.length ≤ 64) (oh : OkH h) :
    Calls Tryz.prog 20 #[.pointer (some ⟨X, 0, none⟩), u, .agg #[.int .u32 (h.s : Int), .int .u32 (h.d : Int), .int .u16 (h.p : Int), .int .u16 (h.q : Int), .int .u8 (h.r : Int)]] w fun e w' => FstOut A l (flA l h Ls 64) e ∧ Below w.heap.size w w' := by
  have HT : Hid (Tab w t v M A0 l) := hT
  have HU : Hid (RowL w 0 u vs) := hu
  have HSr : Hid (∀ (k : Nat) (x : Value) (L : List Nat), vs[k]? = some x → Ls[k]? = some L → SrcI w x (ofN L)) := hsrc
  have Hin : Hid (∀ L ∈ Ls, (∀ p ∈ L, p < l.length) ∧ L.length ≤ 64) := hin
  have Hok : Hid (OkA l) := ok
  have Hl : Hid (l.length ≤ 64) := hl
  have Hc0 : Hid (w.cell? ⟨X, 0, none⟩ = some (.pointer (some ⟨t, 0, none⟩))) := c0
  have Hc1 : Hid (w.cell? ⟨X, 1, none⟩ = some (.int .i64 A)) := c1
  obtain ⟨R, hR⟩ : ∃ R, R = flA l h Ls 64 := ⟨_, rfl⟩
  rw [← hR]
  have HR0 : Hid (R = ((flA l h (Ls.drop 0) 64).1, 0 + (flA l h (Ls.drop 0) 64).2)) := by show R = _; rw [hR, Nat.zero_add]; rfl
  obtain ⟨m, hm⟩ : ∃ m, m = Ls.length := ⟨_, rfl⟩
  have Hm : Hid (m = Ls.length) := hm
  obtain ⟨au, cu, hue, _, _⟩ := hu.form
  rw [hlen, ← hm] at hue
  subst hue
  have Hlen : Hid (vs.length = m) := by show _ = _; rw [hm]; exact hlen
  have hm33 : m ≤ 33 := by omega
  have hXl : X < w.heap.size := World.block_lt_of_cell? w _ c0
  obtain ⟨w0, hw0⟩ : ∃ w0, w0 = ((w.alloc (.cells #[.int .u32 (h.s : Int), .int .u32 (h.d : Int), .int .u16 (h.p : Int), .int .u16 (h.q : Int), .int .u8 (h.r : Int)] 28)).alloc (.cells #[.bool false, .int .i64 0, .int .i64 0] 36)).alloc (.cells #[.bool false, .int .i64 0, .int .i64 A] 36) := ⟨_, rfl⟩
  have HB0 : Hid (Below w.heap.size w w0) := by rw [hw0]; exact (((Below.refl _ _).alloc (Nat.le_refl _) _).alloc (by simp) _).alloc (by simp; omega) _
  have HH0 : Hid (w0.heap[w.heap.size]? = some (.cells #[.int .u32 (h.s : Int), .int .u32 (h.d : Int), .int .u16 (h.p : Int), .int .u16 (h.q : Int), .int .u8 (h.r : Int)] 28 (0, 0))) := by rw [hw0]; exact blk_alloc (blk_alloc (blk_new w _) _) _
  obtain ⟨Bv, hBve⟩ : ∃ Bv, Bv = w.heap.size + 1 := ⟨_, rfl⟩
  obtain ⟨Bw, hBwe⟩ : ∃ Bw, Bw = w.heap.size + 1 + 1 := ⟨_, rfl⟩
  have HV0 : Hid (w0.heap[Bv]? = some (.cells #[.bool false, .int .i64 0, .int .i64 0] 36 (0, 0))) := by
    have := blk_alloc (blk_new (w.alloc (.cells #[.int .u32 (h.s : Int), .int .u32 (h.d : Int), .int .u16 (h.p : Int), .int .u16 (h.q : Int), .int .u8 (h.r : Int)] 28)) (.cells #[.bool false, .int .i64 0, .int .i64 0] 36)) (.cells #[.bool false, .int .i64 0, .int .i64 A] 36)
    rw [← hw0] at this
    show _ = _
    rw [hBve]
    simpa using this
  have HW0 : Hid (w0.heap[Bw]? = some (.cells #[.bool false, .int .i64 0, .int .i64 A] 36 (0, 0))) := by
    have := blk_new ((w.alloc (.cells #[.int .u32 (h.s : Int), .int .u32 (h.d : Int), .int .u16 (h.p : Int), .int .u16 (h.q : Int), .int .u8 (h.r : Int)] 28)).alloc (.cells #[.bool false, .int .i64 0, .int .i64 0] 36)) (.cells #[.bool false, .int .i64 0, .int .i64 A] 36)
    rw [← hw0] at this
    show _ = _
    rw [hBwe]
    simpa using this
  have Hne : Hid (w.heap.size ≠ Bw ∧ Bv ≠ Bw ∧ w.heap.size ≤ Bw ∧ w.heap.size ≤ Bv) := ⟨by omega, by omega, by omega, by omega⟩
  have HBs : Hid (w.heap.size + 1 = Bv) := hBve.symm
  have HWs : Hid (w.heap.size + 1 + 1 = Bw) := hBwe.symm
  have Hw0s : Hid (((w.alloc (.cells #[.int .u32 (h.s : Int), .int .u32 (h.d : Int), .int .u16 (h.p : Int), .int .u16 (h.q : Int), .int .u8 (h.r : Int)] 28)).alloc (.cells #[.bool false, .int .i64 0, .int .i64 0] 36)).alloc (.cells #[.bool false, .int .i64 0, .int .i64 A] 36) = w0) := hw0.symm
  have HV00 : Hid (Vd A l 64 false 0 A) := .inl ⟨rfl, rfl, rfl, rfl⟩
  clear hT hu hsrc hin ok hl hR hm hlen h33 hw0 hBve hBwe c0
  go_enter Tryz.func20, Tryz.ntmps20
  go_wp2_with (fail)
  clear c1
  try simp only [World.size_alloc]
  rw [Hw0s.out]
  simp only [HWs.out]
  simp only [HBs.out]
  go_loopw [9, 10, 24] (fun vh vl vi wr => ∃ (i b c : Nat) (vb : Bool) (vi0 va : Int), i ≤ m ∧ b ≤ 64 ∧ c ≤ i * 64 ∧ vh = .int .i64 (c : Int) ∧ vl = .int .i64 (b : Int) ∧ vi = .int .i64 (i : Int) ∧ Hid (R = ((flA l h (Ls.drop i) b).1, c + (flA l h (Ls.drop i) b).2)) ∧ Hid (Below w.heap.size w wr) ∧ Hid (wr.heap[w.heap.size]? = some (.cells #[.int .u32 (h.s : Int), .int .u32 (h.d : Int), .int .u16 (h.p : Int), .int .u16 (h.q : Int), .int .u8 (h.r : Int)] 28 (0, 0))) ∧ Hid (wr.heap[Bv]? = some (.cells #[.bool false, .int .i64 0, .int .i64 0] 36 (0, 0))) ∧ Hid (wr.heap[Bw]? = some (.cells #[.bool vb, .int .i64 vi0, .int .i64 va] 36 (0, 0))) ∧ Hid (Vd A l b vb vi0 va)) (fun _ _ vi _ => m - (intOf vi).toNat)
  case atStart => exact ⟨0, 64, 0, false, 0, A, Nat.zero_le _, Nat.le_refl _, Nat.zero_le _, rfl, rfl, rfl, HR0, HB0, HH0, HV0, HW0, HV00⟩
  case round =>
    obtain ⟨i, b, c, vb, vi0, va, hi, hb64, hcb, rfl, rfl, rfl, HE, HB, HH, HV, HWw, HVd⟩ := hrel
    by_cases hlt : i < m
    · have hlt' : i < Ls.length := by rw [← Hm.out]; exact hlt
      have hlti : (i : Int) < (m : Int) := by omega
      have hLin := Hin.out _ (List.getElem_mem hlt')
      have hE2 := HE.out
      rw [flA_step hlt'] at hE2
      obtain ⟨L, hL⟩ : ∃ L, L = Ls[i] := ⟨_, rfl⟩
      obtain ⟨xv, hxv⟩ : ∃ xv, vs[i]? = some xv := ⟨vs[i]'(by rw [Hlen.out]; exact hlt), List.getElem?_eq_getElem _⟩
      have hSL := HSr.out i xv L hxv (by rw [hL]; exact List.getElem?_eq_getElem hlt')
      rw [← hL] at hE2 hLin
      obtain ⟨gu, cu', eu, cx⟩ := (HU.out.on HB.out).at hxv
      rw [Hlen.out] at eu
      cases eu
      obtain ⟨al, cl, hxe⟩ := hSL.len
      rw [ofN_len] at hxe
      obtain ⟨q, hq⟩ : ∃ q, q = L.length := ⟨_, rfl⟩
      have Hq : Hid (q = L.length) := hq
      rw [← hq] at hxe hLin
      subst hxe
      have HSL : Hid (SrcI w (.slice al q cl) (ofN L)) := hSL
      have HLin : Hid (∀ p ∈ L, p < l.length) := hLin.1
      have hq64 : q ≤ 64 := hLin.2
      have HE2 : Hid (R = ((flA l h (Ls.drop (i + 1)) (fl1 l h L b).1).1, c + ((fl1 l h L b).2 + (flA l h (Ls.drop (i + 1)) (fl1 l h L b).1).2))) := hE2
      have HF0 : Hid (fl1 l h L b = ((fl1 l h (L.drop 0) b).1, 0 + (fl1 l h (L.drop 0) b).2)) := by show _ = _; rw [Nat.zero_add]; rfl
      clear hE2 hL hxv hSL hq hLin HE
      go_wp2_with (fail)
      clear cx
      go_loopw [9, 10, 30] (fun vh vl vj wr => ∃ j : Nat, j ≤ q ∧ vh = .int .i64 ((c : Int) + (j : Int)) ∧ vl = .int .i64 (b : Int) ∧ vj = .int .i64 (j : Int) ∧ Hid (fl1 l h L b = ((fl1 l h (L.drop j) b).1, j + (fl1 l h (L.drop j) b).2)) ∧ Hid (Below w.heap.size w wr) ∧ Hid (wr.heap[w.heap.size]? = some (.cells #[.int .u32 (h.s : Int), .int .u32 (h.d : Int), .int .u16 (h.p : Int), .int .u16 (h.q : Int), .int .u8 (h.r : Int)] 28 (0, 0))) ∧ Hid (wr.heap[Bv]? = some (.cells #[.bool false, .int .i64 0, .int .i64 0] 36 (0, 0))) ∧ Hid (wr.heap[Bw]? = some (.cells #[.bool vb, .int .i64 vi0, .int .i64 va] 36 (0, 0)))) (fun _ _ vj _ => q - (intOf vj).toNat)
      case atStart => exact ⟨0, Nat.zero_le _, by simp, rfl, rfl, HF0, HB, HH, HV, HWw⟩
      case round =>
        obtain ⟨j, hj, rfl, rfl, rfl, HFj, HBj, HHj, HVj, HWj⟩ := hrel
        by_cases hltj : j < q
        · have hltj' : j < L.length := by rw [← Hq.out]; exact hltj
          have hltji : (j : Int) < (q : Int) := by omega
          obtain ⟨gp, op, rfl, hcp⟩ := SrcI.at (HSL.out.keep HBj.out) (k := j) (by rw [ofN_len]; exact hltj')
          rw [ofN_at] at hcp
          have hpin := HLin.out _ (List.getElem_mem hltj')
          have hs1 := fun e => fl1_stop (l := l) (h := h) (b := b) hltj' e
          have hs2 := fun e e' => fl1_hit (l := l) (h := h) (b := b) hltj' e e'
          have hs3 := fun e e' => fl1_no (l := l) (h := h) (b := b) hltj' e e'
          obtain ⟨pl, hpl⟩ : ∃ pl, pl = L[j] := ⟨_, rfl⟩
          rw [← hpl] at hcp hpin hs1 hs2 hs3
          by_cases hgt : b < pl
          · have hgti : (b : Int) < (pl : Int) := by omega
            have hf := HFj.out
            rw [hs1 hgt] at hf
            have HEn : Hid (R = ((flA l h (Ls.drop (i + 1)) b).1, (c + j) + (flA l h (Ls.drop (i + 1)) b).2)) := by have := HE2.out; rw [hf] at this; show R = _; rw [this]; simp only [Nat.add_zero]; rw [Nat.add_assoc]
            clear hs1 hs2 hs3 hf hpl hgt HFj
            go_wp2_with (fail)
            go_roundw
            case rel => exact ⟨i + 1, b, c + j, vb, vi0, va, by omega, hb64, by omega, by go_num, rfl, by go_num, HEn, HBj, HHj, HVj, HWj, HVd⟩
            case measure => simp [intOf]; omega
          · have hgti : ¬ (b : Int) < (pl : Int) := by omega
            have hbd := Hok.out _ (List.getElem_mem hpin)
            obtain ⟨p, hp⟩ : ∃ p, p = l[pl] := ⟨_, rfl⟩
            have hpr : ruAt l pl = p := by rw [ruAt_at hpin, hp]
            rw [hpr] at hs2 hs3
            rw [← hp] at hbd
            have hA := fun W (hb : Below w.heap.size w W) => at_in t v M A0 l pl W (HT.out.on hb) (Nat.le_trans Hl.out (by decide)) hpin p hp
            have hMt := fun W => matchC p h W hbd.1 oh
            have HVn : Hid (Vd A l pl true p.i p.act) := .inr ⟨by have := Hl.out; omega, rfl, by rw [hpr], by rw [hpr]⟩
            have Hpl64 : Hid (pl ≤ 64) := by have := Hl.out; show _ ≤ _; omega
            have Hhit : Hid (matchR p h = true → fl1 l h (L.drop j) b = (pl, 1)) := fun e => hs2 hgt e
            have Hno : Hid (matchR p h = false → fl1 l h (L.drop j) b = ((fl1 l h (L.drop (j + 1)) b).1, (fl1 l h (L.drop (j + 1)) b).2 + 1)) := fun e => hs3 hgt e
            have hx0 := cell_on1 HBj.out Hc0.out
            clear hs1 hs2 hs3 hpl hgt hp hpr hbd
            go_wp2_with (go_at_call 38; fail)
            refine (hA _ HBj.out).mono ?_
            rintro e w3 ⟨rfl, hb3⟩
            have hb34 : Below wr.heap.size wr (w3.alloc (.cells #[.int .i64 p.i, .int .u32 (p.s : Int), .int .i64 p.sl, .int .u32 (p.d : Int), .int .i64 p.dl, .int .u16 (p.p.1 : Int), .int .u16 (p.p.2 : Int), .int .u16 (p.q.1 : Int), .int .u16 (p.q.2 : Int), .int .u8 (p.m.1 : Int), .int .u8 (p.m.2 : Int), .int .i64 p.act] 64)) := hb3.alloc hb3.size _
            have HX3 : Hid ((w3.alloc (.cells #[.int .i64 p.i, .int .u32 (p.s : Int), .int .i64 p.sl, .int .u32 (p.d : Int), .int .i64 p.dl, .int .u16 (p.p.1 : Int), .int .u16 (p.p.2 : Int), .int .u16 (p.q.1 : Int), .int .u16 (p.q.2 : Int), .int .u8 (p.m.1 : Int), .int .u8 (p.m.2 : Int), .int .i64 p.act] 64)).heap[w3.heap.size]? = some (.cells #[.int .i64 p.i, .int .u32 (p.s : Int), .int .i64 p.sl, .int .u32 (p.d : Int), .int .i64 p.dl, .int .u16 (p.p.1 : Int), .int .u16 (p.p.2 : Int), .int .u16 (p.q.1 : Int), .int .u16 (p.q.2 : Int), .int .u8 (p.m.1 : Int), .int .u8 (p.m.2 : Int), .int .i64 p.act] 64 (0, 0))) := blk_new w3 _
            have HB4 : Hid (Below w.heap.size w (w3.alloc (.cells #[.int .i64 p.i, .int .u32 (p.s : Int), .int .i64 p.sl, .int .u32 (p.d : Int), .int .i64 p.dl, .int .u16 (p.p.1 : Int), .int .u16 (p.p.2 : Int), .int .u16 (p.q.1 : Int), .int .u16 (p.q.2 : Int), .int .u8 (p.m.1 : Int), .int .u8 (p.m.2 : Int), .int .i64 p.act] 64))) := HBj.out.trans (hb34.mono HBj.out.size)
            have HH4 : Hid ((w3.alloc (.cells #[.int .i64 p.i, .int .u32 (p.s : Int), .int .i64 p.sl, .int .u32 (p.d : Int), .int .i64 p.dl, .int .u16 (p.p.1 : Int), .int .u16 (p.p.2 : Int), .int .u16 (p.q.1 : Int), .int .u16 (p.q.2 : Int), .int .u8 (p.m.1 : Int), .int .u8 (p.m.2 : Int), .int .i64 p.act] 64)).heap[w.heap.size]? = some (.cells #[.int .u32 (h.s : Int), .int .u32 (h.d : Int), .int .u16 (h.p : Int), .int .u16 (h.q : Int), .int .u8 (h.r : Int)] 28 (0, 0))) := blk_on HHj.out hb34
            have HV4 : Hid ((w3.alloc (.cells #[.int .i64 p.i, .int .u32 (p.s : Int), .int .i64 p.sl, .int .u32 (p.d : Int), .int .i64 p.dl, .int .u16 (p.p.1 : Int), .int .u16 (p.p.2 : Int), .int .u16 (p.q.1 : Int), .int .u16 (p.q.2 : Int), .int .u8 (p.m.1 : Int), .int .u8 (p.m.2 : Int), .int .i64 p.act] 64)).heap[Bv]? = some (.cells #[.bool false, .int .i64 0, .int .i64 0] 36 (0, 0))) := blk_on HVj.out hb34
            have HW4 : Hid ((w3.alloc (.cells #[.int .i64 p.i, .int .u32 (p.s : Int), .int .i64 p.sl, .int .u32 (p.d : Int), .int .i64 p.dl, .int .u16 (p.p.1 : Int), .int .u16 (p.p.2 : Int), .int .u16 (p.q.1 : Int), .int .u16 (p.q.2 : Int), .int .u8 (p.m.1 : Int), .int .u8 (p.m.2 : Int), .int .i64 p.act] 64)).heap[Bw]? = some (.cells #[.bool vb, .int .i64 vi0, .int .i64 va] 36 (0, 0))) := blk_on HWj.out hb34
            obtain ⟨y0, y1, y2, y3, y4, y5, y6, y7, y8, y9, y10, y11⟩ := blk12 HX3.out
            obtain ⟨z0, z1, z2, z3, z4⟩ := blk5 HH4.out
            clear hb3 hb34 hA hcp hx0
            go_wp2_with (go_at_call 39; fail)
            refine (hMt _).mono ?_
            rintro e w5 ⟨rfl, hb5⟩
            have HB5 : Hid (Below w.heap.size w w5) := HB4.out.trans (hb5.mono HB4.out.size)
            have HX5 : Hid (w5.heap[w3.heap.size]? = some (.cells #[.int .i64 p.i, .int .u32 (p.s : Int), .int .i64 p.sl, .int .u32 (p.d : Int), .int .i64 p.dl, .int .u16 (p.p.1 : Int), .int .u16 (p.p.2 : Int), .int .u16 (p.q.1 : Int), .int .u16 (p.q.2 : Int), .int .u8 (p.m.1 : Int), .int .u8 (p.m.2 : Int), .int .i64 p.act] 64 (0, 0))) := blk_on HX3.out hb5
            have HH5 : Hid (w5.heap[w.heap.size]? = some (.cells #[.int .u32 (h.s : Int), .int .u32 (h.d : Int), .int .u16 (h.p : Int), .int .u16 (h.q : Int), .int .u8 (h.r : Int)] 28 (0, 0))) := blk_on HH4.out hb5
            have HV5 : Hid (w5.heap[Bv]? = some (.cells #[.bool false, .int .i64 0, .int .i64 0] 36 (0, 0))) := blk_on HV4.out hb5
            have HW5 : Hid (w5.heap[Bw]? = some (.cells #[.bool vb, .int .i64 vi0, .int .i64 va] 36 (0, 0))) := blk_on HW4.out hb5
            clear hb5 hMt y0 y1 y2 y3 y4 y5 y6 y7 y8 y9 y10 y11 z0 z1 z2 z3 z4 HX3 HH4 HV4 HW4 HB4 HBj HHj HVj HWj
            cases hmt : matchR p h with
            | false =>
              have HFn : Hid (fl1 l h L b = ((fl1 l h (L.drop (j + 1)) b).1, (j + 1) + (fl1 l h (L.drop (j + 1)) b).2)) := by have := HFj.out; rw [Hno.out hmt] at this; show _ = _; rw [this]; simp only; congr 1; omega
              clear hmt Hno Hhit HFj
              go_wp2_with (fail)
              go_roundw
              case rel => exact ⟨j + 1, by omega, by go_num, rfl, by go_num, HFn, HB5, HH5, HV5, HW5⟩
              case measure => simp [intOf]; omega
            | true =>
              have hf := HFj.out
              rw [Hhit.out hmt] at hf
              have HEn : Hid (R = ((flA l h (Ls.drop (i + 1)) pl).1, (c + (j + 1)) + (flA l h (Ls.drop (i + 1)) pl).2)) := by have := HE2.out; rw [hf] at this; show R = _; rw [this]; exact Prod.ext rfl (by show c + (j + 1 + (flA l h (Ls.drop (i + 1)) pl).2) = c + (j + 1) + (flA l h (Ls.drop (i + 1)) pl).2; omega)
              have y0 : w5.cell? ⟨w3.heap.size, 0, none⟩ = some (.int .i64 p.i) := blk_cell HX5.out rfl
              have y11 : w5.cell? ⟨w3.heap.size, 11, none⟩ = some (.int .i64 p.act) := blk_cell HX5.out rfl
              clear hmt Hno Hhit HFj hf
              go_wp2_with (refine wpList_store_blk rfl 36 (.tmp 8) (.tmp 55) rfl Bw 0 #[.bool true, .int .i64 p.i, .int .i64 p.act] #[.bool true, .int .i64 p.i, .int .i64 p.act] rfl rfl 36 _ HW5.out (Nat.le_of_ble_eq_true rfl) rfl (by kernel_rfl) rfl ?_; intro w8 hw8 how8)
              have HB8 : Hid (Below w.heap.size w w8) := HB5.out.trans (how8.below Hne.out.2.2.1)
              have HH8 : Hid (w8.heap[w.heap.size]? = some (.cells #[.int .u32 (h.s : Int), .int .u32 (h.d : Int), .int .u16 (h.p : Int), .int .u16 (h.q : Int), .int .u8 (h.r : Int)] 28 (0, 0))) := (how8.block _ Hne.out.1).trans HH5.out
              have HV8 : Hid (w8.heap[Bv]? = some (.cells #[.bool false, .int .i64 0, .int .i64 0] 36 (0, 0))) := (how8.block _ Hne.out.2.1).trans HV5.out
              have HW8 : Hid (w8.heap[Bw]? = some (.cells #[.bool true, .int .i64 p.i, .int .i64 p.act] 36 (0, 0))) := hw8
              clear hw8 how8
              go_roundw
              case rel => exact ⟨i + 1, pl, c + (j + 1), true, p.i, p.act, by omega, Hpl64.out, by omega, by go_num, rfl, by go_num, HEn, HB8, HH8, HV8, HW8, HVn⟩
              case measure => simp [intOf]; omega
        · obtain rfl : j = q := by omega
          have hnj : ¬ (j : Int) < (j : Int) := by omega
          have hf := HFj.out
          rw [fl1_done (by rw [← Hq.out]; exact Nat.le_refl _)] at hf
          have HEn : Hid (R = ((flA l h (Ls.drop (i + 1)) b).1, (c + j) + (flA l h (Ls.drop (i + 1)) b).2)) := by have := HE2.out; rw [hf] at this; show R = _; rw [this]; simp only [Nat.add_zero]; rw [Nat.add_assoc]
          clear hf HFj
          go_wp2_with (fail)
          go_roundw
          case rel => exact ⟨i + 1, b, c + j, vb, vi0, va, by omega, hb64, by omega, by go_num, rfl, by go_num, HEn, HBj, HHj, HVj, HWj, HVd⟩
          case measure => simp [intOf]; omega
    · obtain rfl : i = m := by omega
      have hni : ¬ (i : Int) < (i : Int) := by omega
      have hRe : R = (b, c) := by
        rw [HE.out, Hm.out, List.drop_length]; rfl
      have HRe : Hid (R = (b, c)) := hRe
      have v0 : wr.cell? ⟨Bw, 0, none⟩ = some (.bool vb) := blk_cell HWw.out rfl
      have v1 : wr.cell? ⟨Bw, 1, none⟩ = some (.int .i64 vi0) := blk_cell HWw.out rfl
      have v2 : wr.cell? ⟨Bw, 2, none⟩ = some (.int .i64 va) := blk_cell HWw.out rfl
      clear hRe HE
      go_wp2_with (refine wpList_store_blk rfl 36 (.tmp 6) (.tmp 59) rfl Bv 0 #[.bool vb, .int .i64 vi0, .int .i64 va] #[.bool vb, .int .i64 vi0, .int .i64 va] rfl rfl 36 _ HV.out (Nat.le_of_ble_eq_true rfl) rfl (by kernel_rfl) rfl ?_; intro w8 hw8 how8)
      refine bodyPost_ret (results_blk2 Tryz.results20 rfl hw8 Tryz.underlying36 rfl (by kernel_rfl)) rfl ?_
      exact ⟨⟨vb, vi0, va, by rw [HRe.out]; rfl, by rw [HRe.out]; exact HVd.out⟩, HB.out.trans (how8.below Hne.out.2.2.2)⟩
end Go.Proofs.YtgidohnikggjfaaGreat
