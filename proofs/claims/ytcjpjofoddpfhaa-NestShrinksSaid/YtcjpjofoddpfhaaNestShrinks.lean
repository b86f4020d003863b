/-
  The law NestShrinks answers true for every list of rules and every number: a list without one of its rules has no size that is as great, how the rules stand and what Ids and actions they have does not matter, and the document's examples are met (P14.5).
  Conditions: none; the law holds for every input.
-/
import Derived.Test.YtcjpjofoddpfhaaNsSh
import Derived.Test.YtcjpjofoddpfhaaNsRl
import Derived.Test.YtcjpjofoddpfhaaNsFr
namespace Go.Proofs.Ytcjpjofoddpfhaa
open Go.ChangeShapes Go.WideShapes Go.ChangeAt Go.RowKit Go.Joins
set_option linter.unusedVariables false
set_option linter.unusedSimpArgs false

theorem rowU_kept {w w' : World} {b : Nat} {v : Value} {l : List Ru} {r : Option Nat} (h : RowU w b v l) (hg : w.grownBy w' r) (hne : ∀ k, r = some k → v.ownBlock ≠ some k) : RowU w' b v l := World.ownsRow.kept h hg (by
  cases e : v.ownBlock with
  | none => exact .inl rfl
  | some k => exact .inr (fun e2 => hne k e2.symm e))
theorem at_place {x : Int} {n : Nat} (h1 : -9223372036854775808 ≤ x) (h2 : x ≤ 9223372036854775807) (hn : 0 < n) : ∃ a : Nat, a < n ∧ ((x < 0 → Int.tmod (-(x + 1)) (n : Int) = (a : Int)) ∧ (0 ≤ x → Int.tmod x (n : Int) = (a : Int))) := by
  by_cases h : x < 0
  · refine ⟨(Int.tmod (-(x + 1)) (n : Int)).toNat, ?_, fun _ => ?_, fun h' => by omega⟩
    · have e : Int.tmod (-(x + 1)) (n : Int) = (-(x + 1)) % (n : Int) := Int.tmod_eq_emod_of_nonneg (by omega)
      rw [e]
      have := Int.emod_lt_of_pos (-(x + 1)) (by omega : (0 : Int) < (n : Int))
      have := Int.emod_nonneg (-(x + 1)) (by omega : (n : Int) ≠ 0)
      omega
    · have e : Int.tmod (-(x + 1)) (n : Int) = (-(x + 1)) % (n : Int) := Int.tmod_eq_emod_of_nonneg (by omega)
      rw [e]
      have := Int.emod_nonneg (-(x + 1)) (by omega : (n : Int) ≠ 0)
      omega
  · refine ⟨(Int.tmod x (n : Int)).toNat, ?_, fun h' => absurd h' h, fun _ => ?_⟩
    · have e : Int.tmod x (n : Int) = x % (n : Int) := Int.tmod_eq_emod_of_nonneg (by omega)
      rw [e]
      have := Int.emod_lt_of_pos x (by omega : (0 : Int) < (n : Int))
      have := Int.emod_nonneg x (by omega : (n : Int) ≠ 0)
      omega
    · have e : Int.tmod x (n : Int) = x % (n : Int) := Int.tmod_eq_emod_of_nonneg (by omega)
      rw [e]
      have := Int.emod_nonneg x (by omega : (n : Int) ≠ 0)
      omega
set_option maxRecDepth 40000 in
set_option maxHeartbeats 16000000 in
theorem nestShrinks_walk (l : List Ru) (v : Value) (bd : ∀ R ∈ l, BdR R) (x : Int) (hx : I64 x) (w : World) (hs : SrcU w v l) :
    Calls Try.prog 5 #[v, .int .i64 x] w fun e w' => e = .returned (.bool true) ∧ Below w.heap.size w w' := by
  have hL := rlistC l v w hs bd
  have HS : Hid (SrcU w v l) := hs
  have HBd : Hid (∀ R ∈ l, BdR R) := bd
  obtain ⟨ad, cap, rfl, _, _⟩ := hs
  obtain ⟨n, hn⟩ : ∃ n, n = l.length := ⟨_, rfl⟩
  rw [← hn] at HS hL ⊢
  have Hn : Hid (n = l.length) := hn
  clear hn bd
  by_cases h0 : setE l 64 = 0
  · by_cases hn0 : n = 0
    · rw [h0] at hL
      subst hn0
      go_enter Try.func5, Try.ntmps5
      go_wp2_with (fail)
      refine hL.mono ?_
      rintro e w1 ⟨rfl, hb1⟩
      have HB1 : Hid (Below w.heap.size w w1) := hb1
      clear hb1 hL
      go_wp2_with (fail)
      refine (awakeC _).mono ?_
      rintro e w2 ⟨rfl, hb2⟩
      have HB2 : Hid (Below w.heap.size w w2) := bel_of HB1.out hb2 HB1.out.size
      clear hb2
      go_wp2
      go_ret
      exact ⟨rfl, HB2.out⟩
    · have hpos : 0 < n := by omega
      obtain ⟨a, ha, hq1, hq2⟩ := at_place (x := x) hx.1 hx.2 hpos
      have hnz : ((n : Int) == 0) = false := by simp; omega
      have hnz2 : ¬ (n : Int) = 0 := by omega
      rw [h0] at hL
      have H0 : Hid (setE l 64 = 0) := h0
      have hn64 : n ≤ 64 := by rw [Hn.out]; exact (setE_to h0).2.2
      obtain ⟨hx1, hx2⟩ := hx
      clear h0 hn0
      go_enter Try.func5, Try.ntmps5
      go_wp2_with (fail)
      refine hL.mono ?_
      rintro e w1 ⟨rfl, hb1⟩
      have HB1 : Hid (Below w.heap.size w w1) := hb1
      clear hb1 hL
      go_upto_if 38 with (fail)
      go_cut [1] (fun s1 wx => ∃ y : Int, s1 = .int .i64 y ∧ Hid (Int.tmod y (n : Int) = (a : Int) ∧ 0 ≤ y ∧ y ≤ 9223372036854775807) ∧ wx = w1)
      case first =>
        by_cases hxs : x < 0
        · have hw1 : wrap64 (x + 1) = x + 1 := by unfold wrap64; omega
          have hw2 : wrap64 (-(x + 1)) = -(x + 1) := by unfold wrap64; omega
          have hw3 : IntKind.i64.wrap (x + 1) = x + 1 := by rw [IntKind.wrap_i64]; omega
          have hw4 : IntKind.i64.wrap (-(x + 1)) = -(x + 1) := by rw [IntKind.wrap_i64]; omega
          have Hq : Hid (Int.tmod (-(x + 1)) (n : Int) = (a : Int) ∧ 0 ≤ -(x + 1) ∧ -(x + 1) ≤ 9223372036854775807) := ⟨hq1 hxs, by omega, by omega⟩
          clear hq1 hq2
          go_wp2_with (fail)
          go_meet
          case rel => exact ⟨-(x + 1), by simp, Hq.out, rfl⟩
        · have Hq : Hid (Int.tmod x (n : Int) = (a : Int) ∧ 0 ≤ x ∧ x ≤ 9223372036854775807) := ⟨hq2 (by omega), by omega, by omega⟩
          clear hq1 hq2
          go_wp2_with (fail)
          go_meet
          case rel => exact ⟨x, rfl, Hq.out, rfl⟩
      case rest =>
        obtain ⟨y, rfl, HY, rfl⟩ := hcut
        clear hq1 hq2
        obtain ⟨hy1, hy2, hy3⟩ := HY.out
        have hnn : ¬ (n : Int) = -1 := by omega
        go_upto_region 9 with (fail)
        clear hy1 hy2 hy3 HY hnn hnz hnz2
        go_loopw [5, 6, 7] (fun s5 s6 vi wr => ∃ (k : Nat) (v5 v6 : Value), k ≤ n ∧ v5 = s5 ∧ v6 = s6 ∧ vi = .int .i64 (k : Int) ∧ Hid (RowU wr w.heap.size v5 (lsL l a k)) ∧ Hid (RowU wr w.heap.size v6 (bkL l k)) ∧ Hid (∀ q, v5.ownBlock = some q → v6.ownBlock ≠ some q) ∧ Hid (Below w.heap.size w wr)) (fun _ _ vi _ => n - (intOf vi).toNat)
        case atStart => exact ⟨0, _, _, Nat.zero_le _, rfl, rfl, rfl, World.ownsRow_nil _ _ _ _, World.ownsRow_nil _ _ _ _, (fun q hq => by cases hq), HB1.out⟩
        case round =>
          obtain ⟨k, v5, v6, hk, rfl, rfl, rfl, HR5, HR6, HNE, HB⟩ := hrel
          clear HB1
          by_cases hlt : k < n
          · have hlti : (k : Int) < (n : Int) := by omega
            have hlt' : k < l.length := by rw [← Hn.out]; exact hlt
            have hrv : n - 1 - k < l.length := by have := Hn.out; omega
            obtain ⟨g, off, rfl, hrg⟩ := (rngU HS.out).2 wr HB.out k hlt'
            have hst5 := lsL_succ l a k
            have hst6 := bkL_succ l k
            rw [← Hn.out] at hst6
            have hg1 : l.getD k ruZ0 = l[k] := by simp [hlt']
            have hg2 : l.getD (n - 1 - k) ruZ0 = l[n - 1 - k] := by simp [hrv]
            rw [hg1] at hst5
            rw [hg2] at hst6
            obtain ⟨p, hp⟩ : ∃ p, p = l[k] := ⟨_, rfl⟩
            obtain ⟨q, hq⟩ : ∃ q, q = l[n - 1 - k] := ⟨_, rfl⟩
            rw [← hp] at hst5 hrg
            rw [← hq] at hst6
            have Hq : Hid (q = l[n - 1 - k]) := hq
            have Hst5 : Hid (lsL l a (k + 1) = if k = a then lsL l a k else lsL l a k ++ [p]) := hst5
            have Hst6 : Hid (bkL l (k + 1) = bkL l k ++ [rn q k]) := hst6
            have Hl5 : Hid ((lsL l a k).length ≤ 64) := by
              show (lsL l a k).length ≤ 64
              unfold lsL; rw [List.length_map]; exact Nat.le_trans (List.length_filter_le _ _) (by rw [List.length_range]; omega)
            have Hl6 : Hid ((bkL l k).length ≤ 64) := by show (bkL l k).length ≤ 64; unfold bkL; rw [List.length_map, List.length_range]; omega
            have x0 : wr.cell? ⟨g, off + k * 12, none⟩ = some (.int .i64 p.i) := hrg 0 _ rfl
            have x1 : wr.cell? ⟨g, off + k * 12 + 1, none⟩ = some (.int .u32 (p.s : Int)) := hrg 1 _ rfl
            have x2 : wr.cell? ⟨g, off + k * 12 + 2, none⟩ = some (.int .i64 p.sl) := hrg 2 _ rfl
            have x3 : wr.cell? ⟨g, off + k * 12 + 3, none⟩ = some (.int .u32 (p.d : Int)) := hrg 3 _ rfl
            have x4 : wr.cell? ⟨g, off + k * 12 + 4, none⟩ = some (.int .i64 p.dl) := hrg 4 _ rfl
            have x5 : wr.cell? ⟨g, off + k * 12 + 5, none⟩ = some (.int .u16 (p.p.1 : Int)) := hrg 5 _ rfl
            have x6 : wr.cell? ⟨g, off + k * 12 + 6, none⟩ = some (.int .u16 (p.p.2 : Int)) := hrg 6 _ rfl
            have x7 : wr.cell? ⟨g, off + k * 12 + 7, none⟩ = some (.int .u16 (p.q.1 : Int)) := hrg 7 _ rfl
            have x8 : wr.cell? ⟨g, off + k * 12 + 8, none⟩ = some (.int .u16 (p.q.2 : Int)) := hrg 8 _ rfl
            have x9 : wr.cell? ⟨g, off + k * 12 + 9, none⟩ = some (.int .u8 (p.m.1 : Int)) := hrg 9 _ rfl
            have x10 : wr.cell? ⟨g, off + k * 12 + 10, none⟩ = some (.int .u8 (p.m.2 : Int)) := hrg 10 _ rfl
            have x11 : wr.cell? ⟨g, off + k * 12 + 11, none⟩ = some (.int .i64 p.act) := hrg 11 _ rfl
            have hrvi : (0 : Int) ≤ (n : Int) - 1 - (k : Int) := by omega
            have hrvi2 : (n : Int) - 1 - (k : Int) < (n : Int) := by omega
            have hrvn : ((n : Int) - 1 - (k : Int)).toNat = n - 1 - k := by omega
            have hr1 : wrap64 ((n : Int) - 1) = (n : Int) - 1 := by unfold wrap64; omega
            have hr2 : wrap64 ((n : Int) - 1 - (k : Int)) = (n : Int) - 1 - (k : Int) := by unfold wrap64; omega
            clear hst5 hst6 hg1 hg2 hp hq hrg
            go_upto_if 54 with (fail)
            go_cut [5] from 46 to 77 (fun s5 wx => ∃ v5' : Value, v5' = s5 ∧ Hid (RowU wx w.heap.size v5' (lsL l a (k + 1))) ∧ Hid (RowU wx w.heap.size v6 (bkL l k)) ∧ Hid (∀ q, v5'.ownBlock = some q → v6.ownBlock ≠ some q) ∧ Hid (Below w.heap.size w wx))
            case first =>
              by_cases hka : k = a
              · have hkai : (k : Int) = (a : Int) := by omega
                have hkab : ((k : Int) != (a : Int)) = false := by simpa using hkai
                have HE : Hid (lsL l a (k + 1) = lsL l a k) := by show _ = _; rw [Hst5.out, if_pos hka]
                clear hka hkai
                go_wp2_with (fail)
                go_meet
                case rel => exact ⟨_, rfl, by rw [HE.out]; exact HR5.out, HR6.out, HNE.out, HB.out⟩
              · have hkai : ¬ (k : Int) = (a : Int) := by omega
                have hkab : ((k : Int) != (a : Int)) = true := by simpa using hkai
                have HE : Hid (lsL l a (k + 1) = lsL l a k ++ [p]) := by show _ = _; rw [Hst5.out, if_neg hka]
                have hone : Hid (SrcU (wr.alloc (.cells #[.int .i64 p.i, .int .u32 (p.s : Int), .int .i64 p.sl, .int .u32 (p.d : Int), .int .i64 p.dl, .int .u16 (p.p.1 : Int), .int .u16 (p.p.2 : Int), .int .u16 (p.q.1 : Int), .int .u16 (p.q.2 : Int), .int .u8 (p.m.1 : Int), .int .u8 (p.m.2 : Int), .int .i64 p.act] 45)) (.slice (some ⟨wr.heap.size, 0, none⟩) 1 1) [p]) := RowU.src (RowU.one wr 0 p (Nat.zero_le _))
                have hR5' : Hid (RowU (wr.alloc (.cells #[.int .i64 p.i, .int .u32 (p.s : Int), .int .i64 p.sl, .int .u32 (p.d : Int), .int .i64 p.dl, .int .u16 (p.p.1 : Int), .int .u16 (p.p.2 : Int), .int .u16 (p.q.1 : Int), .int .u16 (p.q.2 : Int), .int .u8 (p.m.1 : Int), .int .u8 (p.m.2 : Int), .int .i64 p.act] 45)) w.heap.size v5 (lsL l a k)) := HR5.out.alloc _
                have hR6' : Hid (RowU (wr.alloc (.cells #[.int .i64 p.i, .int .u32 (p.s : Int), .int .i64 p.sl, .int .u32 (p.d : Int), .int .i64 p.dl, .int .u16 (p.p.1 : Int), .int .u16 (p.p.2 : Int), .int .u16 (p.q.1 : Int), .int .u16 (p.q.2 : Int), .int .u8 (p.m.1 : Int), .int .u8 (p.m.2 : Int), .int .i64 p.act] 45)) w.heap.size v6 (bkL l k)) := HR6.out.alloc _
                have hB' : Hid (Below w.heap.size w (wr.alloc (.cells #[.int .i64 p.i, .int .u32 (p.s : Int), .int .i64 p.sl, .int .u32 (p.d : Int), .int .i64 p.dl, .int .u16 (p.p.1 : Int), .int .u16 (p.p.2 : Int), .int .u16 (p.q.1 : Int), .int .u16 (p.q.2 : Int), .int .u8 (p.m.1 : Int), .int .u8 (p.m.2 : Int), .int .i64 p.act] 45))) := HB.out.alloc HB.out.size _
                have Hlen : Hid ((lsL l a k).length + [p].length ≤ 4294967296) := by show (lsL l a k).length + 1 ≤ 4294967296; have := Hl5.out; omega
                clear hka
                go_wp2_with (at_builtin; refine wpList_appendSU rfl (.tmp 55) (.tmp 60) rfl w.heap.size v5 _ rfl hR5'.out _ [p] rfl hone.out hB'.out.size Hlen.out ?_; intro v7 w7 hr7 hg7 hat7)
                have hne7 : ∀ q, v7.ownBlock = some q → v6.ownBlock ≠ some q := fun q hq e => by
                  rcases hat7 with h | h
                  · exact HNE.out q (h ▸ hq) e
                  · rw [h] at hq; injection hq with hq
                    have := (hR6'.out.lt q e).2; omega
                have HR7 : Hid (RowU w7 w.heap.size v7 (lsL l a (k + 1))) := by rw [HE.out]; exact hr7
                have HR67 : Hid (RowU w7 w.heap.size v6 (bkL l k)) := rowU_kept hR6'.out hg7 (fun q hq e => HNE.out q hq e)
                have HB7 : Hid (Below w.heap.size w w7) := hB'.out.grown hg7 hB'.out.size (fun q hq => (hR5'.out.lt q hq).1)
                have HNE7 : Hid (∀ q, v7.ownBlock = some q → v6.ownBlock ≠ some q) := hne7
                clear hr7 hg7 hat7 hne7
                go_meet
                case rel => exact ⟨_, rfl, HR7.out, HR67.out, HNE7.out, HB7.out⟩
            case rest =>
              obtain ⟨v7, rfl, HR7, HR67, HNE7, HB7⟩ := hcut
              clear HR5 HR6 HNE HB Hst5 Hl5 x0 x1 x2 x3 x4 x5 x6 x7 x8 x9 x10 x11
              obtain ⟨g', off', e', hrq⟩ := (rngU HS.out).2 wc HB7.out (n - 1 - k) hrv
              injection e' with e'
              injection e' with e1 e2
              subst e1 e2
              rw [← Hq.out] at hrq
              have y0 : wc.cell? ⟨g, off + (n - 1 - k) * 12, none⟩ = some (.int .i64 q.i) := hrq 0 _ rfl
              have y1 : wc.cell? ⟨g, off + (n - 1 - k) * 12 + 1, none⟩ = some (.int .u32 (q.s : Int)) := hrq 1 _ rfl
              have y2 : wc.cell? ⟨g, off + (n - 1 - k) * 12 + 2, none⟩ = some (.int .i64 q.sl) := hrq 2 _ rfl
              have y3 : wc.cell? ⟨g, off + (n - 1 - k) * 12 + 3, none⟩ = some (.int .u32 (q.d : Int)) := hrq 3 _ rfl
              have y4 : wc.cell? ⟨g, off + (n - 1 - k) * 12 + 4, none⟩ = some (.int .i64 q.dl) := hrq 4 _ rfl
              have y5 : wc.cell? ⟨g, off + (n - 1 - k) * 12 + 5, none⟩ = some (.int .u16 (q.p.1 : Int)) := hrq 5 _ rfl
              have y6 : wc.cell? ⟨g, off + (n - 1 - k) * 12 + 6, none⟩ = some (.int .u16 (q.p.2 : Int)) := hrq 6 _ rfl
              have y7 : wc.cell? ⟨g, off + (n - 1 - k) * 12 + 7, none⟩ = some (.int .u16 (q.q.1 : Int)) := hrq 7 _ rfl
              have y8 : wc.cell? ⟨g, off + (n - 1 - k) * 12 + 8, none⟩ = some (.int .u16 (q.q.2 : Int)) := hrq 8 _ rfl
              have y9 : wc.cell? ⟨g, off + (n - 1 - k) * 12 + 9, none⟩ = some (.int .u8 (q.m.1 : Int)) := hrq 9 _ rfl
              have y10 : wc.cell? ⟨g, off + (n - 1 - k) * 12 + 10, none⟩ = some (.int .u8 (q.m.2 : Int)) := hrq 10 _ rfl
              have y11 : wc.cell? ⟨g, off + (n - 1 - k) * 12 + 11, none⟩ = some (.int .i64 q.act) := hrq 11 _ rfl
              clear hrq
              generalize n - 1 - k = rk at *
              have hC8 : Hid (SrcU ((wc.alloc (.cells #[.int .i64 ((k : Int) + 1), .int .u32 (q.s : Int), .int .i64 q.sl, .int .u32 (q.d : Int), .int .i64 q.dl, .int .u16 (q.p.1 : Int), .int .u16 (q.p.2 : Int), .int .u16 (q.q.1 : Int), .int .u16 (q.q.2 : Int), .int .u8 (q.m.1 : Int), .int .u8 (q.m.2 : Int), .int .i64 4] 45)).alloc (.cells #[.int .i64 ((k : Int) + 1), .int .u32 (q.s : Int), .int .i64 q.sl, .int .u32 (q.d : Int), .int .i64 q.dl, .int .u16 (q.p.1 : Int), .int .u16 (q.p.2 : Int), .int .u16 (q.q.1 : Int), .int .u16 (q.q.2 : Int), .int .u8 (q.m.1 : Int), .int .u8 (q.m.2 : Int), .int .i64 4] 45)) (.slice (some ⟨wc.heap.size + 1, 0, none⟩) 1 1) [rn q k]) := by
                have := RowU.src (RowU.one (wc.alloc (.cells #[.int .i64 ((k : Int) + 1), .int .u32 (q.s : Int), .int .i64 q.sl, .int .u32 (q.d : Int), .int .i64 q.dl, .int .u16 (q.p.1 : Int), .int .u16 (q.p.2 : Int), .int .u16 (q.q.1 : Int), .int .u16 (q.q.2 : Int), .int .u8 (q.m.1 : Int), .int .u8 (q.m.2 : Int), .int .i64 4] 45)) 0 (rn q k) (Nat.zero_le _))
                rw [show (wc.alloc (.cells #[.int .i64 ((k : Int) + 1), .int .u32 (q.s : Int), .int .i64 q.sl, .int .u32 (q.d : Int), .int .i64 q.dl, .int .u16 (q.p.1 : Int), .int .u16 (q.p.2 : Int), .int .u16 (q.q.1 : Int), .int .u16 (q.q.2 : Int), .int .u8 (q.m.1 : Int), .int .u8 (q.m.2 : Int), .int .i64 4] 45)).heap.size = wc.heap.size + 1 by simp] at this
                have e1 : (((k + 1 : Nat) : Int)) = (k : Int) + 1 := by omega
                simp only [rn, e1] at this
                exact this
              have hR6' : Hid (RowU ((wc.alloc (.cells #[.int .i64 ((k : Int) + 1), .int .u32 (q.s : Int), .int .i64 q.sl, .int .u32 (q.d : Int), .int .i64 q.dl, .int .u16 (q.p.1 : Int), .int .u16 (q.p.2 : Int), .int .u16 (q.q.1 : Int), .int .u16 (q.q.2 : Int), .int .u8 (q.m.1 : Int), .int .u8 (q.m.2 : Int), .int .i64 4] 45)).alloc (.cells #[.int .i64 ((k : Int) + 1), .int .u32 (q.s : Int), .int .i64 q.sl, .int .u32 (q.d : Int), .int .i64 q.dl, .int .u16 (q.p.1 : Int), .int .u16 (q.p.2 : Int), .int .u16 (q.q.1 : Int), .int .u16 (q.q.2 : Int), .int .u8 (q.m.1 : Int), .int .u8 (q.m.2 : Int), .int .i64 4] 45)) w.heap.size v6 (bkL l k)) := (HR67.out.alloc _).alloc _
              have hR5' : Hid (RowU ((wc.alloc (.cells #[.int .i64 ((k : Int) + 1), .int .u32 (q.s : Int), .int .i64 q.sl, .int .u32 (q.d : Int), .int .i64 q.dl, .int .u16 (q.p.1 : Int), .int .u16 (q.p.2 : Int), .int .u16 (q.q.1 : Int), .int .u16 (q.q.2 : Int), .int .u8 (q.m.1 : Int), .int .u8 (q.m.2 : Int), .int .i64 4] 45)).alloc (.cells #[.int .i64 ((k : Int) + 1), .int .u32 (q.s : Int), .int .i64 q.sl, .int .u32 (q.d : Int), .int .i64 q.dl, .int .u16 (q.p.1 : Int), .int .u16 (q.p.2 : Int), .int .u16 (q.q.1 : Int), .int .u16 (q.q.2 : Int), .int .u8 (q.m.1 : Int), .int .u8 (q.m.2 : Int), .int .i64 4] 45)) w.heap.size v7 (lsL l a (k + 1))) := (HR7.out.alloc _).alloc _
              have hB' : Hid (Below w.heap.size w ((wc.alloc (.cells #[.int .i64 ((k : Int) + 1), .int .u32 (q.s : Int), .int .i64 q.sl, .int .u32 (q.d : Int), .int .i64 q.dl, .int .u16 (q.p.1 : Int), .int .u16 (q.p.2 : Int), .int .u16 (q.q.1 : Int), .int .u16 (q.q.2 : Int), .int .u8 (q.m.1 : Int), .int .u8 (q.m.2 : Int), .int .i64 4] 45)).alloc (.cells #[.int .i64 ((k : Int) + 1), .int .u32 (q.s : Int), .int .i64 q.sl, .int .u32 (q.d : Int), .int .i64 q.dl, .int .u16 (q.p.1 : Int), .int .u16 (q.p.2 : Int), .int .u16 (q.q.1 : Int), .int .u16 (q.q.2 : Int), .int .u8 (q.m.1 : Int), .int .u8 (q.m.2 : Int), .int .i64 4] 45))) := (HB7.out.alloc HB7.out.size _).alloc (by have := HB7.out.size; simp; omega) _
              have Hlen : Hid ((bkL l k).length + [rn q k].length ≤ 4294967296) := by show (bkL l k).length + 1 ≤ 4294967296; have := Hl6.out; omega
              clear HR7 HR67 HB7
              go_wp2_with (at_builtin; refine wpList_appendSU rfl (.tmp 74) (.tmp 76) rfl w.heap.size v6 _ rfl hR6'.out _ [rn q k] rfl hC8.out hB'.out.size Hlen.out ?_; intro v8 w8 hr8 hg8 hat8)
              have HR8 : Hid (RowU w8 w.heap.size v8 (bkL l (k + 1))) := by rw [Hst6.out]; exact hr8
              have HR78 : Hid (RowU w8 w.heap.size v7 (lsL l a (k + 1))) := rowU_kept hR5'.out hg8 (fun z hz e => HNE7.out z e hz)
              have HNE8 : Hid (∀ z, v7.ownBlock = some z → v8.ownBlock ≠ some z) := fun z hz e => by
                rcases hat8 with h | h
                · exact HNE7.out z hz (h ▸ e)
                · rw [h] at e; injection e with e
                  have := (hR5'.out.lt z hz).2; omega
              have HB8 : Hid (Below w.heap.size w w8) := hB'.out.grown hg8 hB'.out.size (fun z hz => (hR6'.out.lt z hz).1)
              clear hr8 hg8 hat8
              go_roundw
              case rel => exact ⟨k + 1, _, _, by omega, rfl, rfl, by go_num, HR78.out, HR8.out, HNE8.out, HB8.out⟩
              case measure => simp [intOf]; omega
          · obtain rfl : k = n := by omega
            have hni : ¬ (k : Int) < (k : Int) := by omega
            have haL : a < l.length := by rw [← Hn.out]; exact ha
            obtain ⟨q1, q2, q3, q4, q5, q6, q7, q8, q9⟩ := shrinks haL H0.out HBd.out
            have HA1 : Hid (setE (lsL l a l.length) 64 = 0) := lsL_ok haL H0.out
            have HA2 : Hid (setE (bkL l l.length) 64 = 0) := bkL_ok H0.out
            have HA3 : Hid (∀ R ∈ lsL l a l.length, BdR R) := fun R hR => HBd.out R ((lsL_sub haL).subset hR)
            have HA4 : Hid (∀ R ∈ bkL l l.length, BdR R) := bkL_bd HBd.out (by rw [← Hn.out]; exact hn64)
            have HA5 : Hid ((lsL l a l.length).length ≤ 16777216) := by show (lsL l a l.length).length ≤ 16777216; have := (lsL_sub haL).length_le; have := Hn.out; omega
            have HA6 : Hid ((bkL l l.length).length ≤ 16777216) := by show (bkL l l.length).length ≤ 16777216; unfold bkL; rw [List.length_map, List.length_range, ← Hn.out]; omega
            have HA7 : Hid (l.length ≤ 16777216) := by show l.length ≤ 16777216; rw [← Hn.out]; omega
            have S0 : Hid (SrcU wr (.slice ad k cap) l) := HS.out.keep HB.out
            have S5 : Hid (SrcU wr v5 (lsL l a l.length)) := by have := HR5.out.src; rw [← Hn.out]; exact this
            have S6 : Hid (SrcU wr v6 (bkL l l.length)) := by have := HR6.out.src; rw [← Hn.out]; exact this
            rw [← Hn.out] at q7 q8
            have hk9 : ∀ W, SrcU W (.slice ad k cap) l → Calls Try.prog 12 #[.slice ad k cap] W fun e w' => e = .returned (.tuple #[.int .i64 (prnL l : Nat), .int .i64 0]) ∧ Below W.heap.size W w' := fun W h => by have := pruneC l _ W h HA7.out HBd.out; rwa [H0.out] at this
            have hk10 : ∀ W, SrcU W (.slice ad k cap) l → Calls Try.prog 13 #[.slice ad k cap] W fun e w' => e = .returned (.tuple #[.int .i64 (grdL l : Nat), .int .i64 0]) ∧ Below W.heap.size W w' := fun W h => by have := gridC l _ W h HA7.out HBd.out; rwa [H0.out] at this
            have hk11 : ∀ W, SrcU W (.slice ad k cap) l → Calls Try.prog 14 #[.slice ad k cap] W fun e w' => e = .returned (.tuple #[.int .i64 (tupL l : Nat), .int .i64 0]) ∧ Below W.heap.size W w' := fun W h => by have := tupleC l _ W h HA7.out HBd.out; rwa [H0.out] at this
            have hk12 : ∀ W, SrcU W v5 (lsL l a l.length) → Calls Try.prog 12 #[v5] W fun e w' => e = .returned (.tuple #[.int .i64 (prnL (lsL l a l.length) : Nat), .int .i64 0]) ∧ Below W.heap.size W w' := fun W h => by have := pruneC _ _ W h HA5.out HA3.out; rwa [HA1.out] at this
            have hk13 : ∀ W, SrcU W v5 (lsL l a l.length) → Calls Try.prog 13 #[v5] W fun e w' => e = .returned (.tuple #[.int .i64 (grdL (lsL l a l.length) : Nat), .int .i64 0]) ∧ Below W.heap.size W w' := fun W h => by have := gridC _ _ W h HA5.out HA3.out; rwa [HA1.out] at this
            have hk14 : ∀ W, SrcU W v5 (lsL l a l.length) → Calls Try.prog 14 #[v5] W fun e w' => e = .returned (.tuple #[.int .i64 (tupL (lsL l a l.length) : Nat), .int .i64 0]) ∧ Below W.heap.size W w' := fun W h => by have := tupleC _ _ W h HA5.out HA3.out; rwa [HA1.out] at this
            have hk15 : ∀ W, SrcU W v6 (bkL l l.length) → Calls Try.prog 12 #[v6] W fun e w' => e = .returned (.tuple #[.int .i64 (prnL l : Nat), .int .i64 0]) ∧ Below W.heap.size W w' := fun W h => by have := pruneC _ _ W h HA6.out HA4.out; rwa [HA2.out, q4] at this
            have hk16 : ∀ W, SrcU W v6 (bkL l l.length) → Calls Try.prog 13 #[v6] W fun e w' => e = .returned (.tuple #[.int .i64 (grdL l : Nat), .int .i64 0]) ∧ Below W.heap.size W w' := fun W h => by have := gridC _ _ W h HA6.out HA4.out; rwa [HA2.out, q5] at this
            have hk17 : ∀ W, SrcU W v6 (bkL l l.length) → Calls Try.prog 14 #[v6] W fun e w' => e = .returned (.tuple #[.int .i64 (tupL l : Nat), .int .i64 0]) ∧ Below W.heap.size W w' := fun W h => by have := tupleC _ _ W h HA6.out HA4.out; rwa [HA2.out, q6] at this
            have K9 : Hid _ := hk9
            have K10 : Hid _ := hk10
            have K11 : Hid _ := hk11
            have K12 : Hid _ := hk12
            have K13 : Hid _ := hk13
            have K14 : Hid _ := hk14
            have K15 : Hid _ := hk15
            have K16 : Hid _ := hk16
            have K17 : Hid _ := hk17
            clear hk9 hk10 hk11 hk12 hk13 hk14 hk15 hk16 hk17 q4 q5 q6 HR5 HR6 HNE
            generalize prnL (lsL l a l.length) = P1 at *
            generalize grdL (lsL l a l.length) = G1 at *
            generalize tupL (lsL l a l.length) = T1 at *
            generalize prnL l = P0 at *
            generalize grdL l = G0 at *
            generalize tupL l = T0 at *
            have i1 : (P1 : Int) < (P0 : Int) := by omega
            have i2 : (G1 : Int) < (G0 : Int) := by omega
            have i3 : (T1 : Int) < (T0 : Int) := by omega
            have i7 : (k : Int) ≤ (G0 : Int) := by omega
            have i8 : (k : Int) ≤ (T0 : Int) := by omega
            have i9 : (G0 : Int) ≤ (P0 : Int) := by omega
            clear q1 q2 q3 q7 q8 q9
            go_wp2_with (fail)
            refine (K9.out _ S0.out).mono ?_
            rintro e wk0 ⟨rfl, hb⟩
            have Sa0 : Hid (SrcU wk0 (.slice ad k cap) l) := S0.out.keep hb
            have Sb0 : Hid (SrcU wk0 v5 (lsL l a l.length)) := S5.out.keep hb
            have Sc0 : Hid (SrcU wk0 v6 (bkL l l.length)) := S6.out.keep hb
            have HBk0 : Hid (Below w.heap.size w wk0) := bel_of HB.out hb HB.out.size
            clear hb S0 S5 S6 HB K9
            go_wp2_with (fail)
            refine (K10.out _ Sa0.out).mono ?_
            rintro e wk1 ⟨rfl, hb⟩
            have Sa1 : Hid (SrcU wk1 (.slice ad k cap) l) := Sa0.out.keep hb
            have Sb1 : Hid (SrcU wk1 v5 (lsL l a l.length)) := Sb0.out.keep hb
            have Sc1 : Hid (SrcU wk1 v6 (bkL l l.length)) := Sc0.out.keep hb
            have HBk1 : Hid (Below w.heap.size w wk1) := bel_of HBk0.out hb HBk0.out.size
            clear hb Sa0 Sb0 Sc0 HBk0 K10
            go_wp2_with (fail)
            refine (K11.out _ Sa1.out).mono ?_
            rintro e wk2 ⟨rfl, hb⟩
            have Sa2 : Hid (SrcU wk2 (.slice ad k cap) l) := Sa1.out.keep hb
            have Sb2 : Hid (SrcU wk2 v5 (lsL l a l.length)) := Sb1.out.keep hb
            have Sc2 : Hid (SrcU wk2 v6 (bkL l l.length)) := Sc1.out.keep hb
            have HBk2 : Hid (Below w.heap.size w wk2) := bel_of HBk1.out hb HBk1.out.size
            clear hb Sa1 Sb1 Sc1 HBk1 K11
            go_wp2_with (fail)
            refine (K12.out _ Sb2.out).mono ?_
            rintro e wk3 ⟨rfl, hb⟩
            have Sa3 : Hid (SrcU wk3 (.slice ad k cap) l) := Sa2.out.keep hb
            have Sb3 : Hid (SrcU wk3 v5 (lsL l a l.length)) := Sb2.out.keep hb
            have Sc3 : Hid (SrcU wk3 v6 (bkL l l.length)) := Sc2.out.keep hb
            have HBk3 : Hid (Below w.heap.size w wk3) := bel_of HBk2.out hb HBk2.out.size
            clear hb Sa2 Sb2 Sc2 HBk2 K12
            go_wp2_with (fail)
            refine (K13.out _ Sb3.out).mono ?_
            rintro e wk4 ⟨rfl, hb⟩
            have Sa4 : Hid (SrcU wk4 (.slice ad k cap) l) := Sa3.out.keep hb
            have Sb4 : Hid (SrcU wk4 v5 (lsL l a l.length)) := Sb3.out.keep hb
            have Sc4 : Hid (SrcU wk4 v6 (bkL l l.length)) := Sc3.out.keep hb
            have HBk4 : Hid (Below w.heap.size w wk4) := bel_of HBk3.out hb HBk3.out.size
            clear hb Sa3 Sb3 Sc3 HBk3 K13
            go_wp2_with (fail)
            refine (K14.out _ Sb4.out).mono ?_
            rintro e wk5 ⟨rfl, hb⟩
            have Sa5 : Hid (SrcU wk5 (.slice ad k cap) l) := Sa4.out.keep hb
            have Sb5 : Hid (SrcU wk5 v5 (lsL l a l.length)) := Sb4.out.keep hb
            have Sc5 : Hid (SrcU wk5 v6 (bkL l l.length)) := Sc4.out.keep hb
            have HBk5 : Hid (Below w.heap.size w wk5) := bel_of HBk4.out hb HBk4.out.size
            clear hb Sa4 Sb4 Sc4 HBk4 K14
            go_wp2_with (fail)
            refine (K15.out _ Sc5.out).mono ?_
            rintro e wk6 ⟨rfl, hb⟩
            have Sa6 : Hid (SrcU wk6 (.slice ad k cap) l) := Sa5.out.keep hb
            have Sb6 : Hid (SrcU wk6 v5 (lsL l a l.length)) := Sb5.out.keep hb
            have Sc6 : Hid (SrcU wk6 v6 (bkL l l.length)) := Sc5.out.keep hb
            have HBk6 : Hid (Below w.heap.size w wk6) := bel_of HBk5.out hb HBk5.out.size
            clear hb Sa5 Sb5 Sc5 HBk5 K15
            go_wp2_with (fail)
            refine (K16.out _ Sc6.out).mono ?_
            rintro e wk7 ⟨rfl, hb⟩
            have Sa7 : Hid (SrcU wk7 (.slice ad k cap) l) := Sa6.out.keep hb
            have Sb7 : Hid (SrcU wk7 v5 (lsL l a l.length)) := Sb6.out.keep hb
            have Sc7 : Hid (SrcU wk7 v6 (bkL l l.length)) := Sc6.out.keep hb
            have HBk7 : Hid (Below w.heap.size w wk7) := bel_of HBk6.out hb HBk6.out.size
            clear hb Sa6 Sb6 Sc6 HBk6 K16
            go_wp2_with (fail)
            refine (K17.out _ Sc7.out).mono ?_
            rintro e wk8 ⟨rfl, hb⟩
            have Sa8 : Hid (SrcU wk8 (.slice ad k cap) l) := Sa7.out.keep hb
            have Sb8 : Hid (SrcU wk8 v5 (lsL l a l.length)) := Sb7.out.keep hb
            have Sc8 : Hid (SrcU wk8 v6 (bkL l l.length)) := Sc7.out.keep hb
            have HBk8 : Hid (Below w.heap.size w wk8) := bel_of HBk7.out hb HBk7.out.size
            clear hb Sa7 Sb7 Sc7 HBk7 K17
            go_wp2_with (go_at_call 7; fail)
            refine (awakeC _).mono ?_
            rintro e wz ⟨rfl, hbz⟩
            have HBz : Hid (Below w.heap.size w wz) := bel_of HBk8.out hbz HBk8.out.size
            clear hbz
            go_wp2
            go_ret
            exact ⟨rfl, HBz.out⟩
  · have h0' : (setE l 64 != 0) = true := by simpa using h0
    generalize setE l 64 = E at *
    go_enter Try.func5, Try.ntmps5
    go_wp2_with (fail)
    refine hL.mono ?_
    rintro e w1 ⟨rfl, hb1⟩
    have HB1 : Hid (Below w.heap.size w w1) := hb1
    clear hb1 hL
    go_wp2_with (fail)
    refine (awakeC _).mono ?_
    rintro e w2 ⟨rfl, hb2⟩
    have HB2 : Hid (Below w.heap.size w w2) := bel_of HB1.out hb2 HB1.out.size
    clear hb2
    go_wp2
    go_ret
    exact ⟨rfl, HB2.out⟩

set_option maxRecDepth 100000 in
theorem nestShrinks_lifted (os : Os) (started : os.Started) (H : Type) (enc : TypeId × Value → H) :
    ReturnsInHanded {} Try.checked os 5 .any (Rows.nestShrinksSpec.pre6 enc Try.prog Try.f5 Rows.nestShrinksRow.domain false) (Rows.nestShrinksSpec.post enc Try.prog Try.f5 false true false false) := by
  refine returnsInHanded_of_change (C := Try.checked) own started (by kernel_rfl) Try.func5
    (ChangeSpec.witness6 (enc := enc) (C := Try.checked) false ⟨#[], #[.slice none 0 0, .int .i64 0], []⟩ 8 (by kernel_rfl) (by kernel_rfl) (by kernel_rfl) (by kernel_rfl)) ?_
  intro W base args ds gs before hval0 hW hcnd _
  have hval : ∀ (j : Nat) t v, Try.f5.params[j]? = some t → args[j]? = some v → Value.okWide Try.prog W .any base t v := hval0
  have hW' := hW
  obtain ⟨p, q, hA0, hV, rfl, hfz, hnd⟩ := hW
  have hA : DataW.TrodAll enc Try.prog W 0 (fun _ => true) true Try.f5.params.toList args.toList ds p := hA0
  rw [Try.params5] at hA hval
  obtain ⟨v0, vs0, d0, ds0, p0, q0, hargs, rfl, rfl, h0, r0⟩ := trodAll_cons hA
  obtain ⟨v1, vs1, d1, ds1, p1, q1, rfl, rfl, rfl, h1, r1⟩ := trodAll_cons r0
  obtain ⟨rfl, rfl, rfl⟩ := trodAll_nil r1
  obtain rfl : args = #[v0, v1] := by cases args; simp_all
  obtain ⟨rfl, rfl⟩ := trodVars_none hV
  have hlt0 : ∀ x ∈ p0, x.block < W.heap.size := fun x hx => by simpa using hW'.lt x (by simp [hx])
  obtain ⟨l0, s0, bd0⟩ := open_rus (hval 0 36 v0 rfl rfl) h0
  have hlt1 : ∀ x ∈ p1, x.block < W.heap.size := fun x hx => by simpa using hW'.lt x (by simp [hx])
  obtain ⟨a1, rfl, _, _, w1⟩ := open_int Try.underlying3 (hval 1 3 v1 rfl rfl) h1
  clear hA0 hval0
  simp only [List.append_nil] at hW'
  refine (nestShrinks_walk l0 v0 bd0 a1 (wf_sgn w1) W s0).mono fun e W' ⟨he, bel⟩ => ?_
  subst he
  exact ⟨_, rfl, _, _, _, [], _, [], hW', trodAll_mk1 (shut_bool Try.underlying4 _), (trodAll_cons_mk (Below.trod laidOut (by kernel_rfl) (of_decide_eq_true (by kernel_rfl)) h0 bel hlt0) (trodAll_cons_mk (Below.trod laidOut (by kernel_rfl) (of_decide_eq_true (by kernel_rfl)) h1 bel hlt1) trodAll_mk0)), rfl, bel.frame _, fun h => by cases h⟩

/-- The given statement. -/
theorem nestShrinks_holds : Rows.NestShrinksSaid :=
  OpenClaim.holds_of_wide 5 Try.f5 rfl rfl rfl rfl rfl rfl rfl ⟨rfl, rfl, rfl, rfl, rfl⟩ rfl rfl rfl rfl rfl (by kernel_rfl) Try.func5 (by kernel_rfl)
    (of_decide_eq_true (by kernel_rfl)) (by unfold Func.isWrapper; first | (rw [if_pos (by decide +kernel)]; kernel_rfl) | (rw [if_neg (by decide +kernel)]; exact ⟨rfl, rfl⟩))
    (fun os started H enc _ => nestShrinks_lifted os started H enc)
#print axioms nestShrinks_holds
end Go.Proofs.Ytcjpjofoddpfhaa
