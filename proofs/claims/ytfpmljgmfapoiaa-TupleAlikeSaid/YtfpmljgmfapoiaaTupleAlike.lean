/-
  An engine of tuples that came to its rules by insertion in some order, with others that went again, answers any headers as one that was set with them (P19.5), whatever rules, order, others and headers are handed in; the examples of the document hold.
  Conditions: none; the law holds for every input.
-/
import Derived.Test.YtfpmljgmfapoiaaPkBB
import Derived.Test.YtfpmljgmfapoiaaPkBC
namespace Go.Proofs.Ytfpmljgmfapoiaa
open Go.ChangeShapes Go.WideShapes Go.ChangeAt Go.RowKit Go.Joins
set_option linter.unusedVariables false
set_option linter.unusedSimpArgs false

theorem turn_less {n k j : Nat} (hk : k < n) (hj : j < n) (hne : ¬ k = j) : (j + n - (k + 1) % n) % n < (j + n - k) % n := by
  by_cases h1 : k + 1 < n
  · rw [Nat.mod_eq_of_lt h1]
    by_cases h2 : k < j
    · have e1 : j + n - (k + 1) = (j - (k + 1)) + n := by omega
      have e2 : j + n - k = (j - k) + n := by omega
      rw [e1, e2, Nat.add_mod_right, Nat.add_mod_right, Nat.mod_eq_of_lt (by omega), Nat.mod_eq_of_lt (by omega)]
      omega
    · rw [Nat.mod_eq_of_lt (by omega), Nat.mod_eq_of_lt (by omega)]
      omega
  · have e : k + 1 = n := by omega
    rw [e, Nat.mod_self, Nat.sub_zero, Nat.add_mod_right, Nat.mod_eq_of_lt hj, Nat.mod_eq_of_lt (by omega)]
    omega
theorem blk7 {w : World} {B : Nat} {v0 v1 v2 v3 v4 v5 v6 : Value} {t : TypeId} {fr : Nat × Nat} (h : w.heap[B]? = some (.cells #[v0, v1, v2, v3, v4, v5, v6] t fr)) : w.cell? ⟨B, 0, none⟩ = some v0 ∧ w.cell? ⟨B, 1, none⟩ = some v1 ∧ w.cell? ⟨B, 2, none⟩ = some v2 ∧ w.cell? ⟨B, 3, none⟩ = some v3 ∧ w.cell? ⟨B, 4, none⟩ = some v4 ∧ w.cell? ⟨B, 5, none⟩ = some v5 ∧ w.cell? ⟨B, 6, none⟩ = some v6 := ⟨blk_cell h rfl, blk_cell h rfl, blk_cell h rfl, blk_cell h rfl, blk_cell h rfl, blk_cell h rfl, blk_cell h rfl⟩
set_option maxRecDepth 20000 in
set_option maxHeartbeats 16000000 in
theorem tupleAlike_walk (l : List Ru) (lv : Value) (bl : ∀ R ∈ l, BdR R) (ord : List Int) (ov : Value) (t1 : True) (oth : List Ru) (xv : Value) (bo : ∀ R ∈ oth, BdR R) (hds : List Hd) (hv : Value) (t2 : True) (w : World) (sl : SrcU w lv l) (so : SrcI w ov ord ∧ ∀ x ∈ ord, I64 x) (sx : SrcU w xv oth) (sh : SrcH w hv hds ∧ ∀ R ∈ hds, OkH R) :
    Calls Try.prog 4 #[lv, ov, xv, hv] w fun e w' => e = .returned (.bool true) ∧ Below w.heap.size w w' := by
  have HL : Hid (SrcU w lv l) := sl
  have HO : Hid (SrcU w xv oth) := sx
  have HOr : Hid (SrcI w ov ord ∧ ∀ x ∈ ord, I64 x) := so
  have HH : Hid (SrcH w hv hds) := sh.1
  have HHo : Hid (∀ R ∈ hds, OkH R) := sh.2
  have Hbl : Hid (∀ R ∈ l, BdR R) := bl
  have Hbo : Hid (∀ R ∈ oth, BdR R) := bo
  obtain ⟨al, cl, hle, h9⟩ := sl
  clear h9
  obtain ⟨ax, cx, hxe, h9⟩ := sx
  clear h9
  obtain ⟨ao, co, hoe⟩ := so.1.len
  obtain ⟨ah, ch, hhe, h9⟩ := sh.1
  clear h9
  obtain ⟨n, hn⟩ : ∃ n, n = l.length := ⟨_, rfl⟩
  obtain ⟨nx, hnx⟩ : ∃ n, n = oth.length := ⟨_, rfl⟩
  obtain ⟨no, hno⟩ : ∃ n, n = ord.length := ⟨_, rfl⟩
  obtain ⟨nh, hnh⟩ : ∃ n, n = hds.length := ⟨_, rfl⟩
  rw [← hn] at hle
  rw [← hnx] at hxe
  rw [← hno] at hoe
  rw [← hnh] at hhe
  have Hn : Hid (n = l.length) := hn
  have Hnx : Hid (nx = oth.length) := hnx
  have Hno : Hid (no = ord.length) := hno
  have Hnh : Hid (nh = hds.length) := hnh
  subst hle hxe hoe hhe
  clear hn hnx hno hnh bl bo so sh
  by_cases hn64 : n ≤ 64
  case neg =>
    have hi1 : (64 : Int) < (n : Int) := by omega
    go_enter Try.func4, Try.ntmps4
    go_wp2_with (fail)
    go_ret
    exact ⟨rfl, Below.refl _ _⟩
  by_cases hx64 : nx ≤ 64
  case neg =>
    have hi1 : ¬ (64 : Int) < (n : Int) := by omega
    have hi2 : (64 : Int) < (nx : Int) := by omega
    go_enter Try.func4, Try.ntmps4
    go_wp2_with (fail)
    go_ret
    exact ⟨rfl, Below.refl _ _⟩
  by_cases hh20 : nh ≤ 2000
  case neg =>
    have hi1 : ¬ (64 : Int) < (n : Int) := by omega
    have hi2 : ¬ (64 : Int) < (nx : Int) := by omega
    have hi3 : (2000 : Int) < (nh : Int) := by omega
    go_enter Try.func4, Try.ntmps4
    go_wp2_with (fail)
    go_ret
    exact ⟨rfl, Below.refl _ _⟩
  have hi1 : ¬ (64 : Int) < (n : Int) := by omega
  have hi2 : ¬ (64 : Int) < (nx : Int) := by omega
  have hi3 : ¬ (2000 : Int) < (nh : Int) := by omega
  have Kc0 : Hid ((w.alloc (.cells #[.int .i64 64, .int .i64 4, .int .i64 1048576, .int .i64 1048576, .int .i64 1048576, .int .i64 4, .int .i64 8] 24)).heap[w.heap.size]? = some (.cells #[.int .i64 64, .int .i64 4, .int .i64 1048576, .int .i64 1048576, .int .i64 1048576, .int .i64 4, .int .i64 8] 24 (0, 0))) := blk_new w _
  have HB0 : Hid (Below w.heap.size w (w.alloc (.cells #[.int .i64 64, .int .i64 4, .int .i64 1048576, .int .i64 1048576, .int .i64 1048576, .int .i64 4, .int .i64 8] 24))) := (Below.refl _ _).alloc (Nat.le_refl _) _
  go_enter Try.func4, Try.ntmps4
  go_upto_region 4 with (fail)
  generalize w.alloc (.cells #[.int .i64 64, .int .i64 4, .int .i64 1048576, .int .i64 1048576, .int .i64 1048576, .int .i64 4, .int .i64 8] 24) = U0 at *
  obtain ⟨q0, q1, q2, q3, q4, q5, q6⟩ := blk7 Kc0.out
  go_wp2_with (go_at_call 8; fail)
  refine (newE aC aC_bd aC_ok _).mono ?_
  rintro e U1 ⟨X, rfl, hX1, hwX, hb1⟩
  have HB1 : Hid (Below w.heap.size w U1) := HB0.out.trans (hb1.mono HB0.out.size)
  have Kc1 : Hid _ := blk_on Kc0.out hb1
  have HX1 : Hid (Eng U1 X aC [] (fun _ => []) (fun k => U0.heap.size ≤ k ∧ k < X)) := hX1
  have HwX : Hid (w.heap.size ≤ X) := Nat.le_trans HB0.out.size hwX
  have HU0 : Hid (w.heap.size ≤ U0.heap.size) := HB0.out.size
  have HU1 : Hid (w.heap.size ≤ U1.heap.size) := HB1.out.size
  clear hb1 hX1 hwX q0 q1 q2 q3 q4 q5 q6 HB0 Kc0
  obtain ⟨q0, q1, q2, q3, q4, q5, q6⟩ := blk7 Kc1.out
  go_wp2_with (go_at_call 8; fail)
  refine (newE aC aC_bd aC_ok _).mono ?_
  rintro e U2 ⟨Y, rfl, hY2, hwY, hb2⟩
  have HB2 : Hid (Below w.heap.size w U2) := HB1.out.trans (hb2.mono HB1.out.size)
  have HX2 : Hid (Eng U2 X aC [] (fun _ => []) (fun k => U0.heap.size ≤ k ∧ k < X)) := HX1.out.on hb2
  have HY2 : Hid (Eng U2 Y aC [] (fun _ => []) (fun k => U1.heap.size ≤ k ∧ k < Y)) := hY2
  have HwY : Hid (w.heap.size ≤ Y) := Nat.le_trans HB1.out.size hwY
  have HY1 : Hid (U1.heap.size ≤ Y) := hwY
  have HXY : Hid (X < Y) := Nat.lt_of_lt_of_le HX1.out.lt hwY
  have HX1s : Hid (X < U1.heap.size) := HX1.out.lt
  clear hb2 hY2 hwY q0 q1 q2 q3 q4 q5 q6 HB1 Kc1 HX1
  have hSe := setEE X aC [] _ _ _ _ _ l U2 HX2.out (HL.out.keep HB2.out) (by have := Hn.out; omega) Hbl.out aC_bd (by decide)
  go_wp2_with (go_at_call 13; fail)
  refine hSe.mono ?_
  rintro e U3 ⟨rfl, hd3⟩
  by_cases hE : psetE aC l = 0
  case neg =>
    have hEn : (psetE aC l != 0) = true := by simpa using hE
    have HB3 : Hid (Below w.heap.size w U3) := hd3.below HB2.out HwX.out (fun k e => by have := e.1; have := HU0.out; omega)
    clear hSe hd3
    generalize psetE aC l = EE at *
    go_wp2_with (go_at_call 9; refine (awake19 _).mono ?_; rintro e U4 ⟨rfl, hb4⟩)
    go_ret
    exact ⟨rfl, HB3.out.trans (Below.mono (by assumption) HB3.out.size)⟩
  have hset : setE l aC.m = 0 := by
    by_cases h : setE l aC.m = 0
    · exact h
    · unfold psetE at hE; rw [if_neg h] at hE; exact absurd hE h
  have Hok : Hid (OkN l) := OkN.of_set hset (by decide)
  rw [show psetL aC l [] = l from if_pos hE] at hd3
  obtain ⟨LX, hX3, hg3⟩ := hd3
  have HX3 : Hid (Eng U3 X aC l LX (fun k => (U0.heap.size ≤ k ∧ k < X) ∨ (U2.heap.size ≤ k ∧ k < U3.heap.size))) := hX3
  have HB3 : Hid (Below w.heap.size w U3) := hg3.below HB2.out HB2.out.size HwX.out (fun k e => by have := e.1; have := HU0.out; omega)
  have HY3 : Hid (Eng U3 Y aC [] (fun _ => []) (fun k => U1.heap.size ≤ k ∧ k < Y)) := HY2.out.stay hg3.size (fun k hk e => by
    have e1 := HY1.out; have e2 := HX1s.out
    have e3 : U1.heap.size ≤ k := by rcases e with e | e; (omega); (exact e.1)
    exact hg3.block k hk (by omega) (fun e4 => by have := e4.2; omega))
  have HY2s : Hid (Y < U2.heap.size) := HY2.out.lt
  have HnXY : Hid (¬ (fun k => (U0.heap.size ≤ k ∧ k < X) ∨ (U2.heap.size ≤ k ∧ k < U3.heap.size)) Y) := fun e => by
    rcases e with e | e
    · have := e.2; have := HXY.out; omega
    · have := e.1; have := HY2.out.lt; omega
  rw [hE]
  clear hSe hX3 hg3 hset hE HX2 HY2 HB2
  obtain ⟨i0, hi, hz0, hz1, hz2⟩ := info_parts infoB
  have hmk := fun W => run_make (P := Try.prog) W 50 4 i0 _ Try.underlying50 hi hz0 .i64 .i64 (n : Int) (n : Int) (by omega) (Int.le_refl _) (by rw [hz2]; omega) (by omega)
  simp only [hz1, Int.toNat_natCast, Value.cells, Nat.mul_one, madeB] at hmk
  have hmk2 := hmk U3
  clear hmk hi hz0 hz1 hz2
  obtain ⟨FF, hFF⟩ : ∃ F, F = ((List.replicate n false).map Value.bool).toArray := ⟨_, rfl⟩
  rw [← hFF] at hmk2
  have hbm : Below U3.heap.size U3 (U3.alloc (.cells FF 4)) := (Below.refl _ _).alloc (Nat.le_refl _) _
  have HA0 : Hid (Alk w (U3.alloc (.cells FF 4)) X Y U3.heap.size l (sel (List.replicate n false) l) (List.replicate n false)) := by
    rw [sel_none]
    have e1 := HX3.out.lt; have e2 := HY3.out.lt
    have e3 := HX1s.out; have e4 := HY1.out; have e5 := HY2s.out; have e6 := HXY.out; have e7 := HU1.out; have e8 := hbm.size
    refine ⟨⟨_, _, _, _, HX3.out.on hbm, HY3.out.on hbm, HnXY.out, fun e => by omega, fun e => by omega, fun e => by omega, fun k a b => by omega, fun k e => by omega, fun k e => by omega⟩, by omega, by omega, by omega, by rw [← hFF]; exact blk_new U3 _, HwY.out, HB3.out.size, HB3.out.trans (hbm.mono HB3.out.size)⟩
  clear hFF hbm HX3 HY3 HnXY HXY HX1s HB3 HwX HwY HU0 HU1 HY1 HY2s
  go_upto_region 11 with (fail)
  generalize U3.alloc (.cells FF 4) = U4 at *
  obtain ⟨Bi, hBi⟩ : ∃ B, B = U3.heap.size := ⟨_, rfl⟩
  rw [← hBi] at HA0 ⊢
  clear hBi hmk2
  clear U3
  go_wp2_with (fail)
  go_loopw [15] (fun vi wr => ∃ (i : Nat) (B : List Bool), i ≤ n ∧ vi = .int .i64 (i : Int) ∧ Hid (B.length = n) ∧ Hid (B.count true = i) ∧ Hid (Alk w wr X Y Bi l (sel B l) B)) (fun vi _ => n - (intOf vi).toNat)
  case atStart => exact ⟨0, _, Nat.zero_le _, rfl, (by show _ = _; simp), (by show _ = _; simp [List.count_replicate]), HA0.out⟩
  case round =>
    obtain ⟨i, B, hi, rfl, HBn, HBc, HA⟩ := hrel
    by_cases hlt : i < n
    · have hlti : (i : Int) < (n : Int) := by omega
      have HBl : Hid (B.length = l.length) := by show _ = _; rw [HBn.out, Hn.out]
      by_cases hord : i < no
      · have hordl : i < ord.length := by rw [← Hno.out]; exact hord
        have hordi : (i : Int) < (no : Int) := by omega
        obtain ⟨gu, ou, eu, hcu⟩ := SrcI.at (HOr.out.1.keep HA.out.bel) hordl
        cases eu
        have hI := HOr.out.2 _ (List.getElem_mem hordl)
        generalize ord[i]'hordl = oi at hcu hI
        have hPk := pickC oi n wr hI (by omega) hn64
        go_wp2_with (go_at_call 14; fail)
        refine hPk.mono ?_
        rintro e W1 ⟨k0, hk0, rfl, hw1⟩
        obtain rfl := hw1.symm
        clear hw1
        clear hPk hcu hI
        as_aux_lemma =>
          go_wp2_with (fail)
          obtain ⟨j0, hj0⟩ := cnt_false (B := B) (by rw [HBc.out, HBn.out]; exact hlt)
          have hj0l : j0 < n := by have := (List.getElem?_eq_some_iff.1 hj0).1; rw [← HBn.out]; exact this
          have Hj0 : Hid (B[j0]? = some false) := hj0
          have Hj0l : Hid (j0 < n) := hj0l
          clear hj0 hj0l
          generalize hwr1 : wr = WA at *
          clear hwr1
          go_loopw [16] (fun vk wr => ∃ k : Nat, k < n ∧ vk = .int .i64 (k : Int) ∧ Hid (Below WA.heap.size WA wr)) (fun vk _ => (j0 + n - (intOf vk).toNat) % n)
          case atStart => exact ⟨_, hk0, rfl, Below.refl _ _⟩
          case round =>
            obtain ⟨k, hkn, rfl, HBk2⟩ := hrel
            have HA2 : Hid (Alk w wr X Y Bi l (sel B l) B) := HA.out.on HBk2.out
            have hkl : k < l.length := by rw [← Hn.out]; exact hkn
            have hkB : k < B.length := by rw [HBn.out]; exact hkn
            have hkni : (k : Int) < (n : Int) := by omega
            cases hbk : B[k]'hkB with
            | true =>
              have hcell := (HA2.out.cell (k := k) (b := true) (by rw [List.getElem?_eq_getElem hkB, hbk])).1
              have Hrem : Hid (((k : Int) + 1) % (n : Int) = (((k + 1) % n : Nat) : Int)) := by show _ = _; rw [Int.natCast_emod]; rfl
              have Hlt2 : Hid ((k + 1) % n < n) := Nat.mod_lt _ (by omega)
              have Hms : Hid ((j0 + n - (k + 1) % n) % n < (j0 + n - k) % n) := turn_less hkn Hj0l.out (fun e => by have := Hj0.out; rw [← e, List.getElem?_eq_getElem hkB, hbk] at this; cases this)
              clear hbk
              have hn0 : ¬ (n : Int) = 0 := by omega
              have hn1 : ((n : Int) == 0) = false := by rw [beq_eq_false_iff_ne]; exact hn0
              go_wp2_with (fail)
              go_roundw
              case rel => exact ⟨(k + 1) % n, Hlt2.out, by rw [Hrem.out], HBk2.out⟩
              case measure => simp only [intOf, Hrem.out, Int.toNat_natCast]; exact Hms.out
            | false =>
              have HBk : Hid (B[k]? = some false) := by show _ = _; rw [List.getElem?_eq_getElem hkB, hbk]
              have hcell := (HA2.out.cell HBk.out).1
              clear hbk
              go_wp2_with (fail)
              generalize hwr2 : wr = WB at *
              clear hwr2 hcell
              go_loopw [17, 18] (fun va vm wr => ∃ m : Nat, m ≤ k ∧ va = .int .i64 (((B.take m).count true : Nat) : Int) ∧ vm = .int .i64 (m : Int) ∧ Hid (Below WB.heap.size WB wr)) (fun _ vm _ => k - (intOf vm).toNat)
              case atStart => exact ⟨0, Nat.zero_le _, rfl, rfl, Below.refl _ _⟩
              case round =>
                obtain ⟨m, hmk, rfl, rfl, HBm⟩ := hrel
                have HA3 : Hid (Alk w wr X Y Bi l (sel B l) B) := HA2.out.on HBm.out
                by_cases hlm : m < k
                · have hlmi : (m : Int) < (k : Int) := by omega
                  have hlmn : (m : Int) < (n : Int) := by omega
                  have hmB : m < B.length := by omega
                  have Hst : Hid _ := cntB_step hmB
                  have hcb := cnt_take B m
                  have hcb2 : B.count true ≤ 64 := by rw [HBc.out]; omega
                  cases hbm : B[m]'hmB with
                  | true =>
                    have hcell := (HA3.out.cell (k := m) (b := true) (by rw [List.getElem?_eq_getElem hmB, hbm])).1
                    have Hst2 : Hid ((B.take (m + 1)).count true = (B.take m).count true + 1) := by show _ = _; have := Hst.out; rw [hbm] at this; simpa using this
                    clear hbm Hst
                    generalize (B.take m).count true = c0 at *
                    go_wp2_with (fail)
                    go_roundw
                    case rel => exact ⟨m + 1, by omega, by rw [Hst2.out]; go_num, by go_num, HBm.out⟩
                    case measure => simp [intOf]; omega
                  | false =>
                    have hcell := (HA3.out.cell (k := m) (b := false) (by rw [List.getElem?_eq_getElem hmB, hbm])).1
                    have Hst2 : Hid ((B.take (m + 1)).count true = (B.take m).count true) := by show _ = _; have := Hst.out; rw [hbm] at this; simpa using this
                    clear hbm Hst
                    generalize (B.take m).count true = c0 at *
                    go_wp2_with (fail)
                    go_roundw
                    case rel => exact ⟨m + 1, by omega, by rw [Hst2.out], by go_num, HBm.out⟩
                    case measure => simp [intOf]; omega
                · obtain rfl : m = k := by omega
                  have hnm : ¬ (m : Int) < (m : Int) := by omega
                  have HA : Hid (Alk w wr X Y Bi l (sel B l) B) := HA3.out
                  clear HA2 HA3 HBm HBk2 Hj0 Hj0l
                  generalize hwr3 : wr = WC at *
                  clear hwr3
                  as_aux_lemma =>
                    by_cases hio : i < nx
                    · have hiol : i < oth.length := by rw [← Hnx.out]; exact hio
                      have hioi : (i : Int) < (nx : Int) := by omega
                      obtain ⟨gx, ox, ex, hrg⟩ := (rngU HO.out).2 WC HA.out.bel i hiol
                      cases ex
                      have hbd := Hbo.out _ (List.getElem_mem hiol)
                      have Hqe0 : Hid (oth[i]'hiol = oth[i]'hiol) := rfl
                      obtain ⟨q, hqe⟩ : ∃ q, q = oth[i]'hiol := ⟨_, rfl⟩
                      rw [← hqe] at hrg hbd
                      have Hqe : Hid (q = oth[i]'hiol) := hqe
                      clear hqe Hqe0
                      have x0 : WC.cell? ⟨gx, ox + i * 12, none⟩ = some (.int .i64 q.i) := hrg 0 _ rfl
                      have x1 : WC.cell? ⟨gx, ox + i * 12 + 1, none⟩ = some (.int .u32 (q.s : Int)) := hrg 1 _ rfl
                      have x2 : WC.cell? ⟨gx, ox + i * 12 + 2, none⟩ = some (.int .i64 q.sl) := hrg 2 _ rfl
                      have x3 : WC.cell? ⟨gx, ox + i * 12 + 3, none⟩ = some (.int .u32 (q.d : Int)) := hrg 3 _ rfl
                      have x4 : WC.cell? ⟨gx, ox + i * 12 + 4, none⟩ = some (.int .i64 q.dl) := hrg 4 _ rfl
                      have x5 : WC.cell? ⟨gx, ox + i * 12 + 5, none⟩ = some (.int .u16 (q.p.1 : Int)) := hrg 5 _ rfl
                      have x6 : WC.cell? ⟨gx, ox + i * 12 + 6, none⟩ = some (.int .u16 (q.p.2 : Int)) := hrg 6 _ rfl
                      have x7 : WC.cell? ⟨gx, ox + i * 12 + 7, none⟩ = some (.int .u16 (q.q.1 : Int)) := hrg 7 _ rfl
                      have x8 : WC.cell? ⟨gx, ox + i * 12 + 8, none⟩ = some (.int .u16 (q.q.2 : Int)) := hrg 8 _ rfl
                      have x9 : WC.cell? ⟨gx, ox + i * 12 + 9, none⟩ = some (.int .u8 (q.m.1 : Int)) := hrg 9 _ rfl
                      have x10 : WC.cell? ⟨gx, ox + i * 12 + 10, none⟩ = some (.int .u8 (q.m.2 : Int)) := hrg 10 _ rfl
                      have x11 : WC.cell? ⟨gx, ox + i * 12 + 11, none⟩ = some (.int .i64 q.act) := hrg 11 _ rfl
                      have hIn := HA.out.ins 0 q hbd
                      have hokM := HA.out.okM
                      clear hrg hbd
                      by_cases hE : pinE aC (sel B l) 0 q = 0
                      · have hio2 := in_out hokM hE
                        have hdl := fun V (h : Alk w V X Y Bi l (pinL aC (sel B l) 0 q) B) => h.del q.i
                        rw [hio2.1, hio2.2] at hdl
                        rw [hE] at hIn
                        clear hio2 hokM
                        go_wp2_with (go_at_call 15; fail)
                        refine hIn.mono ?_
                        rintro e W7 ⟨rfl, hA7⟩
                        have x0' : W7.cell? ⟨gx, ox + i * 12, none⟩ = some (.int .i64 q.i) := by
                          obtain ⟨gx', ox', ex', hrg'⟩ := (rngU HO.out).2 W7 hA7.bel i hiol
                          cases ex'
                          rw [Hqe.out]; exact hrg' 0 _ rfl
                        have hDl := hdl W7 hA7
                        clear hIn hdl hA7 HA x0 x1 x2 x3 x4 x5 x6 x7 x8 x9 x10 x11
                        go_wp2_with (go_at_call 16; fail)
                        refine hDl.mono ?_
                        rintro e W8 ⟨rfl, hA8⟩
                        have HA : Hid (Alk w W8 X Y Bi l (sel B l) B) := hA8
                        clear hDl hA8 x0'
                        obtain ⟨gz, oz, ez, hrg⟩ := (rngU HL.out).2 W8 HA.out.bel m hkl
                        cases ez
                        have hput := put_sel HBl.out hkl HBk.out Hok.out
                        have hbd := Hbl.out _ (List.getElem_mem hkl)
                        have hIn := HA.out.ins (((B.take m).count true : Nat) : Int) (l[m]'hkl) hbd
                        rw [hput.1, hput.2] at hIn
                        generalize hpe : l[m]'hkl = p at hrg hIn hput hbd
                        have z0 : W8.cell? ⟨gz, oz + m * 12, none⟩ = some (.int .i64 p.i) := hrg 0 _ rfl
                        have z1 : W8.cell? ⟨gz, oz + m * 12 + 1, none⟩ = some (.int .u32 (p.s : Int)) := hrg 1 _ rfl
                        have z2 : W8.cell? ⟨gz, oz + m * 12 + 2, none⟩ = some (.int .i64 p.sl) := hrg 2 _ rfl
                        have z3 : W8.cell? ⟨gz, oz + m * 12 + 3, none⟩ = some (.int .u32 (p.d : Int)) := hrg 3 _ rfl
                        have z4 : W8.cell? ⟨gz, oz + m * 12 + 4, none⟩ = some (.int .i64 p.dl) := hrg 4 _ rfl
                        have z5 : W8.cell? ⟨gz, oz + m * 12 + 5, none⟩ = some (.int .u16 (p.p.1 : Int)) := hrg 5 _ rfl
                        have z6 : W8.cell? ⟨gz, oz + m * 12 + 6, none⟩ = some (.int .u16 (p.p.2 : Int)) := hrg 6 _ rfl
                        have z7 : W8.cell? ⟨gz, oz + m * 12 + 7, none⟩ = some (.int .u16 (p.q.1 : Int)) := hrg 7 _ rfl
                        have z8 : W8.cell? ⟨gz, oz + m * 12 + 8, none⟩ = some (.int .u16 (p.q.2 : Int)) := hrg 8 _ rfl
                        have z9 : W8.cell? ⟨gz, oz + m * 12 + 9, none⟩ = some (.int .u8 (p.m.1 : Int)) := hrg 9 _ rfl
                        have z10 : W8.cell? ⟨gz, oz + m * 12 + 10, none⟩ = some (.int .u8 (p.m.2 : Int)) := hrg 10 _ rfl
                        have z11 : W8.cell? ⟨gz, oz + m * 12 + 11, none⟩ = some (.int .i64 p.act) := hrg 11 _ rfl
                        clear hrg hput hbd hpe
                        go_wp2_with (go_at_call 15; fail)
                        refine hIn.mono ?_
                        rintro e W9 ⟨rfl, hA9⟩
                        have HA10 : Hid (Alk w (W9.setCell ⟨Bi, m, none⟩ (.bool true)) X Y Bi l (sel (B.set m true) l) (B.set m true)) := hA9.set m true
                        have hc9 := hA9.cell HBk.out
                        obtain ⟨c9, f9⟩ := hc9
                        clear hIn hA9 HA z0 z1 z2 z3 z4 z5 z6 z7 z8 z9 z10 z11
                        go_wp2_with (fail)
                        go_roundw
                        case rel => exact ⟨i + 1, B.set m true, by omega, by go_num, (by show _ = _; rw [List.length_set]; exact HBn.out), (by show _ = _; rw [cnt_set B m HBk.out, HBc.out]), HA10.out⟩
                        case measure => simp [intOf]; omega
                      · have hEn : (pinE aC (sel B l) 0 q == 0) = false := by simpa using hE
                        rw [show pinL aC (sel B l) 0 q = sel B l from if_neg hE] at hIn
                        clear hokM
                        generalize pinE aC (sel B l) 0 q = EE at *
                        go_wp2_with (go_at_call 15; fail)
                        refine hIn.mono ?_
                        rintro e W8 ⟨rfl, hA8⟩
                        have HA : Hid (Alk w W8 X Y Bi l (sel B l) B) := hA8
                        clear hIn hA8 x0 x1 x2 x3 x4 x5 x6 x7 x8 x9 x10 x11
                        obtain ⟨gz, oz, ez, hrg⟩ := (rngU HL.out).2 W8 HA.out.bel m hkl
                        cases ez
                        have hput := put_sel HBl.out hkl HBk.out Hok.out
                        have hbd := Hbl.out _ (List.getElem_mem hkl)
                        have hIn := HA.out.ins (((B.take m).count true : Nat) : Int) (l[m]'hkl) hbd
                        rw [hput.1, hput.2] at hIn
                        generalize hpe : l[m]'hkl = p at hrg hIn hput hbd
                        have z0 : W8.cell? ⟨gz, oz + m * 12, none⟩ = some (.int .i64 p.i) := hrg 0 _ rfl
                        have z1 : W8.cell? ⟨gz, oz + m * 12 + 1, none⟩ = some (.int .u32 (p.s : Int)) := hrg 1 _ rfl
                        have z2 : W8.cell? ⟨gz, oz + m * 12 + 2, none⟩ = some (.int .i64 p.sl) := hrg 2 _ rfl
                        have z3 : W8.cell? ⟨gz, oz + m * 12 + 3, none⟩ = some (.int .u32 (p.d : Int)) := hrg 3 _ rfl
                        have z4 : W8.cell? ⟨gz, oz + m * 12 + 4, none⟩ = some (.int .i64 p.dl) := hrg 4 _ rfl
                        have z5 : W8.cell? ⟨gz, oz + m * 12 + 5, none⟩ = some (.int .u16 (p.p.1 : Int)) := hrg 5 _ rfl
                        have z6 : W8.cell? ⟨gz, oz + m * 12 + 6, none⟩ = some (.int .u16 (p.p.2 : Int)) := hrg 6 _ rfl
                        have z7 : W8.cell? ⟨gz, oz + m * 12 + 7, none⟩ = some (.int .u16 (p.q.1 : Int)) := hrg 7 _ rfl
                        have z8 : W8.cell? ⟨gz, oz + m * 12 + 8, none⟩ = some (.int .u16 (p.q.2 : Int)) := hrg 8 _ rfl
                        have z9 : W8.cell? ⟨gz, oz + m * 12 + 9, none⟩ = some (.int .u8 (p.m.1 : Int)) := hrg 9 _ rfl
                        have z10 : W8.cell? ⟨gz, oz + m * 12 + 10, none⟩ = some (.int .u8 (p.m.2 : Int)) := hrg 10 _ rfl
                        have z11 : W8.cell? ⟨gz, oz + m * 12 + 11, none⟩ = some (.int .i64 p.act) := hrg 11 _ rfl
                        clear hrg hput hbd hpe
                        go_wp2_with (go_at_call 15; fail)
                        refine hIn.mono ?_
                        rintro e W9 ⟨rfl, hA9⟩
                        have HA10 : Hid (Alk w (W9.setCell ⟨Bi, m, none⟩ (.bool true)) X Y Bi l (sel (B.set m true) l) (B.set m true)) := hA9.set m true
                        have hc9 := hA9.cell HBk.out
                        obtain ⟨c9, f9⟩ := hc9
                        clear hIn hA9 HA z0 z1 z2 z3 z4 z5 z6 z7 z8 z9 z10 z11
                        go_wp2_with (fail)
                        go_roundw
                        case rel => exact ⟨i + 1, B.set m true, by omega, by go_num, (by show _ = _; rw [List.length_set]; exact HBn.out), (by show _ = _; rw [cnt_set B m HBk.out, HBc.out]), HA10.out⟩
                        case measure => simp [intOf]; omega
                    · have hioi : ¬ (i : Int) < (nx : Int) := by omega
                      obtain ⟨gz, oz, ez, hrg⟩ := (rngU HL.out).2 WC HA.out.bel m hkl
                      cases ez
                      have hput := put_sel HBl.out hkl HBk.out Hok.out
                      have hbd := Hbl.out _ (List.getElem_mem hkl)
                      have hIn := HA.out.ins (((B.take m).count true : Nat) : Int) (l[m]'hkl) hbd
                      rw [hput.1, hput.2] at hIn
                      generalize hpe : l[m]'hkl = p at hrg hIn hput hbd
                      have z0 : WC.cell? ⟨gz, oz + m * 12, none⟩ = some (.int .i64 p.i) := hrg 0 _ rfl
                      have z1 : WC.cell? ⟨gz, oz + m * 12 + 1, none⟩ = some (.int .u32 (p.s : Int)) := hrg 1 _ rfl
                      have z2 : WC.cell? ⟨gz, oz + m * 12 + 2, none⟩ = some (.int .i64 p.sl) := hrg 2 _ rfl
                      have z3 : WC.cell? ⟨gz, oz + m * 12 + 3, none⟩ = some (.int .u32 (p.d : Int)) := hrg 3 _ rfl
                      have z4 : WC.cell? ⟨gz, oz + m * 12 + 4, none⟩ = some (.int .i64 p.dl) := hrg 4 _ rfl
                      have z5 : WC.cell? ⟨gz, oz + m * 12 + 5, none⟩ = some (.int .u16 (p.p.1 : Int)) := hrg 5 _ rfl
                      have z6 : WC.cell? ⟨gz, oz + m * 12 + 6, none⟩ = some (.int .u16 (p.p.2 : Int)) := hrg 6 _ rfl
                      have z7 : WC.cell? ⟨gz, oz + m * 12 + 7, none⟩ = some (.int .u16 (p.q.1 : Int)) := hrg 7 _ rfl
                      have z8 : WC.cell? ⟨gz, oz + m * 12 + 8, none⟩ = some (.int .u16 (p.q.2 : Int)) := hrg 8 _ rfl
                      have z9 : WC.cell? ⟨gz, oz + m * 12 + 9, none⟩ = some (.int .u8 (p.m.1 : Int)) := hrg 9 _ rfl
                      have z10 : WC.cell? ⟨gz, oz + m * 12 + 10, none⟩ = some (.int .u8 (p.m.2 : Int)) := hrg 10 _ rfl
                      have z11 : WC.cell? ⟨gz, oz + m * 12 + 11, none⟩ = some (.int .i64 p.act) := hrg 11 _ rfl
                      clear hrg hput hbd hpe
                      go_wp2_with (go_at_call 15; fail)
                      refine hIn.mono ?_
                      rintro e W9 ⟨rfl, hA9⟩
                      have HA10 : Hid (Alk w (W9.setCell ⟨Bi, m, none⟩ (.bool true)) X Y Bi l (sel (B.set m true) l) (B.set m true)) := hA9.set m true
                      have hc9 := hA9.cell HBk.out
                      obtain ⟨c9, f9⟩ := hc9
                      clear hIn hA9 HA z0 z1 z2 z3 z4 z5 z6 z7 z8 z9 z10 z11
                      go_wp2_with (fail)
                      go_roundw
                      case rel => exact ⟨i + 1, B.set m true, by omega, by go_num, (by show _ = _; rw [List.length_set]; exact HBn.out), (by show _ = _; rw [cnt_set B m HBk.out, HBc.out]), HA10.out⟩
                      case measure => simp [intOf]; omega
      · have hordi : ¬ (i : Int) < (no : Int) := by omega
        have hk0 : i < n := hlt
        as_aux_lemma =>
          go_wp2_with (fail)
          obtain ⟨j0, hj0⟩ := cnt_false (B := B) (by rw [HBc.out, HBn.out]; exact hlt)
          have hj0l : j0 < n := by have := (List.getElem?_eq_some_iff.1 hj0).1; rw [← HBn.out]; exact this
          have Hj0 : Hid (B[j0]? = some false) := hj0
          have Hj0l : Hid (j0 < n) := hj0l
          clear hj0 hj0l
          generalize hwr1 : wr = WA at *
          clear hwr1
          go_loopw [16] (fun vk wr => ∃ k : Nat, k < n ∧ vk = .int .i64 (k : Int) ∧ Hid (Below WA.heap.size WA wr)) (fun vk _ => (j0 + n - (intOf vk).toNat) % n)
          case atStart => exact ⟨_, hk0, rfl, Below.refl _ _⟩
          case round =>
            obtain ⟨k, hkn, rfl, HBk2⟩ := hrel
            have HA2 : Hid (Alk w wr X Y Bi l (sel B l) B) := HA.out.on HBk2.out
            have hkl : k < l.length := by rw [← Hn.out]; exact hkn
            have hkB : k < B.length := by rw [HBn.out]; exact hkn
            have hkni : (k : Int) < (n : Int) := by omega
            cases hbk : B[k]'hkB with
            | true =>
              have hcell := (HA2.out.cell (k := k) (b := true) (by rw [List.getElem?_eq_getElem hkB, hbk])).1
              have Hrem : Hid (((k : Int) + 1) % (n : Int) = (((k + 1) % n : Nat) : Int)) := by show _ = _; rw [Int.natCast_emod]; rfl
              have Hlt2 : Hid ((k + 1) % n < n) := Nat.mod_lt _ (by omega)
              have Hms : Hid ((j0 + n - (k + 1) % n) % n < (j0 + n - k) % n) := turn_less hkn Hj0l.out (fun e => by have := Hj0.out; rw [← e, List.getElem?_eq_getElem hkB, hbk] at this; cases this)
              clear hbk
              have hn0 : ¬ (n : Int) = 0 := by omega
              have hn1 : ((n : Int) == 0) = false := by rw [beq_eq_false_iff_ne]; exact hn0
              go_wp2_with (fail)
              go_roundw
              case rel => exact ⟨(k + 1) % n, Hlt2.out, by rw [Hrem.out], HBk2.out⟩
              case measure => simp only [intOf, Hrem.out, Int.toNat_natCast]; exact Hms.out
            | false =>
              have HBk : Hid (B[k]? = some false) := by show _ = _; rw [List.getElem?_eq_getElem hkB, hbk]
              have hcell := (HA2.out.cell HBk.out).1
              clear hbk
              go_wp2_with (fail)
              generalize hwr2 : wr = WB at *
              clear hwr2 hcell
              go_loopw [17, 18] (fun va vm wr => ∃ m : Nat, m ≤ k ∧ va = .int .i64 (((B.take m).count true : Nat) : Int) ∧ vm = .int .i64 (m : Int) ∧ Hid (Below WB.heap.size WB wr)) (fun _ vm _ => k - (intOf vm).toNat)
              case atStart => exact ⟨0, Nat.zero_le _, rfl, rfl, Below.refl _ _⟩
              case round =>
                obtain ⟨m, hmk, rfl, rfl, HBm⟩ := hrel
                have HA3 : Hid (Alk w wr X Y Bi l (sel B l) B) := HA2.out.on HBm.out
                by_cases hlm : m < k
                · have hlmi : (m : Int) < (k : Int) := by omega
                  have hlmn : (m : Int) < (n : Int) := by omega
                  have hmB : m < B.length := by omega
                  have Hst : Hid _ := cntB_step hmB
                  have hcb := cnt_take B m
                  have hcb2 : B.count true ≤ 64 := by rw [HBc.out]; omega
                  cases hbm : B[m]'hmB with
                  | true =>
                    have hcell := (HA3.out.cell (k := m) (b := true) (by rw [List.getElem?_eq_getElem hmB, hbm])).1
                    have Hst2 : Hid ((B.take (m + 1)).count true = (B.take m).count true + 1) := by show _ = _; have := Hst.out; rw [hbm] at this; simpa using this
                    clear hbm Hst
                    generalize (B.take m).count true = c0 at *
                    go_wp2_with (fail)
                    go_roundw
                    case rel => exact ⟨m + 1, by omega, by rw [Hst2.out]; go_num, by go_num, HBm.out⟩
                    case measure => simp [intOf]; omega
                  | false =>
                    have hcell := (HA3.out.cell (k := m) (b := false) (by rw [List.getElem?_eq_getElem hmB, hbm])).1
                    have Hst2 : Hid ((B.take (m + 1)).count true = (B.take m).count true) := by show _ = _; have := Hst.out; rw [hbm] at this; simpa using this
                    clear hbm Hst
                    generalize (B.take m).count true = c0 at *
                    go_wp2_with (fail)
                    go_roundw
                    case rel => exact ⟨m + 1, by omega, by rw [Hst2.out], by go_num, HBm.out⟩
                    case measure => simp [intOf]; omega
                · obtain rfl : m = k := by omega
                  have hnm : ¬ (m : Int) < (m : Int) := by omega
                  have HA : Hid (Alk w wr X Y Bi l (sel B l) B) := HA3.out
                  clear HA2 HA3 HBm HBk2 Hj0 Hj0l
                  generalize hwr3 : wr = WC at *
                  clear hwr3
                  as_aux_lemma =>
                    by_cases hio : i < nx
                    · have hiol : i < oth.length := by rw [← Hnx.out]; exact hio
                      have hioi : (i : Int) < (nx : Int) := by omega
                      obtain ⟨gx, ox, ex, hrg⟩ := (rngU HO.out).2 WC HA.out.bel i hiol
                      cases ex
                      have hbd := Hbo.out _ (List.getElem_mem hiol)
                      have Hqe0 : Hid (oth[i]'hiol = oth[i]'hiol) := rfl
                      obtain ⟨q, hqe⟩ : ∃ q, q = oth[i]'hiol := ⟨_, rfl⟩
                      rw [← hqe] at hrg hbd
                      have Hqe : Hid (q = oth[i]'hiol) := hqe
                      clear hqe Hqe0
                      have x0 : WC.cell? ⟨gx, ox + i * 12, none⟩ = some (.int .i64 q.i) := hrg 0 _ rfl
                      have x1 : WC.cell? ⟨gx, ox + i * 12 + 1, none⟩ = some (.int .u32 (q.s : Int)) := hrg 1 _ rfl
                      have x2 : WC.cell? ⟨gx, ox + i * 12 + 2, none⟩ = some (.int .i64 q.sl) := hrg 2 _ rfl
                      have x3 : WC.cell? ⟨gx, ox + i * 12 + 3, none⟩ = some (.int .u32 (q.d : Int)) := hrg 3 _ rfl
                      have x4 : WC.cell? ⟨gx, ox + i * 12 + 4, none⟩ = some (.int .i64 q.dl) := hrg 4 _ rfl
                      have x5 : WC.cell? ⟨gx, ox + i * 12 + 5, none⟩ = some (.int .u16 (q.p.1 : Int)) := hrg 5 _ rfl
                      have x6 : WC.cell? ⟨gx, ox + i * 12 + 6, none⟩ = some (.int .u16 (q.p.2 : Int)) := hrg 6 _ rfl
                      have x7 : WC.cell? ⟨gx, ox + i * 12 + 7, none⟩ = some (.int .u16 (q.q.1 : Int)) := hrg 7 _ rfl
                      have x8 : WC.cell? ⟨gx, ox + i * 12 + 8, none⟩ = some (.int .u16 (q.q.2 : Int)) := hrg 8 _ rfl
                      have x9 : WC.cell? ⟨gx, ox + i * 12 + 9, none⟩ = some (.int .u8 (q.m.1 : Int)) := hrg 9 _ rfl
                      have x10 : WC.cell? ⟨gx, ox + i * 12 + 10, none⟩ = some (.int .u8 (q.m.2 : Int)) := hrg 10 _ rfl
                      have x11 : WC.cell? ⟨gx, ox + i * 12 + 11, none⟩ = some (.int .i64 q.act) := hrg 11 _ rfl
                      have hIn := HA.out.ins 0 q hbd
                      have hokM := HA.out.okM
                      clear hrg hbd
                      by_cases hE : pinE aC (sel B l) 0 q = 0
                      · have hio2 := in_out hokM hE
                        have hdl := fun V (h : Alk w V X Y Bi l (pinL aC (sel B l) 0 q) B) => h.del q.i
                        rw [hio2.1, hio2.2] at hdl
                        rw [hE] at hIn
                        clear hio2 hokM
                        go_wp2_with (go_at_call 15; fail)
                        refine hIn.mono ?_
                        rintro e W7 ⟨rfl, hA7⟩
                        have x0' : W7.cell? ⟨gx, ox + i * 12, none⟩ = some (.int .i64 q.i) := by
                          obtain ⟨gx', ox', ex', hrg'⟩ := (rngU HO.out).2 W7 hA7.bel i hiol
                          cases ex'
                          rw [Hqe.out]; exact hrg' 0 _ rfl
                        have hDl := hdl W7 hA7
                        clear hIn hdl hA7 HA x0 x1 x2 x3 x4 x5 x6 x7 x8 x9 x10 x11
                        go_wp2_with (go_at_call 16; fail)
                        refine hDl.mono ?_
                        rintro e W8 ⟨rfl, hA8⟩
                        have HA : Hid (Alk w W8 X Y Bi l (sel B l) B) := hA8
                        clear hDl hA8 x0'
                        obtain ⟨gz, oz, ez, hrg⟩ := (rngU HL.out).2 W8 HA.out.bel m hkl
                        cases ez
                        have hput := put_sel HBl.out hkl HBk.out Hok.out
                        have hbd := Hbl.out _ (List.getElem_mem hkl)
                        have hIn := HA.out.ins (((B.take m).count true : Nat) : Int) (l[m]'hkl) hbd
                        rw [hput.1, hput.2] at hIn
                        generalize hpe : l[m]'hkl = p at hrg hIn hput hbd
                        have z0 : W8.cell? ⟨gz, oz + m * 12, none⟩ = some (.int .i64 p.i) := hrg 0 _ rfl
                        have z1 : W8.cell? ⟨gz, oz + m * 12 + 1, none⟩ = some (.int .u32 (p.s : Int)) := hrg 1 _ rfl
                        have z2 : W8.cell? ⟨gz, oz + m * 12 + 2, none⟩ = some (.int .i64 p.sl) := hrg 2 _ rfl
                        have z3 : W8.cell? ⟨gz, oz + m * 12 + 3, none⟩ = some (.int .u32 (p.d : Int)) := hrg 3 _ rfl
                        have z4 : W8.cell? ⟨gz, oz + m * 12 + 4, none⟩ = some (.int .i64 p.dl) := hrg 4 _ rfl
                        have z5 : W8.cell? ⟨gz, oz + m * 12 + 5, none⟩ = some (.int .u16 (p.p.1 : Int)) := hrg 5 _ rfl
                        have z6 : W8.cell? ⟨gz, oz + m * 12 + 6, none⟩ = some (.int .u16 (p.p.2 : Int)) := hrg 6 _ rfl
                        have z7 : W8.cell? ⟨gz, oz + m * 12 + 7, none⟩ = some (.int .u16 (p.q.1 : Int)) := hrg 7 _ rfl
                        have z8 : W8.cell? ⟨gz, oz + m * 12 + 8, none⟩ = some (.int .u16 (p.q.2 : Int)) := hrg 8 _ rfl
                        have z9 : W8.cell? ⟨gz, oz + m * 12 + 9, none⟩ = some (.int .u8 (p.m.1 : Int)) := hrg 9 _ rfl
                        have z10 : W8.cell? ⟨gz, oz + m * 12 + 10, none⟩ = some (.int .u8 (p.m.2 : Int)) := hrg 10 _ rfl
                        have z11 : W8.cell? ⟨gz, oz + m * 12 + 11, none⟩ = some (.int .i64 p.act) := hrg 11 _ rfl
                        clear hrg hput hbd hpe
                        go_wp2_with (go_at_call 15; fail)
                        refine hIn.mono ?_
                        rintro e W9 ⟨rfl, hA9⟩
                        have HA10 : Hid (Alk w (W9.setCell ⟨Bi, m, none⟩ (.bool true)) X Y Bi l (sel (B.set m true) l) (B.set m true)) := hA9.set m true
                        have hc9 := hA9.cell HBk.out
                        obtain ⟨c9, f9⟩ := hc9
                        clear hIn hA9 HA z0 z1 z2 z3 z4 z5 z6 z7 z8 z9 z10 z11
                        go_wp2_with (fail)
                        go_roundw
                        case rel => exact ⟨i + 1, B.set m true, by omega, by go_num, (by show _ = _; rw [List.length_set]; exact HBn.out), (by show _ = _; rw [cnt_set B m HBk.out, HBc.out]), HA10.out⟩
                        case measure => simp [intOf]; omega
                      · have hEn : (pinE aC (sel B l) 0 q == 0) = false := by simpa using hE
                        rw [show pinL aC (sel B l) 0 q = sel B l from if_neg hE] at hIn
                        clear hokM
                        generalize pinE aC (sel B l) 0 q = EE at *
                        go_wp2_with (go_at_call 15; fail)
                        refine hIn.mono ?_
                        rintro e W8 ⟨rfl, hA8⟩
                        have HA : Hid (Alk w W8 X Y Bi l (sel B l) B) := hA8
                        clear hIn hA8 x0 x1 x2 x3 x4 x5 x6 x7 x8 x9 x10 x11
                        obtain ⟨gz, oz, ez, hrg⟩ := (rngU HL.out).2 W8 HA.out.bel m hkl
                        cases ez
                        have hput := put_sel HBl.out hkl HBk.out Hok.out
                        have hbd := Hbl.out _ (List.getElem_mem hkl)
                        have hIn := HA.out.ins (((B.take m).count true : Nat) : Int) (l[m]'hkl) hbd
                        rw [hput.1, hput.2] at hIn
                        generalize hpe : l[m]'hkl = p at hrg hIn hput hbd
                        have z0 : W8.cell? ⟨gz, oz + m * 12, none⟩ = some (.int .i64 p.i) := hrg 0 _ rfl
                        have z1 : W8.cell? ⟨gz, oz + m * 12 + 1, none⟩ = some (.int .u32 (p.s : Int)) := hrg 1 _ rfl
                        have z2 : W8.cell? ⟨gz, oz + m * 12 + 2, none⟩ = some (.int .i64 p.sl) := hrg 2 _ rfl
                        have z3 : W8.cell? ⟨gz, oz + m * 12 + 3, none⟩ = some (.int .u32 (p.d : Int)) := hrg 3 _ rfl
                        have z4 : W8.cell? ⟨gz, oz + m * 12 + 4, none⟩ = some (.int .i64 p.dl) := hrg 4 _ rfl
                        have z5 : W8.cell? ⟨gz, oz + m * 12 + 5, none⟩ = some (.int .u16 (p.p.1 : Int)) := hrg 5 _ rfl
                        have z6 : W8.cell? ⟨gz, oz + m * 12 + 6, none⟩ = some (.int .u16 (p.p.2 : Int)) := hrg 6 _ rfl
                        have z7 : W8.cell? ⟨gz, oz + m * 12 + 7, none⟩ = some (.int .u16 (p.q.1 : Int)) := hrg 7 _ rfl
                        have z8 : W8.cell? ⟨gz, oz + m * 12 + 8, none⟩ = some (.int .u16 (p.q.2 : Int)) := hrg 8 _ rfl
                        have z9 : W8.cell? ⟨gz, oz + m * 12 + 9, none⟩ = some (.int .u8 (p.m.1 : Int)) := hrg 9 _ rfl
                        have z10 : W8.cell? ⟨gz, oz + m * 12 + 10, none⟩ = some (.int .u8 (p.m.2 : Int)) := hrg 10 _ rfl
                        have z11 : W8.cell? ⟨gz, oz + m * 12 + 11, none⟩ = some (.int .i64 p.act) := hrg 11 _ rfl
                        clear hrg hput hbd hpe
                        go_wp2_with (go_at_call 15; fail)
                        refine hIn.mono ?_
                        rintro e W9 ⟨rfl, hA9⟩
                        have HA10 : Hid (Alk w (W9.setCell ⟨Bi, m, none⟩ (.bool true)) X Y Bi l (sel (B.set m true) l) (B.set m true)) := hA9.set m true
                        have hc9 := hA9.cell HBk.out
                        obtain ⟨c9, f9⟩ := hc9
                        clear hIn hA9 HA z0 z1 z2 z3 z4 z5 z6 z7 z8 z9 z10 z11
                        go_wp2_with (fail)
                        go_roundw
                        case rel => exact ⟨i + 1, B.set m true, by omega, by go_num, (by show _ = _; rw [List.length_set]; exact HBn.out), (by show _ = _; rw [cnt_set B m HBk.out, HBc.out]), HA10.out⟩
                        case measure => simp [intOf]; omega
                    · have hioi : ¬ (i : Int) < (nx : Int) := by omega
                      obtain ⟨gz, oz, ez, hrg⟩ := (rngU HL.out).2 WC HA.out.bel m hkl
                      cases ez
                      have hput := put_sel HBl.out hkl HBk.out Hok.out
                      have hbd := Hbl.out _ (List.getElem_mem hkl)
                      have hIn := HA.out.ins (((B.take m).count true : Nat) : Int) (l[m]'hkl) hbd
                      rw [hput.1, hput.2] at hIn
                      generalize hpe : l[m]'hkl = p at hrg hIn hput hbd
                      have z0 : WC.cell? ⟨gz, oz + m * 12, none⟩ = some (.int .i64 p.i) := hrg 0 _ rfl
                      have z1 : WC.cell? ⟨gz, oz + m * 12 + 1, none⟩ = some (.int .u32 (p.s : Int)) := hrg 1 _ rfl
                      have z2 : WC.cell? ⟨gz, oz + m * 12 + 2, none⟩ = some (.int .i64 p.sl) := hrg 2 _ rfl
                      have z3 : WC.cell? ⟨gz, oz + m * 12 + 3, none⟩ = some (.int .u32 (p.d : Int)) := hrg 3 _ rfl
                      have z4 : WC.cell? ⟨gz, oz + m * 12 + 4, none⟩ = some (.int .i64 p.dl) := hrg 4 _ rfl
                      have z5 : WC.cell? ⟨gz, oz + m * 12 + 5, none⟩ = some (.int .u16 (p.p.1 : Int)) := hrg 5 _ rfl
                      have z6 : WC.cell? ⟨gz, oz + m * 12 + 6, none⟩ = some (.int .u16 (p.p.2 : Int)) := hrg 6 _ rfl
                      have z7 : WC.cell? ⟨gz, oz + m * 12 + 7, none⟩ = some (.int .u16 (p.q.1 : Int)) := hrg 7 _ rfl
                      have z8 : WC.cell? ⟨gz, oz + m * 12 + 8, none⟩ = some (.int .u16 (p.q.2 : Int)) := hrg 8 _ rfl
                      have z9 : WC.cell? ⟨gz, oz + m * 12 + 9, none⟩ = some (.int .u8 (p.m.1 : Int)) := hrg 9 _ rfl
                      have z10 : WC.cell? ⟨gz, oz + m * 12 + 10, none⟩ = some (.int .u8 (p.m.2 : Int)) := hrg 10 _ rfl
                      have z11 : WC.cell? ⟨gz, oz + m * 12 + 11, none⟩ = some (.int .i64 p.act) := hrg 11 _ rfl
                      clear hrg hput hbd hpe
                      go_wp2_with (go_at_call 15; fail)
                      refine hIn.mono ?_
                      rintro e W9 ⟨rfl, hA9⟩
                      have HA10 : Hid (Alk w (W9.setCell ⟨Bi, m, none⟩ (.bool true)) X Y Bi l (sel (B.set m true) l) (B.set m true)) := hA9.set m true
                      have hc9 := hA9.cell HBk.out
                      obtain ⟨c9, f9⟩ := hc9
                      clear hIn hA9 HA z0 z1 z2 z3 z4 z5 z6 z7 z8 z9 z10 z11
                      go_wp2_with (fail)
                      go_roundw
                      case rel => exact ⟨i + 1, B.set m true, by omega, by go_num, (by show _ = _; rw [List.length_set]; exact HBn.out), (by show _ = _; rw [cnt_set B m HBk.out, HBc.out]), HA10.out⟩
                      case measure => simp [intOf]; omega
    · obtain rfl : i = n := by omega
      have hni : ¬ (i : Int) < (i : Int) := by omega
      have HAl : Hid (Alk w wr X Y Bi l l B) := by
        have h := HA.out
        rw [sel_all B l (by rw [HBn.out, Hn.out]) (fun b hb => by
          have := (List.count_eq_length (a := true) (l := B)).1 (by rw [HBc.out, HBn.out]) b hb
          exact this.symm)] at h
        exact h
      clear HA HA0
      as_aux_lemma =>
        go_wp2_with (fail)
        go_loopw [19] (fun vj wr => ∃ j : Nat, j ≤ nh ∧ vj = .int .i64 (j : Int) ∧ Hid (Alk w wr X Y Bi l l B)) (fun vj _ => nh - (intOf vj).toNat)
        case atStart => exact ⟨0, Nat.zero_le _, rfl, HAl⟩
        case round =>
          obtain ⟨j, hj, rfl, HAa⟩ := hrel
          by_cases hlj : j < nh
          · have hjl : j < hds.length := by rw [← Hnh.out]; exact hlj
            have hlji : (j : Int) < (nh : Int) := by omega
            have ohd := HHo.out _ (List.getElem_mem hjl)
            obtain ⟨hd, hde⟩ : ∃ hd, hd = hds[j]'hjl := ⟨_, rfl⟩
            rw [← hde] at ohd
            have Hde : Hid (hd = hds[j]'hjl) := hde
            clear hde
            obtain ⟨gha, oha, eha, hrg⟩ := HH.out.rng wr HAa.out.bel j hjl
            cases eha
            have hcla0 : wr.cell? ⟨gha, oha + j * 5, none⟩ = some (.int .u32 (hd.s : Int)) := by have := hrg 0 _ rfl; rw [← Hde.out] at this; exact this
            have hcla1 : wr.cell? ⟨gha, oha + j * 5 + 1, none⟩ = some (.int .u32 (hd.d : Int)) := by have := hrg 1 _ rfl; rw [← Hde.out] at this; exact this
            have hcla2 : wr.cell? ⟨gha, oha + j * 5 + 2, none⟩ = some (.int .u16 (hd.p : Int)) := by have := hrg 2 _ rfl; rw [← Hde.out] at this; exact this
            have hcla3 : wr.cell? ⟨gha, oha + j * 5 + 3, none⟩ = some (.int .u16 (hd.q : Int)) := by have := hrg 3 _ rfl; rw [← Hde.out] at this; exact this
            have hcla4 : wr.cell? ⟨gha, oha + j * 5 + 4, none⟩ = some (.int .u8 (hd.r : Int)) := by have := hrg 4 _ rfl; rw [← Hde.out] at this; exact this
            clear hrg
            have hKx := fun V (h : Alk w V X Y Bi l l B) => h.askX hd ohd
            have hKy := fun V (h : Alk w V X Y Bi l l B) => h.askY hd ohd
            unfold vdV at hKx hKy
            generalize vdH (mat l hd) = vb at *
            generalize vdI l (mat l hd) = vi at *
            generalize vdA aC.a l (mat l hd) = va at *
            go_wp2_with (go_at_call 10; fail)
            refine (hKx _ HAa.out).mono ?_
            rintro e V1 ⟨a1, b1, d1, rfl, hb1⟩
            have HA1 : Hid (Alk w V1 X Y Bi l l B) := HAa.out.on hb1
            have hb2 : Below V1.heap.size V1 ((V1.alloc (.cells #[.bool vb, .int .i64 vi, .int .i64 va] 36)).alloc (.cells #[.int .i64 0, .int .i64 a1, .int .i64 0, .int .i64 b1, .int .i64 d1] 38)) := ((Below.refl _ _).alloc (Nat.le_refl _) _).alloc (by simp) _
            have HAb : Hid (Alk w ((V1.alloc (.cells #[.bool vb, .int .i64 vi, .int .i64 va] 36)).alloc (.cells #[.int .i64 0, .int .i64 a1, .int .i64 0, .int .i64 b1, .int .i64 d1] 38)) X Y Bi l l B) := HA1.out.on hb2
            have KV : Hid (((V1.alloc (.cells #[.bool vb, .int .i64 vi, .int .i64 va] 36)).alloc (.cells #[.int .i64 0, .int .i64 a1, .int .i64 0, .int .i64 b1, .int .i64 d1] 38)).heap[V1.heap.size]? = some (.cells #[.bool vb, .int .i64 vi, .int .i64 va] 36 (0, 0))) := blk_alloc (blk_new V1 _) _
            clear hb1 hb2 hKx HA1 HAa hcla0 hcla1 hcla2 hcla3 hcla4
            go_upto_region 36 with (fail)
            try simp only [World.size_alloc]
            generalize (V1.alloc (.cells #[.bool vb, .int .i64 vi, .int .i64 va] 36)).alloc (.cells #[.int .i64 0, .int .i64 a1, .int .i64 0, .int .i64 b1, .int .i64 d1] 38) = V2 at *
            obtain ⟨ghb, ohb, ehb, hrg⟩ := HH.out.rng V2 HAb.out.bel j hjl
            cases ehb
            have hclb0 : V2.cell? ⟨gha, oha + j * 5, none⟩ = some (.int .u32 (hd.s : Int)) := by have := hrg 0 _ rfl; rw [← Hde.out] at this; exact this
            have hclb1 : V2.cell? ⟨gha, oha + j * 5 + 1, none⟩ = some (.int .u32 (hd.d : Int)) := by have := hrg 1 _ rfl; rw [← Hde.out] at this; exact this
            have hclb2 : V2.cell? ⟨gha, oha + j * 5 + 2, none⟩ = some (.int .u16 (hd.p : Int)) := by have := hrg 2 _ rfl; rw [← Hde.out] at this; exact this
            have hclb3 : V2.cell? ⟨gha, oha + j * 5 + 3, none⟩ = some (.int .u16 (hd.q : Int)) := by have := hrg 3 _ rfl; rw [← Hde.out] at this; exact this
            have hclb4 : V2.cell? ⟨gha, oha + j * 5 + 4, none⟩ = some (.int .u8 (hd.r : Int)) := by have := hrg 4 _ rfl; rw [← Hde.out] at this; exact this
            clear hrg
            go_wp2_with (go_at_call 10; fail)
            refine (hKy _ HAb.out).mono ?_
            rintro e V3 ⟨a2, b2, d2, rfl, hb3⟩
            have HA3 : Hid (Alk w V3 X Y Bi l l B) := HAb.out.on hb3
            have KV3 : Hid _ := blk_on KV.out hb3
            have hb4 : Below V3.heap.size V3 ((V3.alloc (.cells #[.bool vb, .int .i64 vi, .int .i64 va] 36)).alloc (.cells #[.int .i64 0, .int .i64 a2, .int .i64 0, .int .i64 b2, .int .i64 d2] 38)) := ((Below.refl _ _).alloc (Nat.le_refl _) _).alloc (by simp) _
            have HAc : Hid (Alk w ((V3.alloc (.cells #[.bool vb, .int .i64 vi, .int .i64 va] 36)).alloc (.cells #[.int .i64 0, .int .i64 a2, .int .i64 0, .int .i64 b2, .int .i64 d2] 38)) X Y Bi l l B) := HA3.out.on hb4
            have KU : Hid (((V3.alloc (.cells #[.bool vb, .int .i64 vi, .int .i64 va] 36)).alloc (.cells #[.int .i64 0, .int .i64 a2, .int .i64 0, .int .i64 b2, .int .i64 d2] 38)).heap[V3.heap.size]? = some (.cells #[.bool vb, .int .i64 vi, .int .i64 va] 36 (0, 0))) := blk_alloc (blk_new V3 _) _
            have KV4 : Hid _ := blk_on KV3.out hb4
            clear hb3 hb4 hKy HA3 HAb KV KV3 hclb0 hclb1 hclb2 hclb3 hclb4
            go_upto_region 37 with (fail)
            try simp only [World.size_alloc]
            generalize (V3.alloc (.cells #[.bool vb, .int .i64 vi, .int .i64 va] 36)).alloc (.cells #[.int .i64 0, .int .i64 a2, .int .i64 0, .int .i64 b2, .int .i64 d2] 38) = V4 at *
            obtain ⟨v0, v1, v2⟩ := blk3 KV4.out
            obtain ⟨u0, u1, u2⟩ := blk3 KU.out
            go_wp2_with (fail)
            go_roundw
            case rel => exact ⟨j + 1, by omega, by go_num, HAc.out⟩
            case measure => simp [intOf]; omega
          · obtain rfl : j = nh := by omega
            have hnj : ¬ (j : Int) < (j : Int) := by omega
            have HBf : Hid (Below w.heap.size w wr) := HAa.out.bel
            go_wp2_with (go_at_call 9; refine (awake19 _).mono ?_; rintro e V9 ⟨rfl, hb9⟩)
            go_ret
            exact ⟨rfl, HBf.out.trans (Below.mono (by assumption) HBf.out.size)⟩

set_option maxRecDepth 100000 in
theorem tupleAlike_lifted (os : Os) (started : os.Started) (H : Type) (enc : TypeId × Value → H) :
    ReturnsInHanded {} Try.checked os 4 .any (Rows.tupleAlikeSpec.pre6 enc Try.prog Try.f4 Rows.tupleAlikeRow.domain false) (Rows.tupleAlikeSpec.post enc Try.prog Try.f4 false true false false) := by
  refine returnsInHanded_of_change (C := Try.checked) own started (by kernel_rfl) Try.func4
    (ChangeSpec.witness6 (enc := enc) (C := Try.checked) false ⟨#[], #[.slice none 0 0, .slice none 0 0, .slice none 0 0, .slice none 0 0], []⟩ 8 (by kernel_rfl) (by kernel_rfl) (by kernel_rfl) (by kernel_rfl)) ?_
  intro W base args ds gs before hval0 hW hcnd _
  have hval : ∀ (j : Nat) t v, Try.f4.params[j]? = some t → args[j]? = some v → Value.okWide Try.prog W .any base t v := hval0
  have hW' := hW
  obtain ⟨p, q, hA0, hV, rfl, hfz, hnd⟩ := hW
  have hA : DataW.TrodAll enc Try.prog W 0 (fun _ => true) true Try.f4.params.toList args.toList ds p := hA0
  rw [Try.params4] at hA hval
  obtain ⟨v0, vs0, d0, ds0, p0, q0, hargs, rfl, rfl, h0, r0⟩ := trodAll_cons hA
  obtain ⟨v1, vs1, d1, ds1, p1, q1, rfl, rfl, rfl, h1, r1⟩ := trodAll_cons r0
  obtain ⟨v2, vs2, d2, ds2, p2, q2, rfl, rfl, rfl, h2, r2⟩ := trodAll_cons r1
  obtain ⟨v3, vs3, d3, ds3, p3, q3, rfl, rfl, rfl, h3, r3⟩ := trodAll_cons r2
  obtain ⟨rfl, rfl, rfl⟩ := trodAll_nil r3
  obtain rfl : args = #[v0, v1, v2, v3] := by cases args; simp_all
  obtain ⟨rfl, rfl⟩ := trodVars_none hV
  have hlt0 : ∀ x ∈ p0, x.block < W.heap.size := fun x hx => by simpa using hW'.lt x (by simp [hx])
  obtain ⟨l0, s0, bd0⟩ := open_rus (hval 0 46 v0 rfl rfl) h0
  have hlt1 : ∀ x ∈ p1, x.block < W.heap.size := fun x hx => by simpa using hW'.lt x (by simp [hx])
  obtain ⟨l1, s1, bd1⟩ := open_is (hval 1 47 v1 rfl rfl) h1
  have hlt2 : ∀ x ∈ p2, x.block < W.heap.size := fun x hx => by simpa using hW'.lt x (by simp [hx])
  obtain ⟨l2, s2, bd2⟩ := open_rus (hval 2 46 v2 rfl rfl) h2
  have hlt3 : ∀ x ∈ p3, x.block < W.heap.size := fun x hx => by simpa using hW'.lt x (by simp [hx])
  obtain ⟨l3, s3, bd3⟩ := open_hds (hval 3 48 v3 rfl rfl) h3
  clear hA0 hval0
  simp only [List.append_nil] at hW'
  refine (tupleAlike_walk l0 v0 bd0 l1 v1 bd1 l2 v2 bd2 l3 v3 bd3 W s0 s1 s2 s3).mono fun e W' ⟨he, bel⟩ => ?_
  subst he
  exact ⟨_, rfl, _, _, _, [], _, [], hW', trodAll_mk1 (shut_bool Try.underlying4 _), (trodAll_cons_mk (Below.trod laidOut (by kernel_rfl) (of_decide_eq_true (by kernel_rfl)) h0 bel hlt0) (trodAll_cons_mk (Below.trod laidOut (by kernel_rfl) (of_decide_eq_true (by kernel_rfl)) h1 bel hlt1) (trodAll_cons_mk (Below.trod laidOut (by kernel_rfl) (of_decide_eq_true (by kernel_rfl)) h2 bel hlt2) (trodAll_cons_mk (Below.trod laidOut (by kernel_rfl) (of_decide_eq_true (by kernel_rfl)) h3 bel hlt3) trodAll_mk0)))), rfl, bel.frame _, fun h => by cases h⟩

/-- The given statement. -/
theorem tupleAlike_holds : Rows.TupleAlikeSaid :=
  OpenClaim.holds_of_wide 4 Try.f4 rfl rfl rfl rfl rfl rfl rfl ⟨rfl, rfl, rfl, rfl, rfl⟩ rfl rfl rfl rfl rfl (by kernel_rfl) Try.func4 (by kernel_rfl)
    (of_decide_eq_true (by kernel_rfl)) (by unfold Func.isWrapper; first | (rw [if_pos (by decide +kernel)]; kernel_rfl) | (rw [if_neg (by decide +kernel)]; exact ⟨rfl, rfl⟩))
    (fun os started H enc _ => tupleAlike_lifted os started H enc)
#print axioms tupleAlike_holds
end Go.Proofs.Ytfpmljgmfapoiaa
