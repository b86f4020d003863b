/-
  For every list of protocols, mask.Hull answers as the document says, and leaves what it was handed, and what lies behind it, as it was (P4.5); and the examples of the document hold.
  Conditions: none; the law holds for every input.
-/
import Derived.Test.YtphfjhkbbodfaaaMkAw
import Derived.Test.YtphfjhkbbodfaaaMkG
import Derived.Test.YtphfjhkbbodfaaaMkHl
import Derived.Test.YtphfjhkbbodfaaaMkFrame
namespace Go.Proofs.Ytphfjhkbbodfaaa
open Go.ChangeShapes Go.WideShapes Go.ChangeAt Go.RowKit Go.Joins
set_option linter.unusedVariables false
set_option linter.unusedSimpArgs false

theorem hulls_alike (l : List Nat) (hl : l.length ≤ 4294967296) (bd : BdB l) : ∃ (p q : Nat) (e : Int),
    (∀ v w, SrcB w v l → Calls Try.prog 26 #[v] w fun r w' => r = .returned (.tuple #[.agg #[.int .u8 p, .int .u8 q], .int .i64 e]) ∧ Below w.heap.size w w')
    ∧ (∀ v w, SrcB w v l → Calls Try.prog 27 #[v] w fun r w' => r = .returned (.tuple #[.agg #[.int .u8 p, .int .u8 q], .int .i64 e]) ∧ Below w.heap.size w w') := by
  by_cases h0 : 0 < l.length
  · exact ⟨_, _, 0, fun v w h => hull_some l v w h hl bd l[0] ⟨h0, rfl⟩, fun v w h => rhull_some l v w h hl bd l[0] ⟨h0, rfl⟩⟩
  · obtain rfl : l = [] := List.eq_nil_of_length_eq_zero (by omega)
    exact ⟨0, 0, 1, fun v w h => hull_nil v w h, fun v w h => rhull_nil v w h⟩
set_option maxRecDepth 100000 in
set_option maxHeartbeats 4000000 in
theorem maskHulls_walk (l : List Nat) (lv : Value) (bd : BdB l) (ml : l.length ≤ maxLen) (w : World) (hs : SrcB w lv l) :
    Calls Try.prog 7 #[lv] w fun e w' => e = .returned (.bool true) ∧ Below w.heap.size w w' := by
  have hs2 := hs
  obtain ⟨ad, cap, rfl, hat⟩ := hs
  by_cases hbig : l.length ≤ 16777216
  · obtain ⟨p, q, er, hh1, hh2⟩ := hulls_alike l (by omega) bd
    obtain ⟨i0, hi, hz0, hz1, hz2⟩ := info_parts info_u8
    have hmk : ∀ W : World, (Instr.makeSlice 29 (.int .i64 (l.length : Int)) (.int .i64 ((l.length : Int) + 1))).run Try.prog W = .ok (.slice (some ⟨W.heap.size, 0, none⟩) l.length (l.length + 1)) (W.alloc (.cells (madeCells #[.int .u8 0] (l.length + 1)) 5)) := fun W => by
      have := run_make (P := Try.prog) W 29 5 i0 (.int .u8 0) Try.underlying29 hi hz0 .i64 .i64 (l.length : Int) ((l.length : Int) + 1) (by omega) (by omega) (by rw [hz2]; omega) (by omega)
      have e2 : ((l.length : Int) + 1).toNat = l.length + 1 := by omega
      simpa [hz1, Value.cells, e2] using this
    obtain ⟨w1, hcp, C1, z1, F1, B1, L1⟩ := lentB w l _ hs2 3
    have HC1 : Hid (∀ k (hk : k < l.length), w1.cell? ⟨w.heap.size, k, none⟩ = some (.int .u8 ((l[k]'hk : Nat) : Int))) := C1
    have HB1 : Hid (Below w.heap.size w w1) := B1
    have HS0 : Hid (SrcB w (.slice ad l.length cap) l) := hs2
    have fz := F1 l.length
    clear hi hz0 hz1 hz2 C1 F1 B1 hs2 hat
    obtain ⟨n, hn⟩ : ∃ n, n = l.length := ⟨_, rfl⟩
    have HLn : Hid (n = l.length) := hn
    rw [← hn] at hmk hcp z1 fz hbig ⊢
    have HSn : Hid (SrcB w (.slice ad n cap) l) := by rw [hn]; exact HS0.out
    clear HS0 hn
    have hng : ¬ (16777216 : Int) < ((n : Nat) : Int) := by omega
    have hnd : decide ((16777216 : Int) < ((n : Nat) : Int)) = false := decide_eq_false hng
    have hn0 : (0 : Int) ≤ ((n : Nat) : Int) := by omega
    go_enter Try.func7, Try.ntmps7
    go_wp2_with (fail)
    obtain ⟨w2, hw2⟩ : ∃ w2, w2 = w1.setCell ⟨w.heap.size, n, none⟩ (.int .u8 99) := ⟨_, rfl⟩
    have HC2 : Hid (∀ k (hk : k < l.length), w2.cell? ⟨w.heap.size, k, none⟩ = some (.int .u8 ((l[k]'hk : Nat) : Int))) := fun k hk => by
      have h1 := HC1.out k hk
      have h2 := HLn.out
      have h3 : ¬ k = n := by omega
      have h4 : ¬ n = k := by omega
      rw [hw2]
      simp [go_sem, h1, h3, h4]
    have z2 : w2.cell? ⟨w.heap.size, n, none⟩ = some (.int .u8 99) := by rw [hw2]; simp [go_sem, z1]
    have HB2 : Hid (Below w.heap.size w w2) := by rw [hw2]; exact HB1.out.setCell (Nat.le_refl _) _
    have L2 : w.heap.size < w2.heap.size := World.block_lt_of_cell? _ _ z2
    rw [← hw2]
    clear hw2 HC1 HB1 z1 fz hmk hcp L1
    have hsrc : Hid (∀ W, Below w2.heap.size w2 W → SrcB W (.slice (some ⟨w.heap.size, 0, none⟩) n (n + 1)) l) := fun W hb =>
      ⟨some ⟨w.heap.size, 0, none⟩, n + 1, by rw [HLn.out], fun _ => ⟨w.heap.size, 0, rfl, fun k hk => by rw [Nat.zero_add]; exact cell_on1 hb (HC2.out k hk)⟩⟩
    refine (hh1 _ _ (hsrc.out _ (Below.refl _ _))).mono ?_
    rintro e w3 ⟨rfl, hb3⟩
    have z3 := cell_on1 hb3 z2
    have HB3 : Hid (Below w2.heap.size w2 w3) := hb3
    have hz3 := hb3.size
    clear hb3 hh1 z2 hsrc
    go_wp2_with (fail)
    refine (hh2 _ _ (HSn.out.keep ((HB2.out.trans (HB3.out.mono (by omega))).alloc (by omega) _))).mono ?_
    rintro e w4 ⟨rfl, hb4⟩
    have z4 := cell_on1 hb4 (cell_allocB z3)
    have m0 : w4.cell? ⟨w3.heap.size, 0, none⟩ = some (.int .u8 p) := cell_on1 hb4 (by simp [go_sem])
    have m1 : w4.cell? ⟨w3.heap.size, 1, none⟩ = some (.int .u8 q) := cell_on1 hb4 (by simp [go_sem])
    have hz4 := hb4.size
    simp at hz4
    have HB4 : Hid (Below w2.heap.size w2 w4) := (HB3.out.alloc hz3 _).trans (hb4.mono (by simp; omega))
    have l4 : w3.heap.size < w4.heap.size := by omega
    have n4 : ¬ w3.heap.size = w4.heap.size := by omega
    have g4 : ¬ w.heap.size = w4.heap.size := by omega
    have k4 : w.heap.size < w4.heap.size := by omega
    clear hb4 hh2 z3 HB3
    go_wp2_with (fail)
    obtain ⟨W, hW⟩ : ∃ W, W = w4.alloc (.cells #[.int .u8 p, .int .u8 q] 23) := ⟨_, rfl⟩
    have hb4W : Below w4.heap.size w4 W := by rw [hW]; exact (Below.refl _ _).alloc (Nat.le_refl _) _
    have M0 := cell_on1 hb4W m0
    have M1 := cell_on1 hb4W m1
    have N0 : W.cell? ⟨w4.heap.size, 0, none⟩ = some (.int .u8 p) := by rw [hW]; simp [go_sem]
    have N1 : W.cell? ⟨w4.heap.size, 1, none⟩ = some (.int .u8 q) := by rw [hW]; simp [go_sem]
    have HBW : Hid (Below w2.heap.size w2 W) := HB4.out.trans (hb4W.mono (by omega))
    have HCW : Hid (∀ k (hk : k < l.length), W.cell? ⟨w.heap.size, k, none⟩ = some (.int .u8 ((l[k]'hk : Nat) : Int))) := fun k hk => cell_on1 HBW.out (HC2.out k hk)
    have HSW : Hid (SrcB W (.slice ad n cap) l) := HSn.out.keep (HB2.out.trans (HBW.out.mono (by omega)))
    have HWw : Hid (Below w.heap.size w W) := HB2.out.trans (HBW.out.mono (by omega))
    rw [← hW]
    clear hW hb4W m0 m1 z4 HB4 HBW HC2 HB2 HSn hz3 hz4
    go_loopw [9, 10] (fun sv iv wr => ∃ k : Nat, k ≤ n ∧ iv = .int .i64 k ∧ sv = .bool true ∧ Hid (Below W.heap.size W wr)) (fun _ iv _ => n - (intOf iv).toNat)
    case atStart => exact ⟨0, Nat.zero_le _, rfl, rfl, Below.refl _ _⟩
    case round =>
      obtain ⟨k, hk, rfl, rfl, hbw⟩ := hrel
      by_cases hlt : k < n
      · have hlt' : (k : Int) < ((n : Nat) : Int) := by omega
        have hlt2 : (k : Int) < ((n : Nat) : Int) + 1 := by omega
        have hk0 : (0 : Int) ≤ (k : Int) := by omega
        have hkl : k < l.length := by have := HLn.out; omega
        obtain ⟨ad', cap', he, hat⟩ := HSW.out.keep hbw.out
        simp only [Value.slice.injEq] at he
        obtain ⟨rfl, _, rfl⟩ := he
        obtain ⟨g, off, rfl, hat2⟩ := hat (by omega)
        have x0 := hat2 k hkl
        have x1 := cell_on1 hbw.out (HCW.out k hkl)
        generalize l[k] = pv at x0 x1
        clear hat hat2 hkl
        go_wp2_with (fail)
        go_quiet (fail)
        go_wp2_with (fail)
        go_roundw
        case rel => exact ⟨k + 1, by omega, by go_num, by first | rfl | simp, by show Below _ _ _; have := hbw.out; (repeat (first | assumption | exact Below.refl _ _ | refine Below.drew ?_ | refine bel_drewN ?_ _ | refine Below.setCell ?_ (by first | omega | (simp; done) | (simp; omega)) _ | refine Below.alloc ?_ (by first | omega | (simp; done) | (simp; omega)) _ | refine bel_of ?_ (by assumption)))⟩
        case measure => simp [intOf]; omega
      · obtain rfl : k = n := by omega
        have a0 := cell_on1 hbw.out M0
        have a1 := cell_on1 hbw.out M1
        have b0 := cell_on1 hbw.out N0
        have b1 := cell_on1 hbw.out N1
        have hbr : Hid (Below w.heap.size w wr) := HWw.out.trans (hbw.out.mono HWw.out.size)
        have hzr := hbr.out.size
        clear M0 M1 N0 N1 hbw HWw HSW HCW
        go_wp2_with (fail)
        refine (awakeM _).mono ?_
        rintro e w6 ⟨rfl, hb6⟩
        have c0 := cell_on1 hb6 a0
        have c1 := cell_on1 hb6 a1
        have d0 := cell_on1 hb6 b0
        have d1 := cell_on1 hb6 b1
        have hbw6 : Hid (Below w.heap.size w w6) := hbr.out.trans (hb6.mono hzr)
        clear hb6 a0 a1 b0 b1 hbr
        go_wp2_with (fail)
        go_ret
        exact ⟨ret_same (by simp), hbw6.out⟩
  · have hng : (16777216 : Int) < ((l.length : Nat) : Int) := by omega
    have hnd : decide ((16777216 : Int) < ((l.length : Nat) : Int)) = true := decide_eq_true hng
    clear hat hs2
    go_enter Try.func7, Try.ntmps7
    go_wp2_with (fail)
    refine (awakeM _).mono ?_
    rintro e w1 ⟨rfl, hb1⟩
    have hbw1 : Hid (Below w.heap.size w w1) := by show Below _ _ _; (repeat (first | assumption | exact Below.refl _ _ | refine Below.drew ?_ | refine bel_drewN ?_ _ | refine Below.setCell ?_ (by first | omega | (simp; done) | (simp; omega)) _ | refine Below.alloc ?_ (by first | omega | (simp; done) | (simp; omega)) _ | refine bel_of ?_ (by assumption)))
    clear hb1
    go_wp2_with (fail)
    go_ret
    exact ⟨rfl, hbw1.out⟩

set_option maxRecDepth 100000 in
theorem maskHulls_lifted (os : Os) (started : os.Started) (H : Type) (enc : TypeId × Value → H) :
    ReturnsInHanded {} Try.checked os 7 .any (Rows.maskHullsSpec.pre6 enc Try.prog Try.f7 Rows.maskHullsRow.domain false) (Rows.maskHullsSpec.post enc Try.prog Try.f7 false true false false) := by
  refine returnsInHanded_of_change (C := Try.checked) own started (by kernel_rfl) Try.func7
    (ChangeSpec.witness6 (enc := enc) (C := Try.checked) false ⟨#[], #[.slice none 0 0], []⟩ 8 (by kernel_rfl) (by kernel_rfl) (by kernel_rfl) (by kernel_rfl)) ?_
  intro W base args ds gs before hval0 hW hcnd _
  have hval : ∀ (j : Nat) t v, Try.f7.params[j]? = some t → args[j]? = some v → Value.okWide Try.prog W .any base t v := hval0
  have hW' := hW
  obtain ⟨p, q, hA0, hV, rfl, hfz, hnd⟩ := hW
  have hA : DataW.TrodAll enc Try.prog W 0 (fun _ => true) true Try.f7.params.toList args.toList ds p := hA0
  rw [Try.params7] at hA hval
  obtain ⟨v0, vs0, d0, ds0, p0, q0, hargs, rfl, rfl, h0, r0⟩ := trodAll_cons hA
  obtain ⟨rfl, rfl, rfl⟩ := trodAll_nil r0
  obtain rfl : args = #[v0] := by cases args; simp_all
  obtain ⟨rfl, rfl⟩ := trodVars_none hV
  have hlt0 : ∀ x ∈ p0, x.block < W.heap.size := fun x hx => by simpa using hW'.lt x (by simp [hx])
  obtain ⟨l0, s0, bd0, ml0⟩ := open_bys (hval 0 29 v0 rfl rfl) h0
  clear hA0 hval0
  simp only [List.append_nil] at hW'
  refine (maskHulls_walk l0 v0 bd0 ml0 W s0).mono fun e W' ⟨he, bel⟩ => ?_
  subst he
  exact ⟨_, rfl, _, _, _, [], _, [], hW', trodAll_mk1 (shut_bool Try.underlying4 _), (trodAll_cons_mk (Below.trod laidOut (by kernel_rfl) (of_decide_eq_true (by kernel_rfl)) h0 bel hlt0) trodAll_mk0), rfl, bel.frame _, fun h => by cases h⟩

/-- The given statement. -/
theorem maskHulls_holds : Rows.MaskHullsSaid :=
  OpenClaim.holds_of_wide 7 Try.f7 rfl rfl rfl rfl rfl rfl rfl ⟨rfl, rfl, rfl, rfl, rfl⟩ rfl rfl rfl rfl rfl (by kernel_rfl) Try.func7 (by kernel_rfl)
    (of_decide_eq_true (by kernel_rfl)) (by unfold Func.isWrapper; first | (rw [if_pos (by decide +kernel)]; kernel_rfl) | (rw [if_neg (by decide +kernel)]; exact ⟨rfl, rfl⟩))
    (fun os started H enc _ => maskHulls_lifted os started H enc)
#print axioms maskHulls_holds
end Go.Proofs.Ytphfjhkbbodfaaa
