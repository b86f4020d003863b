/-
  BitsText of quintetlaw01 answers true for every word and number: Text answers as the document's answer does, each byte is the bit that At tells, and the document's examples hold.
  Conditions: the table of the ones of four bits reads as its initialiser lays it when the call begins (the card ties that to the program's text). Nothing else is asked.
-/
import Derived.Test.YtejcckkekjkmlaaDoorFrame
import Derived.Test.YtejcckkekjkmlaaDoorCards
import Derived.Test.YtejcckkekjkmlaaDoorTie
import Derived.SevenTiedAt
namespace Go.Proofs.YtejcckkekjkmlaaDoor
open Go.ChangeShapes Go.WideShapes Go.ChangeAt Go.RowKit
set_option linter.unusedVariables false

theorem sign_at (a n k : Nat) (h : k < n) (hk : k < (strOfNums (signs a n)).size) : (((strOfNums (signs a n))[k]'hk).toNat : Int) = 48 + (tb a k : Int) := by
  have e : (strOfNums (signs a n))[k]'hk = UInt8.ofNat (48 + (tb a k : Int)).toNat := by
    show (strOfNums (signs a n)).data[k] = _
    simp [strOfNums, signs]
  have ht := tb_lt a k
  rw [e, UInt8.toNat_ofNat']
  omega
set_option maxRecDepth 100000 in
theorem bitsText_walk (a0 n : Int) (w0 : (Lit.int .u32 a0).wf = true) (w1 : (Lit.int .i64 n).wf = true) (w : World) (ht : Tab w) :
    Calls Tryd.prog 8 #[.int .u32 a0, .int .i64 n] w fun e w' => e = .returned (.bool true) ∧ Below w.heap.size w w' := by
  have hb := bounds_u32 w0
  obtain ⟨a, rfl⟩ := Int.eq_ofNat_of_zero_le hb.1
  have ha : a < 4294967296 := by omega
  clear hb w0 w1
  have HA : Hid (∀ w1 : World, Below w.heap.size w w1 → Calls Tryd.prog 11 #[] w1 fun e w' => e = .returned (.bool true) ∧ Below w.heap.size w w') := fun w1 hb1 =>
    (awake_any w1 (ht.below hb1)).mono fun e w' ⟨he, hw⟩ => ⟨he, hb1.trans (hw.mono hb1.size)⟩
  clear ht
  by_cases hn : 0 ≤ n ∧ n ≤ 32
  · obtain ⟨k, rfl⟩ := Int.eq_ofNat_of_zero_le hn.1
    have hk : k ≤ 32 := by omega
    clear hn
    have T1 : Hid (∀ w1 : World, Below w.heap.size w w1 → Calls Tryd.prog 24 #[.int .u32 a, .int .i64 k] w1 fun e w' => e = .returned (.tuple #[.string (strOfNums (signs a k)), .int .i64 0]) ∧ Below w.heap.size w w') := fun w1 hb1 =>
      (text_in a k w1 ha hk).mono fun e w' ⟨he, hw⟩ => ⟨he, hb1.trans (hw.mono hb1.size)⟩
    have T2 : Hid (∀ w1 : World, Below w.heap.size w w1 → Calls Tryd.prog 25 #[.int .u32 a, .int .i64 k] w1 fun e w' => e = .returned (.tuple #[.string (strOfNums (signs a k)), .int .i64 0]) ∧ Below w.heap.size w w') := fun w1 hb1 =>
      (rtext_in a k w1 ha hk).mono fun e w' ⟨he, hw⟩ => ⟨he, hb1.trans (hw.mono hb1.size)⟩
    have HS : Hid (∀ j (h : j < k) (hj : j < (strOfNums (signs a k)).size), (((strOfNums (signs a k))[j]'hj).toNat : Int) = 48 + (tb a j : Int)) := fun j h hj => sign_at a k j h hj
    have hsz := text_size a k
    generalize strOfNums (signs a k) = s at T1 T2 HS hsz
    have hb0 : Below w.heap.size w w := Below.refl _ _
    go_enter Tryd.func8, Tryd.ntmps8
    go_wp2_with (first | (go_at_call 24; refine (T1.out _ (by assumption)).mono ?_; rintro e w1 ⟨rfl, hbel1⟩) | (go_at_call 25; refine (T2.out _ (by assumption)).mono ?_; rintro e w2 ⟨rfl, hbel2⟩))
    go_loop [9] (fun i => ∃ j : Nat, j ≤ k ∧ i = .int .i64 j) (fun i => k - (intOf i).toNat)
    case atStart => exact ⟨0, Nat.zero_le _, rfl⟩
    case round =>
      obtain ⟨j, hj, rfl⟩ := hrel
      have htb := tb_lt a j
      by_cases hlt : j < k
      · have hjs : j < s.size := by omega
        have hbyte := HS.out j hlt hjs
        go_wp2_with (go_at_call 14; refine (at_in a j _ ha (by omega)).mono ?_; rintro e w' ⟨rfl, hw⟩; obtain rfl := hw.symm; clear hw)
        go_round
        case rel => exact ⟨j + 1, by omega, by go_num⟩
        case measure => simp [intOf]; omega
      · go_wp2_with (go_at_call 11; refine (HA.out _ (by assumption)).mono ?_; rintro e w3 ⟨rfl, hbel3⟩)
        go_ret
        exact ⟨rfl, by assumption⟩
  · have HN : Hid (n < 0 ∨ 32 < n) := by show n < 0 ∨ 32 < n; omega
    clear hn
    have hb0 : Below w.heap.size w w := Below.refl _ _
    go_enter Tryd.func8, Tryd.ntmps8
    go_wp2_with (first | (go_at_call 24; refine (text_out _ n _ HN.out).mono ?_; rintro e w' ⟨rfl, hw⟩; obtain rfl := hw.symm; clear hw) | (go_at_call 25; refine (rtext_out _ n _ HN.out).mono ?_; rintro e w' ⟨rfl, hw⟩; obtain rfl := hw.symm; clear hw) | (go_at_call 11; refine (HA.out _ (by assumption)).mono ?_; rintro e w2 ⟨rfl, hbel2⟩))
    go_loop [9] (fun i => i = .int .i64 0) (fun _ => 0)
    case atStart => rfl
    case round =>
      subst hrel
      go_wp2_with (go_at_call 11; refine (HA.out _ (by assumption)).mono ?_; rintro e w3 ⟨rfl, hbel3⟩)
      go_ret
      exact ⟨rfl, by assumption⟩

set_option maxRecDepth 100000 in
theorem bitsText_lifted (os : Os) (started : os.Started) (H : Type) (enc : TypeId × Value → H) :
    ReturnsInHanded {} Tryd.checked os 8 .any (fun w args => (Rows.bitsTextSpec.pre enc Tryd.prog Tryd.f8 [] false w args ∧ laidMetH Tryd.prog laidList w) ∧ sizedMet enc Tryd.prog Tryd.f8 (OpenSpec.ofChange Rows.bitsTextSpec) false w args)
      (Rows.bitsTextSpec.post enc Tryd.prog Tryd.f8 false true false false) := by
  refine returnsInHanded_of_change_and (C := Tryd.checked) (X := fun w _ => laidMetH Tryd.prog laidList w) (fun _ _ _ hh h => h.of_heap hh) own started (by kernel_rfl) Tryd.func8
    (ChangeSpec.witness_shaped (enc := enc) (C := Tryd.checked) (os := os) (X := fun w _ => laidMetH Tryd.prog laidList w) false (World.doorLaid Tryd.prog 400 os) #[.int .u32 0, .int .i64 0] 8 rfl (World.shaped_of_RefB (by kernel_rfl) (by kernel_rfl)) (by kernel_rfl) (by kernel_rfl) (by kernel_rfl) (door_met os _)) ?_
  intro W base args ds gs before hval0 hW _ _ hL _
  have hval : ∀ (j : Nat) t v, Tryd.f8.params[j]? = some t → args[j]? = some v → Value.okWide Tryd.prog W .any base t v := hval0
  have hW' := hW
  obtain ⟨p, q, hA0, hV, rfl, hfz, hnd⟩ := hW
  have hA : DataW.TrodAll enc Tryd.prog W 0 (fun _ => true) true Tryd.f8.params.toList args.toList ds p := hA0
  rw [Tryd.params8] at hA hval
  obtain ⟨v0, vs0, d0, ds0, p0, q0, hargs, rfl, rfl, h0, r0⟩ := trodAll_cons hA
  obtain ⟨v1, vs1, d1, ds1, p1, q1, rfl, rfl, rfl, h1, r1⟩ := trodAll_cons r0
  obtain ⟨rfl, rfl, rfl⟩ := trodAll_nil r1
  obtain rfl : args = #[v0, v1] := by cases args; simp_all
  obtain ⟨rfl, rfl⟩ := trodVars_none hV
  obtain ⟨a0, rfl, rfl, rfl, w0⟩ := open_int Tryd.underlying22 (hval 0 22 v0 rfl rfl) h0
  obtain ⟨a1, rfl, rfl, rfl, w1⟩ := open_int Tryd.underlying3 (hval 1 3 v1 rfl rfl) h1
  clear hA0 hval0
  simp only [List.append_nil] at hW'
  refine (bitsText_walk a0 a1 w0 w1 W (tab_of_laid hL)).mono fun e W' ⟨he, bel⟩ => ?_
  subst he
  exact ⟨_, rfl, _, _, _, [], _, [], hW', trodAll_mk1 (shut_bool Tryd.underlying4 _), (trodAll_cons_mk (shut_int Tryd.underlying22 w0) (trodAll_cons_mk (shut_int Tryd.underlying3 w1) trodAll_mk0)), rfl, bel.frame _, fun h => by cases h⟩

theorem bitsText_row : Rows.BitsTextSaid :=
  OpenClaim.holds_of_wide 8 Tryd.f8 rfl rfl rfl rfl rfl rfl rfl ⟨rfl, rfl, rfl, rfl, rfl⟩ rfl rfl rfl rfl rfl (by kernel_rfl) Tryd.func8 (by kernel_rfl)
    (of_decide_eq_true (by kernel_rfl)) (by unfold Func.isWrapper; first | (rw [if_pos (by decide +kernel)]; kernel_rfl) | (rw [if_neg (by decide +kernel)]; exact ⟨rfl, rfl⟩))
    (fun os started H enc _ => bitsText_lifted os started H enc)

/-- The given card. -/
theorem bitsText_card : Rows.BitsTextCardSaid :=
  Claim7.holds_tied_plain_at .later [] [.data] true (true, "d38108fa3090d970c9e4478c4131f5f855a4f57af7adfa0ae6ab068f45a70ef7") false
    bitsText_row (fun _ h => by cases h) (by kernel_rfl) (fun _ h => by cases h) bitsText_row_tie rfl ⟨rfl, rfl⟩ (by kernel_rfl) rfl
    (fun f fn hf hfn => by
      obtain rfl : f = 8 := Option.some.inj ((show Tryd.prog.funcNamed "quintet/quintetlaw01.BitsText" = some 8 by kernel_rfl).symm.trans hf) |>.symm
      obtain rfl : fn = Tryd.f8 := (Option.some.inj (Tryd.func8.symm.trans hfn)).symm
      exact ⟨by kernel_rfl, fun j t ht => by
        rw [Tryd.params8] at ht
        have hm : t ∈ [22, 3] := by simpa using Array.mem_of_getElem? ht
        have hall : ([22, 3].all fun u => !Tryd.prog.wantsStandIn u) = true := by kernel_rfl
        exact (show Tryd.prog.wantsStandIn t = false by simpa using List.all_eq_true.1 hall t hm)⟩)
    (by kernel_rfl)
#print axioms bitsText_card
end Go.Proofs.YtejcckkekjkmlaaDoor
