/-
  BitsAlike of quintetlaw01 answers true for any two words and every number: two words are alike in n bits just if they are one word when n bits are kept; turned round twice a word is itself; Low, Same and Turn hang together; the ones of a word and of its complement are 32 in all; and the document's examples hold.
  Conditions: the table of the ones of four bits reads as its initialiser lays it when the call begins (the card ties that to the program's text). Nothing else is asked.
-/
import Derived.Test.YtejcckkekjkmlabDoorFrame
import Derived.Test.YtejcckkekjkmlabDoorCards
import Derived.Test.YtejcckkekjkmlabDoorTie
import Derived.SevenTiedAt
import Derived.Test.YtejcckkekjkmlabDoorPlainB
namespace Go.Proofs.YtejcckkekjkmlabDoor
open Go.ChangeShapes Go.WideShapes Go.ChangeAt Go.RowKit
set_option linter.unusedVariables false

set_option maxRecDepth 100000 in
set_option maxHeartbeats 1000000 in
theorem bitsAlike_walk (a0 b0 n : Int) (w0 : (Lit.int .u32 a0).wf = true) (w1 : (Lit.int .u32 b0).wf = true) (w2 : (Lit.int .i64 n).wf = true) (w : World) (ht : Tab w) :
    Calls Tryd.prog 3 #[.int .u32 a0, .int .u32 b0, .int .i64 n] w fun e w' => e = .returned (.bool true) ∧ Below w.heap.size w w' := by
  have ha' := bounds_u32 w0
  obtain ⟨a, rfl⟩ := Int.eq_ofNat_of_zero_le ha'.1
  have hb' := bounds_u32 w1
  obtain ⟨b, rfl⟩ := Int.eq_ofNat_of_zero_le hb'.1
  have ha : a < 4294967296 := by omega
  have hb : b < 4294967296 := by omega
  clear ha' hb' w0 w1 w2
  have HA : Hid (Calls Tryd.prog 5 #[] w fun e w' => e = .returned (.bool true) ∧ Below w.heap.size w w') := awake_any w ht
  by_cases hn : 0 ≤ n ∧ n ≤ 32
  · obtain ⟨k, rfl⟩ := Int.eq_ofNat_of_zero_le hn.1
    have hk : k ≤ 32 := by omega
    clear hn
    have d1 : decide ((k : Int) < 0) = false := decide_eq_false (by omega)
    have d2 : decide ((32 : Int) < (k : Int)) = false := decide_eq_false (by omega)
    have HO : Hid (∀ (x : Nat) (w1 : World), x < 4294967296 → Below w.heap.size w w1 → Calls Tryd.prog 9 #[.int .u32 x] w1 fun e w' => e = .returned (.int .i64 (ones x 32 : Int)) ∧ w' = w1) := fun x w1 hx hb1 => ones_any x w1 hx (ht.below hb1)
    have hsk := same_kept a b k hk ha hb
    have hx : bits .xor .u32 (IntKind.max .u32) (a : Int) = ((4294967295 - a : Nat) : Int) := xor_not a ha
    have hon := ones_not a ha 32 (by decide)
    have hol := ones_le a 32
    have hlt : 4294967295 - a < 4294967296 := by omega
    generalize 4294967295 - a = c at hx hon hlt
    have hol2 := ones_le c 32
    have htw := turned_twice a ha
    have htl := turned_lt a 32 (by decide)
    have hlo := lo_sm a 32 0 rfl
    obtain ⟨t, htt⟩ : ∃ t, turned a 32 = t := ⟨_, rfl⟩
    rw [htt] at htw htl hlo
    have htl' : 0 ≤ (t : Int) ∧ (t : Int) < 4294967296 := by omega
    have ha' : 0 ≤ (a : Int) ∧ (a : Int) < 4294967296 := by omega
    have hb' : 0 ≤ (b : Int) ∧ (b : Int) < 4294967296 := by omega
    have h0' : 0 ≤ (0 : Int) ∧ (0 : Int) < 4294967296 := by omega
    clear ht
    by_cases hs : k ≤ sm a b 32 0
    · have he : kp a k = kp b k := hsk.1 hs
      clear hsk
      go_enter Tryd.func3, Tryd.ntmps3
      go_wp2_with (first | (go_at_call 4; refine (keep_in _ k _ (by assumption) hk).mono ?_; rintro e w' ⟨rfl, hw⟩; obtain rfl := hw.symm; clear hw) | (go_at_call 5; refine HA.out.mono ?_; rintro e w3 ⟨rfl, hbel3⟩) | (go_at_call 6; refine (turn_any _ _ (by assumption)).mono ?_; rintro e w' ⟨rfl, hw⟩; obtain rfl := hw.symm; clear hw) | (go_at_call 7; refine (same_int _ _ _ (by omega) (by omega)).mono ?_; rintro e w' ⟨rfl, hw⟩; obtain rfl := hw.symm; clear hw) | (go_at_call 8; refine (low_any a _ ha).mono ?_; rintro e w' ⟨rfl, hw⟩; obtain rfl := hw.symm; clear hw) | (go_at_call 9; refine (HO.out _ _ (by assumption) (by assumption)).mono ?_; rintro e w' ⟨rfl, hw⟩; obtain rfl := hw.symm; clear hw))
      go_ret
      exact ⟨ret_bool (by simp; omega), by assumption⟩
    · have he : ((kp a k : Int) == (kp b k : Int)) = false := by
        have := mt hsk.2 hs
        simp
        omega
      clear hsk
      go_enter Tryd.func3, Tryd.ntmps3
      go_wp2_with (first | (go_at_call 4; refine (keep_in _ k _ (by assumption) hk).mono ?_; rintro e w' ⟨rfl, hw⟩; obtain rfl := hw.symm; clear hw) | (go_at_call 5; refine HA.out.mono ?_; rintro e w3 ⟨rfl, hbel3⟩) | (go_at_call 6; refine (turn_any _ _ (by assumption)).mono ?_; rintro e w' ⟨rfl, hw⟩; obtain rfl := hw.symm; clear hw) | (go_at_call 7; refine (same_int _ _ _ (by omega) (by omega)).mono ?_; rintro e w' ⟨rfl, hw⟩; obtain rfl := hw.symm; clear hw) | (go_at_call 8; refine (low_any a _ ha).mono ?_; rintro e w' ⟨rfl, hw⟩; obtain rfl := hw.symm; clear hw) | (go_at_call 9; refine (HO.out _ _ (by assumption) (by assumption)).mono ?_; rintro e w' ⟨rfl, hw⟩; obtain rfl := hw.symm; clear hw))
      go_ret
      exact ⟨ret_bool (by simp; omega), by assumption⟩
  · have HN : Hid (n < 0 ∨ 32 < n) := by show n < 0 ∨ 32 < n; omega
    clear hn ht
    rcases HN.out with hn | hn
    all_goals
      go_enter Tryd.func3, Tryd.ntmps3
      go_wp2_with (first | (go_at_call 4; refine (keep_out _ n _ HN.out).mono ?_; rintro e w' ⟨rfl, hw⟩; obtain rfl := hw.symm; clear hw) | (go_at_call 5; refine HA.out.mono ?_; rintro e w3 ⟨rfl, hbel3⟩))
      go_ret
      exact ⟨rfl, by assumption⟩

set_option maxRecDepth 100000 in
theorem bitsAlike_lifted (os : Os) (started : os.Started) (H : Type) (enc : TypeId × Value → H) :
    ReturnsInHanded {} Tryd.checked os 3 .any (fun w args => (Rows.bitsAlikeSpec.pre enc Tryd.prog Tryd.f3 [] false w args ∧ laidMetH Tryd.prog laidList w) ∧ sizedMet enc Tryd.prog Tryd.f3 (OpenSpec.ofChange Rows.bitsAlikeSpec) false w args)
      (Rows.bitsAlikeSpec.post enc Tryd.prog Tryd.f3 false true false false) := by
  refine returnsInHanded_of_change_and (C := Tryd.checked) (X := fun w _ => laidMetH Tryd.prog laidList w) (fun _ _ _ hh h => h.of_heap hh) own started (by kernel_rfl) Tryd.func3
    (ChangeSpec.witness_shaped (enc := enc) (C := Tryd.checked) (os := os) (X := fun w _ => laidMetH Tryd.prog laidList w) false (World.doorLaid Tryd.prog 400 os) #[.int .u32 0, .int .u32 0, .int .i64 0] 8 rfl (World.shaped_of_RefB (by kernel_rfl) (by kernel_rfl)) (by kernel_rfl) (by kernel_rfl) (by kernel_rfl) (door_met os _)) ?_
  intro W base args ds gs before hval0 hW _ _ hL _
  have hval : ∀ (j : Nat) t v, Tryd.f3.params[j]? = some t → args[j]? = some v → Value.okWide Tryd.prog W .any base t v := hval0
  have hW' := hW
  obtain ⟨p, q, hA0, hV, rfl, hfz, hnd⟩ := hW
  have hA : DataW.TrodAll enc Tryd.prog W 0 (fun _ => true) true Tryd.f3.params.toList args.toList ds p := hA0
  rw [Tryd.params3] at hA hval
  obtain ⟨v0, vs0, d0, ds0, p0, q0, hargs, rfl, rfl, h0, r0⟩ := trodAll_cons hA
  obtain ⟨v1, vs1, d1, ds1, p1, q1, rfl, rfl, rfl, h1, r1⟩ := trodAll_cons r0
  obtain ⟨v2, vs2, d2, ds2, p2, q2, rfl, rfl, rfl, h2, r2⟩ := trodAll_cons r1
  obtain ⟨rfl, rfl, rfl⟩ := trodAll_nil r2
  obtain rfl : args = #[v0, v1, v2] := by cases args; simp_all
  obtain ⟨rfl, rfl⟩ := trodVars_none hV
  obtain ⟨a0, rfl, rfl, rfl, w0⟩ := open_int Tryd.underlying22 (hval 0 22 v0 rfl rfl) h0
  obtain ⟨a1, rfl, rfl, rfl, w1⟩ := open_int Tryd.underlying22 (hval 1 22 v1 rfl rfl) h1
  obtain ⟨a2, rfl, rfl, rfl, w2⟩ := open_int Tryd.underlying3 (hval 2 3 v2 rfl rfl) h2
  clear hA0 hval0
  simp only [List.append_nil] at hW'
  refine (bitsAlike_walk a0 a1 a2 w0 w1 w2 W (tab_of_laid hL)).mono fun e W' ⟨he, bel⟩ => ?_
  subst he
  exact ⟨_, rfl, _, _, _, [], _, [], hW', trodAll_mk1 (shut_bool Tryd.underlying4 _), (trodAll_cons_mk (shut_int Tryd.underlying22 w0) (trodAll_cons_mk (shut_int Tryd.underlying22 w1) (trodAll_cons_mk (shut_int Tryd.underlying3 w2) trodAll_mk0))), rfl, bel.frame _, fun h => by cases h⟩

theorem bitsAlike_row : Rows.BitsAlikeSaid :=
  OpenClaim.holds_of_wide 3 Tryd.f3 rfl rfl rfl rfl rfl rfl rfl ⟨rfl, rfl, rfl, rfl, rfl⟩ rfl rfl rfl rfl rfl (by kernel_rfl) Tryd.func3 (by kernel_rfl)
    (of_decide_eq_true (by kernel_rfl)) (by unfold Func.isWrapper; first | (rw [if_pos (by decide +kernel)]; kernel_rfl) | (rw [if_neg (by decide +kernel)]; exact ⟨rfl, rfl⟩))
    (fun os started H enc _ => bitsAlike_lifted os started H enc)

/-- The given card. -/
theorem bitsAlike_card : Rows.BitsAlikeCardSaid :=
  Claim7.holds_tied_plain_at .later [] [.data] true (true, "308c6e04dc1960a9902730887114706bf408fb2de2a50161c9177a2d33c6e428") false
    bitsAlike_row (fun _ h => by cases h) (by kernel_rfl) (fun _ h => by cases h) bitsAlike_row_tie rfl ⟨rfl, rfl⟩ (by kernel_rfl) rfl
    (fun f fn hf hfn => by
      obtain rfl : f = 3 := Option.some.inj ((show Tryd.prog.funcNamed "quintet/quintetlaw01.BitsAlike" = some 3 by kernel_rfl).symm.trans hf) |>.symm
      obtain rfl : fn = Tryd.f3 := (Option.some.inj (Tryd.func3.symm.trans hfn)).symm
      exact ⟨by kernel_rfl, fun j t ht => by
        rw [Tryd.params3] at ht
        have hm : t ∈ [22, 22, 3] := by simpa using Array.mem_of_getElem? ht
        have hall : ([22, 22, 3].all fun u => !Tryd.prog.wantsStandIn u) = true := by kernel_rfl
        exact (show Tryd.prog.wantsStandIn t = false by simpa using List.all_eq_true.1 hall t hm)⟩)
    (by kernel_rfl)
#print axioms bitsAlike_card
end Go.Proofs.YtejcckkekjkmlabDoor
