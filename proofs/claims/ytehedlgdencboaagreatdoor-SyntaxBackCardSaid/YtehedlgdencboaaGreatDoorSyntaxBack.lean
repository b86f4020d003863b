/-
  SyntaxBack: a text is read or refused, never both; what was read is printed, and read as itself; printing is settled then.
  Conditions: the listed variables (errors.errorType, strconv.ErrRange, strconv.ErrSyntax, three tables of the library, and syntax's two lists of words) read as their initialisers lay them when the call begins (the card ties that to the program's text). Nothing else is asked.
-/
import Derived.Test.YtehedlgdencboaaGreatDoorSyGE
import Derived.ChangeMaps5
import Derived.Deep.CutBlock
import Derived.Deep.DeepCutAuto
import Derived.Test.YtehedlgdencboaaGreatDoorCards
import Derived.Test.YtehedlgdencboaaGreatDoorTie
import Derived.SevenTiedAt
namespace Go.Proofs.YtehedlgdencboaaGreatDoor
open Go.ChangeShapes Go.WideShapes Go.ChangeAt Go.RowKit Go.ChangeMaps
set_option linter.unusedVariables false

set_option maxRecDepth 20000 in
set_option maxHeartbeats 8000000 in
theorem syntaxBack_big (s : ByteArray) (hmx : s.size ≤ maxLen) (hs : 16777216 < s.size) (w : World) (hE : Env w) :
    Calls Tryz.prog 8 #[.string s] w fun e w' => e = .returned (.bool true) ∧ Below w.heap.size w w' := by
  have kA := awakeC w hE
  have hs' : (16777216 : Int) < (s.size : Int) := by omega
  have hz : ¬ (s.size : Int) ≤ 16777216 := by omega
  clear hE
  go_enter Tryz.func8, Tryz.ntmps8
  go_wp2_with (fail)
  refine kA.mono ?_
  rintro e w1 ⟨rfl, hb1⟩
  have HB : Hid (Below w.heap.size w w1) := hb1
  clear hb1 kA
  go_wp2_with (fail)
  go_ret
  exact ⟨rfl, HB.out⟩
set_option maxRecDepth 20000 in
set_option maxHeartbeats 8000000 in
theorem syntaxBack_bad (s : ByteArray) (hs : s.size ≤ 16777216) (w : World) (hE : Env w) (he : (rulesT chkN s).2.e ≠ 0) :
    Calls Tryz.prog 8 #[.string s] w fun e w' => e = .returned (.bool true) ∧ Below w.heap.size w w' := by
  have kR := RulesBad s w hs hE.g hE.a.choose_spec hE.c.choose_spec he
  have kA := fun W h => awakeC W h
  have HE : Hid (Env w) := hE
  have hs' : (s.size : Int) ≤ 16777216 := by omega
  clear hE he
  generalize rulesT chkN s = T at *
  go_enter Tryz.func8, Tryz.ntmps8
  go_wp2_with (fail)
  refine kR.mono ?_
  rintro e w1 ⟨F, rfl, _, _, hb1⟩
  have HB1 : Hid (Below w.heap.size w w1) := hb1
  have HE1 : Hid (Env w1) := HE.out.on hb1
  clear hb1 kR
  go_wp2_with (fail)
  refine (kA _ HE1.out).mono ?_
  rintro e w2 ⟨rfl, hb2⟩
  have HB2 : Hid (Below w.heap.size w w2) := HB1.out.trans (hb2.mono HB1.out.size)
  clear hb2 kA HB1 HE1
  go_wp2_with (fail)
  go_ret
  exact ⟨rfl, HB2.out⟩
set_option maxRecDepth 20000 in
set_option maxHeartbeats 8000000 in
theorem syntaxBack_ok (s : ByteArray) (hs : s.size ≤ 16777216) (w : World) (hE : Env w) (he : (rulesT chkN s).2.e = 0) :
    Calls Tryz.prog 8 #[.string s] w fun e w' => e = .returned (.bool true) ∧ Below w.heap.size w w' := by
  have kR := RulesOk s w hs hE.g hE.a.choose_spec hE.c.choose_spec he
  have kA := fun W h => awakeC W h
  have hgood := ((rulesT_good chkN s).1 he).2
  have hback := rules_back (chk := chkN) chk_okRp he
  generalize (rulesT chkN s).1 = l at *
  have hlen : (rulesB l).length ≤ 88 * l.length := rulesB_len l (fun R hR => chk_okRp R (hgood.all R hR).1 (hgood.all R hR).2)
  have h64 := hgood.len
  have hbd : ∀ R ∈ l.map ruOf, BdR R := fun R hR => by
    obtain ⟨Q, hQ, rfl⟩ := List.mem_map.1 hR
    exact (hgood.all Q hQ).1.bd
  have hLm : (l.map ruOf).length = l.length := List.length_map ..
  have hl0 : (l.map ruOf).length ≤ 16777216 := by omega
  have hx0 : errL (l.map ruOf) = 0 := errL_good hgood
  have hx1 : ltx (l.map ruOf) = rulesB l := by unfold ltx; rw [if_pos hx0, map_rp]
  have kP : ∀ (W : World) (v : Value), Env W → SrcU W v (l.map ruOf) → Calls Tryz.prog 24 #[v] W fun e w' => e = .returned (.tuple #[.string (mkB (rulesB l)), .int .i64 0]) ∧ Below W.heap.size W w' := fun W v h hv => by
    have := printRulesC v _ W hv hl0 hbd h.p h.a.choose_spec
    rw [hx0, hx1] at this
    exact this
  have kM : ∀ (W : World), Env W → Calls Tryz.prog 11 #[.string (mkB (rulesB l))] W fun e w' => ∃ u : Value, e = .returned (.tuple #[u, .nilIface]) ∧ RowU w' W.heap.size u (l.map ruOf) ∧ Below W.heap.size W w' := fun W h => by
    have e : rulesT chkN (mkB (rulesB l)) = (l, ⟨0, 0, 0⟩) := hback
    have := RulesOk (mkB (rulesB l)) W (by rw [mkB_size]; omega) h.g h.a.choose_spec h.c.choose_spec (by rw [e])
    rw [e] at this
    exact this
  have kS : ∀ (W : World) (v u : Value), SrcU W v (l.map ruOf) ∧ SrcU W u (l.map ruOf) → Calls Tryz.prog 12 #[v, u] W fun e w' => e = .returned (.bool true) ∧ Below W.heap.size W w' := fun W v u h => keepSame v u _ W h.1 h.2 hl0
  have HE : Hid (Env w) := hE
  have hs' : (s.size : Int) ≤ 16777216 := by omega
  clear hE he hback hgood hlen hbd hl0 hx0 hx1
  generalize mkB (rulesB l) = t at *
  generalize l.map ruOf = m at *
  obtain ⟨n, hn⟩ : ∃ n, n = m.length := ⟨_, rfl⟩
  have hn64 : (n : Int) ≤ 64 := by omega
  have Hn : Hid (n = m.length) := hn
  clear hLm h64 hn
  go_enter Tryz.func8, Tryz.ntmps8
  go_wp2_with (fail)
  refine kR.mono ?_
  rintro e w1 ⟨v1, rfl, hr1, hb1⟩
  have hsr := hr1.src
  obtain ⟨ad, cap, rfl, _, _⟩ := hr1.form
  rw [← Hn.out] at hsr ⊢
  have HS1 : Hid (SrcU w1 (.slice ad n cap) m) := hsr
  have HB1 : Hid (Below w.heap.size w w1) := hb1
  have HE1 : Hid (Env w1) := HE.out.on hb1
  clear hb1 kR hr1 hsr HE
  go_wp2_with (fail)
  refine (kP _ _ HE1.out HS1.out).mono ?_
  rintro e w2 ⟨rfl, hb2⟩
  have HB2 : Hid (Below w.heap.size w w2) := HB1.out.trans (hb2.mono HB1.out.size)
  have HE2 : Hid (Env w2) := HE1.out.on hb2
  have HS2 : Hid (SrcU w2 (.slice ad n cap) m) := HS1.out.keep hb2
  clear hb2 HB1 HE1 HS1
  go_wp2_with (fail)
  refine (kM _ HE2.out).mono ?_
  rintro e w3 ⟨v3, rfl, hr3, hb3⟩
  have hsr := hr3.src
  obtain ⟨ad3, cap3, rfl, _, _⟩ := hr3.form
  rw [← Hn.out] at hsr ⊢
  have HT3 : Hid (SrcU w3 (.slice ad3 n cap3) m) := hsr
  have HB3 : Hid (Below w.heap.size w w3) := HB2.out.trans (hb3.mono HB2.out.size)
  have HE3 : Hid (Env w3) := HE2.out.on hb3
  have HS3 : Hid (SrcU w3 (.slice ad n cap) m) := HS2.out.keep hb3
  clear hb3 HB2 HE2 HS2 kM hr3 hsr
  go_wp2_with (fail)
  refine (kP _ _ HE3.out HT3.out).mono ?_
  rintro e w4 ⟨rfl, hb4⟩
  have HB4 : Hid (Below w.heap.size w w4) := HB3.out.trans (hb4.mono HB3.out.size)
  have HE4 : Hid (Env w4) := HE3.out.on hb4
  have HS4 : Hid (SrcU w4 (.slice ad n cap) m) := HS3.out.keep hb4
  have HT4 : Hid (SrcU w4 (.slice ad3 n cap3) m) := HT3.out.keep hb4
  clear hb4 HB3 HE3 HS3 HT3 kP
  go_wp2_with (fail)
  refine (kA _ HE4.out).mono ?_
  rintro e w5 ⟨rfl, hb5⟩
  have HB5 : Hid (Below w.heap.size w w5) := HB4.out.trans (hb5.mono HB4.out.size)
  have HST5 : Hid (SrcU w5 (.slice ad n cap) m ∧ SrcU w5 (.slice ad3 n cap3) m) := ⟨HS4.out.keep hb5, HT4.out.keep hb5⟩
  clear hb5 HB4 HE4 HS4 HT4 kA
  go_wp2_with (fail)
  refine (kS _ _ _ HST5.out).mono ?_
  rintro e w6 ⟨rfl, hb6⟩
  have HB6 : Hid (Below w.heap.size w w6) := HB5.out.trans (hb6.mono HB5.out.size)
  clear hb6 HB5 HST5 kS
  go_wp2_with (fail)
  go_ret
  exact ⟨rfl, HB6.out⟩
theorem syntaxBack_walk (s : ByteArray) (hs : s.size ≤ maxLen) (w : World) (hE : Env w) :
    Calls Tryz.prog 8 #[.string s] w fun e w' => e = .returned (.bool true) ∧ Below w.heap.size w w' := by
  by_cases h : 16777216 < s.size
  · exact syntaxBack_big s hs h w hE
  · by_cases he : (rulesT chkN s).2.e = 0
    · exact syntaxBack_ok s (by omega) w hE he
    · exact syntaxBack_bad s (by omega) w hE he

set_option maxRecDepth 100000 in
theorem syntaxBack_lifted  (os : Os) (started : os.Started) (H : Type) (enc : TypeId × Value → H) :
    ReturnsInHanded {} Tryz.checked os 8 .any (fun w args => (Rows.syntaxBackSpec.pre enc Tryz.prog Tryz.f8 [] false w args ∧ laidMetH Tryz.prog laidList w) ∧ sizedMet enc Tryz.prog Tryz.f8 (OpenSpec.ofChange Rows.syntaxBackSpec) false w args)
      (Rows.syntaxBackSpec.post enc Tryz.prog Tryz.f8 false true false false) := by
  refine returnsInHanded_of_change_and (C := Tryz.checked) (X := fun w _ => laidMetH Tryz.prog laidList w) (fun _ _ _ hh h => h.of_heap hh) own started (by kernel_rfl) Tryz.func8
    (ChangeSpec.witness_shaped (enc := enc) (C := Tryz.checked) (os := os) (X := fun w _ => laidMetH Tryz.prog laidList w) false (World.doorLaid Tryz.prog 400 os) #[.string ⟨#[]⟩] 8 rfl (World.shaped_of_RefB (by kernel_rfl) (by kernel_rfl)) (by kernel_rfl) (by kernel_rfl) (by kernel_rfl) (door_met os _)) ?_
  intro W base args ds gs before hval0 hW _ _ hL _
  have hval : ∀ (j : Nat) t v, Tryz.f8.params[j]? = some t → args[j]? = some v → Value.okWide Tryz.prog W .any base t v := hval0
  have hW' := hW
  obtain ⟨p, q, hA0, hV, rfl, hfz, hnd⟩ := hW
  have hA : DataW.TrodAll enc Tryz.prog W 0 (fun _ => true) true Tryz.f8.params.toList args.toList ds p := hA0
  rw [Tryz.params8] at hA hval
  obtain ⟨v0, vs0, d0, ds0, p0, q0, hargs, rfl, rfl, h0, r0⟩ := trodAll_cons hA
  obtain ⟨rfl, rfl, rfl⟩ := trodAll_nil r0
  obtain rfl : args = #[v0] := by cases args; simp_all
  obtain ⟨rfl, rfl⟩ := trodVars_none hV
  obtain ⟨a0, rfl, rfl, rfl, w0⟩ := open_string Tryz.underlying9 (hval 0 9 v0 rfl rfl) h0
  clear hA0 hval0
  simp only [List.append_nil] at hW'
  refine (syntaxBack_walk  a0 w0 W (env_of_laid hL) ).mono fun e W' ⟨he, bel⟩ => ?_
  subst he
  exact ⟨_, rfl, _, _, _, [], _, [], hW', trodAll_mk1 (shut_bool Tryz.underlying4 _), (trodAll_cons_mk (shut_string Tryz.underlying9 w0) trodAll_mk0), rfl, bel.frame _, fun h => by cases h⟩

theorem syntaxBack_row  : Rows.SyntaxBackSaid :=
  OpenClaim.holds_of_wide 8 Tryz.f8 rfl rfl rfl rfl rfl rfl rfl ⟨rfl, rfl, rfl, rfl, rfl⟩ rfl rfl rfl rfl rfl (by kernel_rfl) Tryz.func8 (by kernel_rfl)
    (of_decide_eq_true (by kernel_rfl)) (by unfold Func.isWrapper; first | (rw [if_pos (by decide +kernel)]; kernel_rfl) | (rw [if_neg (by decide +kernel)]; exact ⟨rfl, rfl⟩))
    (fun os started H enc _ => syntaxBack_lifted  os started H enc)

/-- The given card. -/
theorem syntaxBack_card  : Rows.SyntaxBackCardSaid :=
  Claim7.holds_tied_plain_at .later [] [.data, .data, .data, .handle, .sentinel, .sentinel, .data, .data] true (true, "49257b9442efd3d904aacea1bc8f960690601b523245e550765603735e9f2d03") true
    (syntaxBack_row ) (fun _ h => by cases h) (by kernel_rfl) (fun _ h => by cases h) syntaxBack_row_tie rfl ⟨rfl, rfl⟩ (by kernel_rfl) rfl
    (fun f fn hf hfn => by
      obtain rfl : f = 8 := Option.some.inj ((show Tryz.prog.funcNamed "quintet/quintetlaw10.SyntaxBack" = some 8 by kernel_rfl).symm.trans hf) |>.symm
      obtain rfl : fn = Tryz.f8 := (Option.some.inj (Tryz.func8.symm.trans hfn)).symm
      exact ⟨by kernel_rfl, fun j t ht => by
        rw [Tryz.params8] at ht
        have hm : t ∈ [9] := by simpa using Array.mem_of_getElem? ht
        have hall : ([9].all fun u => !Tryz.prog.wantsStandIn u) = true := by kernel_rfl
        exact (show Tryz.prog.wantsStandIn t = false by simpa using List.all_eq_true.1 hall t hm)⟩)
    (by kernel_rfl)
#print axioms syntaxBack_card
end Go.Proofs.YtehedlgdencboaaGreatDoor
