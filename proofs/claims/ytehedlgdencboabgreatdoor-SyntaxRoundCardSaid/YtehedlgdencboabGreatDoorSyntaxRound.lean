/-
  SyntaxRound: a list that is printed is read as itself.
  Conditions: the listed variables (errors.errorType, strconv.ErrRange, strconv.ErrSyntax, three tables of the library, and syntax's two lists of words) read as their initialisers lay them when the call begins (the card ties that to the program's text). Nothing else is asked.
-/
import Derived.Test.YtehedlgdencboabGreatDoorSyGE
import Derived.ChangeMaps5
import Derived.Deep.CutBlock
import Derived.Deep.DeepCutAuto
import Derived.Test.YtehedlgdencboabGreatDoorCards
import Derived.Test.YtehedlgdencboabGreatDoorTie
import Derived.SevenTiedAt
import Derived.Test.YtehedlgdencboabGreatDoorSyFl
namespace Go.Proofs.YtehedlgdencboabGreatDoor
open Go.ChangeShapes Go.WideShapes Go.ChangeAt Go.RowKit Go.ChangeMaps Go.Joins
set_option linter.unusedVariables false

set_option maxRecDepth 20000 in
set_option maxHeartbeats 8000000 in
theorem syntaxRound_big (l : List Ru) (v : Value) (w : World) (hs : SrcU w v l) (hb : 16777216 < l.length) (hE : Env w) :
    Calls Tryz.prog 4 #[v] w fun e w' => e = .returned (.bool true) ∧ Below w.heap.size w w' := by
  obtain ⟨ad, cap, rfl, hcap, _⟩ := hs
  obtain ⟨n, hn⟩ : ∃ n, n = l.length := ⟨_, rfl⟩
  rw [← hn] at hb hcap ⊢
  have hn0 : (16777216 : Int) < (n : Int) := by omega
  have hz : ¬ (n : Int) ≤ 16777216 := by omega
  have kA := awakeC w hE
  clear hE hn
  go_enter Tryz.func4, Tryz.ntmps4
  go_wp2_with (fail)
  refine kA.mono ?_
  rintro e w1 ⟨rfl, hb1⟩
  have HB : Hid (Below w.heap.size w w1) := hb1
  clear hb1 kA
  go_wp2_with (fail)
  go_ret
  exact ⟨rfl, HB.out⟩
set_option maxRecDepth 20000 in
set_option maxHeartbeats 8000000 in
theorem syntaxRound_bad (l : List Ru) (v : Value) (bd : ∀ R ∈ l, BdR R) (w : World) (hs : SrcU w v l) (hb : l.length ≤ 16777216) (hE : Env w) (he : errL l ≠ 0) :
    Calls Tryz.prog 4 #[v] w fun e w' => e = .returned (.bool true) ∧ Below w.heap.size w w' := by
  have kP := printRulesC v l w hs hb bd hE.p hE.a.choose_spec
  have ht : ltx l = [] := if_neg he
  rw [ht] at kP
  have hne : (errL l == 0) = false := by simpa using he
  obtain ⟨ad, cap, rfl, hcap, _⟩ := hs
  obtain ⟨n, hn⟩ : ∃ n, n = l.length := ⟨_, rfl⟩
  rw [← hn] at hb hcap kP ⊢
  have hn0 : (n : Int) ≤ 16777216 := by omega
  have kA := fun W h => awakeC W h
  have HE : Hid (Env w) := hE
  have hmt : (mkB []).toList.isEmpty = true := by rw [ByteArray.toList_eq]; rfl
  clear hE hn he ht bd
  generalize errL l = E at *
  go_enter Tryz.func4, Tryz.ntmps4
  go_wp2_with (fail)
  refine kP.mono ?_
  rintro e w1 ⟨rfl, hb1⟩
  have HB1 : Hid (Below w.heap.size w w1) := hb1
  have HE1 : Hid (Env w1) := HE.out.on hb1
  clear hb1 kP
  go_wp2_with (fail)
  refine (kA _ HE1.out).mono ?_
  rintro e w2 ⟨rfl, hb2⟩
  have HB2 : Hid (Below w.heap.size w w2) := HB1.out.trans (hb2.mono HB1.out.size)
  clear hb2 kA HB1 HE1
  go_wp2_with (fail)
  go_ret
  first | exact ⟨rfl, HB2.out⟩ | exact ⟨ret_same hmt, HB2.out⟩
set_option maxRecDepth 20000 in
set_option maxHeartbeats 8000000 in
theorem syntaxRound_ok (l : List Ru) (v : Value) (bd : ∀ R ∈ l, BdR R) (w : World) (hs : SrcU w v l) (hb : l.length ≤ 16777216) (hE : Env w) (he : errL l = 0) :
    Calls Tryz.prog 4 #[v] w fun e w' => e = .returned (.bool true) ∧ Below w.heap.size w w' := by
  have kP := printRulesC v l w hs hb bd hE.p hE.a.choose_spec
  have ht : ltx l = rulesB (l.map rpOf) := if_pos he
  rw [he, ht] at kP
  have hgood := errL_ok bd he
  have hok : ∀ R ∈ l.map rpOf, OkRp R ∧ (chkN R).1 = 0 := fun R hR => ⟨chk_okRp R (hgood.1.all R hR).1 (hgood.1.all R hR).2, (hgood.1.all R hR).2⟩
  have hround : rulesT chkN (mkB (rulesB (l.map rpOf))) = (l.map rpOf, ⟨0, 0, 0⟩) := rules_round chkN _ hok hgood.1.len hgood.1.two
  have hlen : (rulesB (l.map rpOf)).length ≤ 16777216 := by have := rulesB_len (l.map rpOf) (fun R hR => (hok R hR).1); have := hgood.1.len; omega
  clear hok
  have kM : ∀ (W : World), Env W → Calls Tryz.prog 12 #[.string (mkB (rulesB (l.map rpOf)))] W fun e w' => ∃ u : Value, e = .returned (.tuple #[u, .nilIface]) ∧ RowU w' W.heap.size u l ∧ Below W.heap.size W w' := fun W h => by
    have := RulesOk (mkB (rulesB (l.map rpOf))) W (by rw [mkB_size]; omega) h.g h.a.choose_spec h.c.choose_spec (by rw [hround])
    rw [hround] at this
    simp only [hgood.2] at this
    exact this
  have kS : ∀ (W : World) (v u : Value), SrcU W v l ∧ SrcU W u l → Calls Tryz.prog 13 #[v, u] W fun e w' => e = .returned (.bool true) ∧ Below W.heap.size W w' := fun W v u h => keepSame v u l W h.1 h.2 hb
  have HS : Hid (SrcU w v l) := hs
  obtain ⟨ad, cap, rfl, hcap, _⟩ := hs
  obtain ⟨n, hn⟩ : ∃ n, n = l.length := ⟨_, rfl⟩
  have Hn : Hid (n = l.length) := hn
  rw [← hn] at hb hcap kP HS ⊢
  have hn0 : (n : Int) ≤ 16777216 := by omega
  have kA := fun W h => awakeC W h
  have HE : Hid (Env w) := hE
  clear hE hn he ht bd hgood hround hlen
  generalize mkB (rulesB (l.map rpOf)) = t at *
  go_enter Tryz.func4, Tryz.ntmps4
  go_wp2_with (fail)
  refine kP.mono ?_
  rintro e w1 ⟨rfl, hb1⟩
  have HB1 : Hid (Below w.heap.size w w1) := hb1
  have HE1 : Hid (Env w1) := HE.out.on hb1
  have HS1 : Hid (SrcU w1 (.slice ad n cap) l) := HS.out.keep hb1
  clear hb1 kP HE HS
  go_wp2_with (fail)
  refine (kM _ HE1.out).mono ?_
  rintro e w2 ⟨v2, rfl, hr2, hb2⟩
  have hsr := hr2.src
  obtain ⟨ad2, cap2, rfl, _, _⟩ := hr2.form
  rw [← Hn.out] at hsr ⊢
  have HB2 : Hid (Below w.heap.size w w2) := HB1.out.trans (hb2.mono HB1.out.size)
  have HE2 : Hid (Env w2) := HE1.out.on hb2
  have HS2 : Hid (SrcU w2 (.slice ad n cap) l ∧ SrcU w2 (.slice ad2 n cap2) l) := ⟨HS1.out.keep hb2, hsr⟩
  clear hb2 kM HB1 HE1 HS1 hr2 hsr
  go_wp2_with (fail)
  refine (kA _ HE2.out).mono ?_
  rintro e w3 ⟨rfl, hb3⟩
  have HB3 : Hid (Below w.heap.size w w3) := HB2.out.trans (hb3.mono HB2.out.size)
  have HS3 : Hid (SrcU w3 (.slice ad n cap) l ∧ SrcU w3 (.slice ad2 n cap2) l) := ⟨HS2.out.1.keep hb3, HS2.out.2.keep hb3⟩
  clear hb3 kA HB2 HE2 HS2
  go_wp2_with (fail)
  refine (kS _ _ _ HS3.out).mono ?_
  rintro e w4 ⟨rfl, hb4⟩
  have HB4 : Hid (Below w.heap.size w w4) := HB3.out.trans (hb4.mono HB3.out.size)
  clear hb4 kS HB3 HS3
  go_wp2_with (fail)
  go_ret
  exact ⟨rfl, HB4.out⟩
theorem syntaxRound_walk (l : List Ru) (v : Value) (bd : ∀ R ∈ l, BdR R) (w : World) (hs : SrcU w v l) (hE : Env w) :
    Calls Tryz.prog 4 #[v] w fun e w' => e = .returned (.bool true) ∧ Below w.heap.size w w' := by
  by_cases h : 16777216 < l.length
  · exact syntaxRound_big l v w hs h hE
  · by_cases he : errL l = 0
    · exact syntaxRound_ok l v bd w hs (by omega) hE he
    · exact syntaxRound_bad l v bd w hs (by omega) hE he

set_option maxRecDepth 100000 in
theorem syntaxRound_lifted  (os : Os) (started : os.Started) (H : Type) (enc : TypeId × Value → H) :
    ReturnsInHanded {} Tryz.checked os 4 .any (fun w args => (Rows.syntaxRoundSpec.pre enc Tryz.prog Tryz.f4 [] false w args ∧ laidMetH Tryz.prog laidList w) ∧ sizedMet enc Tryz.prog Tryz.f4 (OpenSpec.ofChange Rows.syntaxRoundSpec) false w args)
      (Rows.syntaxRoundSpec.post enc Tryz.prog Tryz.f4 false true false false) := by
  refine returnsInHanded_of_change_and (C := Tryz.checked) (X := fun w _ => laidMetH Tryz.prog laidList w) (fun _ _ _ hh h => h.of_heap hh) own started (by kernel_rfl) Tryz.func4
    (ChangeSpec.witness_shaped (enc := enc) (C := Tryz.checked) (os := os) (X := fun w _ => laidMetH Tryz.prog laidList w) false (World.doorLaid Tryz.prog 400 os) #[.slice none 0 0] 8 rfl (World.shaped_of_RefB (by kernel_rfl) (by kernel_rfl)) (by kernel_rfl) (by kernel_rfl) (by kernel_rfl) (door_met os _)) ?_
  intro W base args ds gs before hval0 hW _ _ hL _
  have hval : ∀ (j : Nat) t v, Tryz.f4.params[j]? = some t → args[j]? = some v → Value.okWide Tryz.prog W .any base t v := hval0
  have hW' := hW
  obtain ⟨p, q, hA0, hV, rfl, hfz, hnd⟩ := hW
  have hA : DataW.TrodAll enc Tryz.prog W 0 (fun _ => true) true Tryz.f4.params.toList args.toList ds p := hA0
  rw [Tryz.params4] at hA hval
  obtain ⟨v0, vs0, d0, ds0, p0, q0, hargs, rfl, rfl, h0, r0⟩ := trodAll_cons hA
  obtain ⟨rfl, rfl, rfl⟩ := trodAll_nil r0
  obtain rfl : args = #[v0] := by cases args; simp_all
  obtain ⟨rfl, rfl⟩ := trodVars_none hV
  have hlt0 : ∀ x ∈ p0, x.block < W.heap.size := fun x hx => by simpa using hW'.lt x (by simp [hx])
  obtain ⟨l0, s0, bd0⟩ := open_rus (hval 0 33 v0 rfl rfl) h0
  clear hA0 hval0
  simp only [List.append_nil] at hW'
  refine (syntaxRound_walk  l0 v0 bd0 W s0 (env_of_laid hL) ).mono fun e W' ⟨he, bel⟩ => ?_
  subst he
  exact ⟨_, rfl, _, _, _, [], _, [], hW', trodAll_mk1 (shut_bool Tryz.underlying4 _), (trodAll_cons_mk (Below.trod laidOut (by kernel_rfl) (of_decide_eq_true (by kernel_rfl)) h0 bel hlt0) trodAll_mk0), rfl, bel.frame _, fun h => by cases h⟩

theorem syntaxRound_row  : Rows.SyntaxRoundSaid :=
  OpenClaim.holds_of_wide 4 Tryz.f4 rfl rfl rfl rfl rfl rfl rfl ⟨rfl, rfl, rfl, rfl, rfl⟩ rfl rfl rfl rfl rfl (by kernel_rfl) Tryz.func4 (by kernel_rfl)
    (of_decide_eq_true (by kernel_rfl)) (by unfold Func.isWrapper; first | (rw [if_pos (by decide +kernel)]; kernel_rfl) | (rw [if_neg (by decide +kernel)]; exact ⟨rfl, rfl⟩))
    (fun os started H enc _ => syntaxRound_lifted  os started H enc)

/-- The given card. -/
theorem syntaxRound_card  : Rows.SyntaxRoundCardSaid :=
  Claim7.holds_tied_plain_at .later [] [.data, .data, .data, .handle, .sentinel, .sentinel, .data, .data] true (true, "5d43a455c8686ea7c9280688853b48480d5bb2fd5cd5428374f043ed58a02134") true
    (syntaxRound_row ) (fun _ h => by cases h) (by kernel_rfl) (fun _ h => by cases h) syntaxRound_row_tie rfl ⟨rfl, rfl⟩ (by kernel_rfl) rfl
    (fun f fn hf hfn => by
      obtain rfl : f = 4 := Option.some.inj ((show Tryz.prog.funcNamed "quintet/quintetlaw10.SyntaxRound" = some 4 by kernel_rfl).symm.trans hf) |>.symm
      obtain rfl : fn = Tryz.f4 := (Option.some.inj (Tryz.func4.symm.trans hfn)).symm
      exact ⟨by kernel_rfl, fun j t ht => by
        rw [Tryz.params4] at ht
        have hm : t ∈ [33] := by simpa using Array.mem_of_getElem? ht
        have hall : ([33].all fun u => !Tryz.prog.wantsStandIn u) = true := by kernel_rfl
        exact (show Tryz.prog.wantsStandIn t = false by simpa using List.all_eq_true.1 hall t hm)⟩)
    (by kernel_rfl)
#print axioms syntaxRound_card
end Go.Proofs.YtehedlgdencboabGreatDoor
