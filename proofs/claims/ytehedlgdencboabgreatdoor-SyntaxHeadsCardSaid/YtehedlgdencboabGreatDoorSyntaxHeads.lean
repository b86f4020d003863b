/-
  SyntaxHeads: the beginning of a text that is read, up to a line's end, is read as the beginning of what that is read as; rules and scripts alike.
  Conditions: the listed variables (errors.errorType, strconv.ErrRange, strconv.ErrSyntax, three tables of the library, and syntax's two lists of words) read as their initialisers lay them when the call begins (the card ties that to the program's text). Nothing else is asked.
-/
import Derived.Test.YtehedlgdencboabGreatDoorSyGE
import Derived.ChangeMaps5
import Derived.Deep.CutBlock
import Derived.Deep.DeepCutAuto
import Derived.Test.YtehedlgdencboabGreatDoorCards
import Derived.Test.YtehedlgdencboabGreatDoorTie
import Derived.SevenTiedAt
import Derived.Test.YtehedlgdencboabGreatDoorSyPlI
namespace Go.Proofs.YtehedlgdencboabGreatDoor
open Go.ChangeShapes Go.WideShapes Go.ChangeAt Go.RowKit Go.ChangeMaps
set_option linter.unusedVariables false

theorem SrcV.take {w : World} {ad : Option Addr} {cap n : Nat} {l : List Cv} (h : SrcV w (.slice ad n cap) l) (k : Nat) (hk : k ≤ l.length) : SrcV w (.slice ad k cap) (l.take k) := by
  obtain ⟨ad', cap', e, hc, h2⟩ := h
  obtain ⟨rfl, _, rfl⟩ : ad = ad' ∧ n = l.length ∧ cap = cap' := by cases e; exact ⟨rfl, rfl, rfl⟩
  have hl : (l.take k).length = k := List.length_take_of_le hk
  refine ⟨ad, cap, by rw [hl], by omega, fun h0 => ?_⟩
  rw [hl] at h0
  obtain ⟨g, off, e, h3⟩ := h2 (by omega)
  refine ⟨g, off, e, fun j hj i hi => ?_⟩
  rw [hl] at hj
  rw [h3 j (by omega) i hi, List.getElem_take]
theorem pre_take {A : Type} {l m : List A} (h : m <+: l) : m.length ≤ l.length ∧ l.take m.length = m := ⟨h.length_le, (List.prefix_iff_eq_take.1 h).symm⟩
theorem pre_map {A B : Type} (f : A → B) {l m : List A} (h : m <+: l) : m.map f <+: l.map f := by
  obtain ⟨t, rfl⟩ := h
  exact ⟨t.map f, (List.map_append ..).symm⟩
theorem rulesAny (s : ByteArray) (W : World) (hs : s.size ≤ 16777216) (h : Env W) : Calls Tryz.prog 12 #[.string s] W fun e w' => ∃ v E : Value, e = .returned (.tuple #[v, E]) ∧ Below W.heap.size W w' := by
  by_cases he : (rulesT chkN s).2.e = 0
  · exact (RulesOk s W hs h.g h.a.choose_spec h.c.choose_spec he).mono fun e w' ⟨u, h1, _, h2⟩ => ⟨u, _, h1, h2⟩
  · exact (RulesBad s W hs h.g h.a.choose_spec h.c.choose_spec he).mono fun e w' ⟨F, h1, _, _, h2⟩ => ⟨_, _, h1, h2⟩
theorem scriptAny (s : ByteArray) (W : World) (hs : s.size ≤ 16777216) (h : Env W) : Calls Tryz.prog 8 #[.string s] W fun e w' => ∃ v E : Value, e = .returned (.tuple #[v, E]) ∧ Below W.heap.size W w' := by
  by_cases he : (scrT chkN s).2.e = 0
  · exact (ScriptOk s W hs h.g h.a.choose_spec h.c.choose_spec he).mono fun e w' ⟨u, h1, _, h2⟩ => ⟨u, _, h1, h2⟩
  · exact (ScriptBad s W hs h.g h.a.choose_spec h.c.choose_spec he).mono fun e w' ⟨F, h1, _, _, h2⟩ => ⟨_, _, h1, h2⟩
theorem ex_le (s : ByteArray) (k : Nat) (h : k ≤ s.size) (hs : s.size ≤ 16777216) : (s.extract 0 k).size ≤ 16777216 := by rw [ex_size s 0 k (Nat.zero_le _) h]; omega
set_option maxRecDepth 20000 in
set_option maxHeartbeats 8000000 in
theorem syntaxHeads_big (s : ByteArray) (c : Int) (hmx : s.size ≤ maxLen) (hs : 16777216 < s.size) (w : World) (hE : Env w) :
    Calls Tryz.prog 6 #[.string s, .int .i64 c] w fun e w' => e = .returned (.bool true) ∧ Below w.heap.size w w' := by
  have kA := awakeC w hE
  have hs' : (16777216 : Int) < (s.size : Int) := by omega
  have hz : ¬ (s.size : Int) ≤ 16777216 := by omega
  clear hE
  go_enter Tryz.func6, Tryz.ntmps6
  go_wp2_with (fail)
  refine kA.mono ?_
  rintro e w1 ⟨rfl, hb1⟩
  have HB : Hid (Below w.heap.size w w1) := hb1
  clear hb1 kA
  go_wp2_with (fail)
  go_ret
  exact ⟨rfl, HB.out⟩
theorem wf_I64 {a : Int} (h : (Lit.int .i64 a).wf = true) : I64 a := by
  have h1 : IntKind.i64.min ≤ a ∧ a ≤ IntKind.i64.max := by simpa [Lit.wf] using h
  have e1 : IntKind.i64.min = -9223372036854775808 := rfl
  have e2 : IntKind.i64.max = 9223372036854775807 := rfl
  unfold I64
  omega
set_option maxRecDepth 20000 in
set_option maxHeartbeats 16000000 in
theorem syntaxHeads_in (s : ByteArray) (c : Int) (hc : I64 c) (hs : s.size ≤ 16777216) (w : World) (hE : Env w) :
    Calls Tryz.prog 6 #[.string s, .int .i64 c] w fun e w' => e = .returned (.bool true) ∧ Below w.heap.size w w' := by
  have HE : Hid (Env w) := hE
  have hs' : (s.size : Int) ≤ 16777216 := by omega
  have hc1 := hc.1
  have hc2 := hc.2
  clear hE hc
  go_enter Tryz.func6, Tryz.ntmps6
  go_upto_if 18 with (fail)
  go_cut [1] (fun v wx => ∃ c1 : Int, v = .int .i64 c1 ∧ 0 ≤ c1 ∧ c1 ≤ 9223372036854775807 ∧ wx = w)
  case first =>
    by_cases h0 : c < 0
    · go_wp2_with (fail)
      go_meet
      case rel => exact ⟨-(c + 1), by go_num, by omega, by omega, rfl⟩
    · go_wp2_with (fail)
      go_meet
      case rel => exact ⟨c, rfl, by omega, by omega, rfl⟩
  case rest =>
    obtain ⟨c1, rfl, g1, g2, hw⟩ := hcut
    obtain rfl := hw.symm
    clear hw
    have q1 : 0 ≤ c1 % ((s.size : Int) + 1) := Int.emod_nonneg _ (by omega)
    have q2 : c1 % ((s.size : Int) + 1) < (s.size : Int) + 1 := Int.emod_lt_of_pos _ (by omega)
    go_upto_block 0 with (fail)
    go_cut [1] (fun v wx => ∃ k : Nat, v = .int .i64 (k : Int) ∧ k ≤ s.size ∧ (k = 0 ∨ bt s (k - 1) = 10) ∧ Hid (Below w.heap.size w wx))
    case first =>
      generalize c1 % ((s.size : Int) + 1) = c2 at *
      go_wp2_with (fail)
      go_loopw [1] (fun i wr => ∃ k : Nat, k ≤ s.size ∧ i = .int .i64 (k : Int) ∧ Hid (Below w.heap.size w wr)) (fun i _ => (intOf i).toNat)
      case atStart => exact ⟨c2.toNat, by omega, by rw [Int.toNat_of_nonneg q1], Below.refl _ _⟩
      case round =>
        obtain ⟨k, hk, rfl, HB⟩ := hrel
        rcases k with _ | j
        · go_wp2_with (fail)
          go_meet
          case rel => exact ⟨0, rfl, Nat.zero_le _, .inl rfl, HB.out⟩
        · have hi : ∀ W, (Instr.index 9 (.string s) (.int .i64 (j : Int))).run Tryz.prog W = .ok (.int .u8 ((bt s j : Nat) : Int)) W := fun W => idxS s j (by omega) W
          have hj0 : (0 : Int) < (j : Int) + 1 := by omega
          have hjm : (j : Int) ≤ 16777216 := by omega
          have HK : Hid (j + 1 ≤ s.size) := hk
          by_cases h10 : bt s j = 10
          · have H10 : Hid (bt s j = 10) := h10
            rw [h10] at hi
            clear h10 hk
            go_wp2_with (fail)
            go_meet
            case rel => exact ⟨j + 1, by go_num, HK.out, .inr H10.out, HB.out⟩
          · have h1 : (bt s j == 10) = false := by simpa using h10
            have h2 : ((bt s j : Int) == 10) = false := by simp; omega
            generalize bt s j = ch at *
            clear hk
            go_wp2_with (fail)
            go_roundw
            case rel => exact ⟨j, by have := HK.out; omega, by go_num, HB.out⟩
            case measure => simp [intOf]
    case rest =>
      obtain ⟨k, rfl, hk2, h10, HB0⟩ := hcut
      have HE0 : Hid (Env wc) := HE.out.on HB0.out
      have hsl : ∀ W, (Instr.slice 9 (.string s) none (some (.int .i64 (k : Int))) none).run Tryz.prog W = .ok (.string (s.extract 0 k)) W := fun W => slTo s k hk2 W
      clear HE q1 q2 g1 g2 hc1 hc2
      by_cases heR : (rulesT chkN s).2.e = 0
      · have hH := rules_heads chkN s k hk2 h10 heR
        have kR := RulesOk s wc hs HE0.out.g HE0.out.a.choose_spec HE0.out.c.choose_spec heR
        have kH := fun (W : World) (h : Env W) => RulesOk (s.extract 0 k) W (ex_le s k hk2 hs) h.g h.a.choose_spec h.c.choose_spec hH.1
        have hLn : ((rulesT chkN s).1.map ruOf).length ≤ 1000 := by rw [List.length_map]; have := ((rulesT_good chkN s).1 heR).2.len; omega
        obtain ⟨hle, htk⟩ := pre_take (pre_map ruOf hH.2)
        clear hH
        generalize (rulesT chkN s).1.map ruOf = L at *
        generalize (rulesT chkN (s.extract 0 k)).1.map ruOf = M at *
        have hMn : M.length ≤ 16777216 := by omega
        have kS : ∀ (W : World) (v u : Value), SrcU W v M ∧ SrcU W u M → Calls Tryz.prog 13 #[v, u] W fun e w' => e = .returned (.bool true) ∧ Below W.heap.size W w' := fun W v u h => keepSame v u M W h.1 h.2 hMn
        obtain ⟨n, hn⟩ : ∃ n, n = L.length := ⟨_, rfl⟩
        obtain ⟨m, hm⟩ : ∃ m, m = M.length := ⟨_, rfl⟩
        have Hn : Hid (n = L.length) := hn
        have Hm : Hid (m = M.length) := hm
        have hmn : (m : Int) ≤ (n : Int) := by omega
        have hmn' : m ≤ n := by omega
        have hmb : decide ((n : Int) < (m : Int)) = false := by simp; omega
        have Htk : Hid (L.take M.length = M) := htk
        clear hn hm htk hLn hMn hle
        go_wp2_with (fail)
        refine kR.mono ?_
        rintro e w1 ⟨v1, rfl, hr, hb⟩
        have hsr := hr.src
        obtain ⟨ad, cap, rfl, hcap, _⟩ := hr.form
        rw [← Hn.out] at hsr hcap ⊢
        have HS1 : Hid (SrcU w1 (.slice ad n cap) L) := hsr
        have HE1 : Hid (Env w1) := HE0.out.on hb
        have HB1 : Hid (Below w.heap.size w w1) := HB0.out.trans (hb.mono HB0.out.size)
        have hmc : m ≤ cap := by omega
        clear hb kR hr hsr HE0 HB0
        go_wp2_with (fail)
        refine (kH _ HE1.out).mono ?_
        rintro e w2 ⟨v2, rfl, hr, hb⟩
        have hsr := hr.src
        obtain ⟨ad2, cap2, rfl, _, _⟩ := hr.form
        rw [← Hm.out] at hsr ⊢
        have HS2 : Hid (SrcU w2 (.slice ad m cap) M ∧ SrcU w2 (.slice ad2 m cap2) M) := by
          refine ⟨?_, hsr⟩
          have := (HS1.out.keep hb).take m (by rw [← Hn.out]; exact hmn')
          rw [Hm.out, Htk.out, ← Hm.out] at this
          exact this
        have HE2 : Hid (Env w2) := HE1.out.on hb
        have HB2 : Hid (Below w.heap.size w w2) := HB1.out.trans (hb.mono HB1.out.size)
        clear hb kH hr hsr HE1 HB1 HS1
        go_wp2_with (fail)
        refine (kS _ _ _ HS2.out).mono ?_
        rintro e w3 ⟨rfl, hb⟩
        have HE3 : Hid (Env w3) := HE2.out.on hb
        have HB3 : Hid (Below w.heap.size w w3) := HB2.out.trans (hb.mono HB2.out.size)
        clear hb HE2 HB2 HS2 Hn Hm Htk hcap hmc kS
        by_cases heS : (scrT chkN s).2.e = 0
        · have hH := scr_heads chkN s k hk2 h10 heS
          have kR := ScriptOk s w3 hs HE3.out.g HE3.out.a.choose_spec HE3.out.c.choose_spec heS
          have kH := fun (W : World) (h : Env W) => ScriptOk (s.extract 0 k) W (ex_le s k hk2 hs) h.g h.a.choose_spec h.c.choose_spec hH.1
          have hLn : ((scrT chkN s).1.map cvOf).length ≤ 1000 := by rw [List.length_map]; have := ((scrT_good chkN s).1 heS).2.len; omega
          obtain ⟨hle, htk⟩ := pre_take (pre_map cvOf hH.2)
          clear hH
          generalize (scrT chkN s).1.map cvOf = L at *
          generalize (scrT chkN (s.extract 0 k)).1.map cvOf = M at *
          have hMn : M.length ≤ 16777216 := by omega
          have kS : ∀ (W : World) (v u : Value), SrcV W v M ∧ SrcV W u M → Calls Tryz.prog 10 #[v, u] W fun e w' => e = .returned (.bool true) ∧ Below W.heap.size W w' := fun W v u h => lawSame v u M W h.1 h.2 hMn
          obtain ⟨n, hn⟩ : ∃ n, n = L.length := ⟨_, rfl⟩
          obtain ⟨m, hm⟩ : ∃ m, m = M.length := ⟨_, rfl⟩
          have Hn : Hid (n = L.length) := hn
          have Hm : Hid (m = M.length) := hm
          have hmn : (m : Int) ≤ (n : Int) := by omega
          have hmn' : m ≤ n := by omega
          have hmb : decide ((n : Int) < (m : Int)) = false := by simp; omega
          have Htk : Hid (L.take M.length = M) := htk
          clear hn hm htk hLn hMn hle
          go_wp2_with (fail)
          refine kR.mono ?_
          rintro e w4 ⟨v4, rfl, hr, hb⟩
          have hsr := hr.src
          obtain ⟨ad, cap, rfl, hcap, _⟩ := hr.form
          rw [← Hn.out] at hsr hcap ⊢
          have HS1 : Hid (SrcV w4 (.slice ad n cap) L) := hsr
          have HE4 : Hid (Env w4) := HE3.out.on hb
          have HB4 : Hid (Below w.heap.size w w4) := HB3.out.trans (hb.mono HB3.out.size)
          have hmc : m ≤ cap := by omega
          clear hb kR hr hsr HE3 HB3
          go_wp2_with (fail)
          refine (kH _ HE4.out).mono ?_
          rintro e w5 ⟨v5, rfl, hr, hb⟩
          have hsr := hr.src
          obtain ⟨ad2, cap2, rfl, _, _⟩ := hr.form
          rw [← Hm.out] at hsr ⊢
          have HS2 : Hid (SrcV w5 (.slice ad m cap) M ∧ SrcV w5 (.slice ad2 m cap2) M) := by
            refine ⟨?_, hsr⟩
            have := (HS1.out.keep hb).take m (by rw [← Hn.out]; exact hmn')
            rw [Hm.out, Htk.out, ← Hm.out] at this
            exact this
          have HE5 : Hid (Env w5) := HE4.out.on hb
          have HB5 : Hid (Below w.heap.size w w5) := HB4.out.trans (hb.mono HB4.out.size)
          clear hb kH hr hsr HE4 HB4 HS1
          go_wp2_with (fail)
          refine (kS _ _ _ HS2.out).mono ?_
          rintro e w6 ⟨rfl, hb⟩
          have HE6 : Hid (Env w6) := HE5.out.on hb
          have HB6 : Hid (Below w.heap.size w w6) := HB5.out.trans (hb.mono HB5.out.size)
          clear hb HE5 HB5 HS2 Hn Hm Htk hcap hmc kS
          go_wp2_with (fail)
          refine (awakeC _ HE6.out).mono ?_
          rintro e w7 ⟨rfl, hb⟩
          have HB7 : Hid (Below w.heap.size w w7) := HB6.out.trans (hb.mono HB6.out.size)
          clear hb HE6 HB6
          go_wp2_with (fail)
          go_ret
          exact ⟨rfl, HB7.out⟩
        · have kR := ScriptBad s w3 hs HE3.out.g HE3.out.a.choose_spec HE3.out.c.choose_spec heS
          have kH := fun (W : World) (h : Env W) => scriptAny (s.extract 0 k) W (ex_le s k hk2 hs) h
          generalize scrT chkN s = TT at *
          go_wp2_with (fail)
          refine kR.mono ?_
          rintro e w4 ⟨F4, rfl, _, _, hb⟩
          have HE4 : Hid (Env w4) := HE3.out.on hb
          have HB4 : Hid (Below w.heap.size w w4) := HB3.out.trans (hb.mono HB3.out.size)
          clear hb kR HE3 HB3
          go_wp2_with (fail)
          refine (kH _ HE4.out).mono ?_
          rintro e w5 ⟨v5, E5, rfl, hb⟩
          have HE5 : Hid (Env w5) := HE4.out.on hb
          have HB5 : Hid (Below w.heap.size w w5) := HB4.out.trans (hb.mono HB4.out.size)
          clear hb kH HE4 HB4
          go_wp2_with (fail)
          refine (awakeC _ HE5.out).mono ?_
          rintro e w6 ⟨rfl, hb⟩
          have HB6 : Hid (Below w.heap.size w w6) := HB5.out.trans (hb.mono HB5.out.size)
          clear hb HE5 HB5
          go_wp2_with (fail)
          go_ret
          exact ⟨rfl, HB6.out⟩
      · have kR := RulesBad s wc hs HE0.out.g HE0.out.a.choose_spec HE0.out.c.choose_spec heR
        have kH := fun (W : World) (h : Env W) => rulesAny (s.extract 0 k) W (ex_le s k hk2 hs) h
        generalize rulesT chkN s = TT at *
        go_wp2_with (fail)
        refine kR.mono ?_
        rintro e w1 ⟨F1, rfl, _, _, hb⟩
        have HE1 : Hid (Env w1) := HE0.out.on hb
        have HB1 : Hid (Below w.heap.size w w1) := HB0.out.trans (hb.mono HB0.out.size)
        clear hb kR HE0 HB0
        go_wp2_with (fail)
        refine (kH _ HE1.out).mono ?_
        rintro e w2 ⟨v2, E2, rfl, hb⟩
        have HE2 : Hid (Env w2) := HE1.out.on hb
        have HB2 : Hid (Below w.heap.size w w2) := HB1.out.trans (hb.mono HB1.out.size)
        clear hb kH HE1 HB1
        by_cases heS : (scrT chkN s).2.e = 0
        · have hH := scr_heads chkN s k hk2 h10 heS
          have kR := ScriptOk s w2 hs HE2.out.g HE2.out.a.choose_spec HE2.out.c.choose_spec heS
          have kH := fun (W : World) (h : Env W) => ScriptOk (s.extract 0 k) W (ex_le s k hk2 hs) h.g h.a.choose_spec h.c.choose_spec hH.1
          have hLn : ((scrT chkN s).1.map cvOf).length ≤ 1000 := by rw [List.length_map]; have := ((scrT_good chkN s).1 heS).2.len; omega
          obtain ⟨hle, htk⟩ := pre_take (pre_map cvOf hH.2)
          clear hH
          generalize (scrT chkN s).1.map cvOf = L at *
          generalize (scrT chkN (s.extract 0 k)).1.map cvOf = M at *
          have hMn : M.length ≤ 16777216 := by omega
          have kS : ∀ (W : World) (v u : Value), SrcV W v M ∧ SrcV W u M → Calls Tryz.prog 10 #[v, u] W fun e w' => e = .returned (.bool true) ∧ Below W.heap.size W w' := fun W v u h => lawSame v u M W h.1 h.2 hMn
          obtain ⟨n, hn⟩ : ∃ n, n = L.length := ⟨_, rfl⟩
          obtain ⟨m, hm⟩ : ∃ m, m = M.length := ⟨_, rfl⟩
          have Hn : Hid (n = L.length) := hn
          have Hm : Hid (m = M.length) := hm
          have hmn : (m : Int) ≤ (n : Int) := by omega
          have hmn' : m ≤ n := by omega
          have hmb : decide ((n : Int) < (m : Int)) = false := by simp; omega
          have Htk : Hid (L.take M.length = M) := htk
          clear hn hm htk hLn hMn hle
          go_wp2_with (fail)
          refine kR.mono ?_
          rintro e w3 ⟨v3, rfl, hr, hb⟩
          have hsr := hr.src
          obtain ⟨ad, cap, rfl, hcap, _⟩ := hr.form
          rw [← Hn.out] at hsr hcap ⊢
          have HS1 : Hid (SrcV w3 (.slice ad n cap) L) := hsr
          have HE3 : Hid (Env w3) := HE2.out.on hb
          have HB3 : Hid (Below w.heap.size w w3) := HB2.out.trans (hb.mono HB2.out.size)
          have hmc : m ≤ cap := by omega
          clear hb kR hr hsr HE2 HB2
          go_wp2_with (fail)
          refine (kH _ HE3.out).mono ?_
          rintro e w4 ⟨v4, rfl, hr, hb⟩
          have hsr := hr.src
          obtain ⟨ad2, cap2, rfl, _, _⟩ := hr.form
          rw [← Hm.out] at hsr ⊢
          have HS2 : Hid (SrcV w4 (.slice ad m cap) M ∧ SrcV w4 (.slice ad2 m cap2) M) := by
            refine ⟨?_, hsr⟩
            have := (HS1.out.keep hb).take m (by rw [← Hn.out]; exact hmn')
            rw [Hm.out, Htk.out, ← Hm.out] at this
            exact this
          have HE4 : Hid (Env w4) := HE3.out.on hb
          have HB4 : Hid (Below w.heap.size w w4) := HB3.out.trans (hb.mono HB3.out.size)
          clear hb kH hr hsr HE3 HB3 HS1
          go_wp2_with (fail)
          refine (kS _ _ _ HS2.out).mono ?_
          rintro e w5 ⟨rfl, hb⟩
          have HE5 : Hid (Env w5) := HE4.out.on hb
          have HB5 : Hid (Below w.heap.size w w5) := HB4.out.trans (hb.mono HB4.out.size)
          clear hb HE4 HB4 HS2 Hn Hm Htk hcap hmc kS
          go_wp2_with (fail)
          refine (awakeC _ HE5.out).mono ?_
          rintro e w6 ⟨rfl, hb⟩
          have HB6 : Hid (Below w.heap.size w w6) := HB5.out.trans (hb.mono HB5.out.size)
          clear hb HE5 HB5
          go_wp2_with (fail)
          go_ret
          exact ⟨rfl, HB6.out⟩
        · have kR := ScriptBad s w2 hs HE2.out.g HE2.out.a.choose_spec HE2.out.c.choose_spec heS
          have kH := fun (W : World) (h : Env W) => scriptAny (s.extract 0 k) W (ex_le s k hk2 hs) h
          generalize scrT chkN s = TT at *
          go_wp2_with (fail)
          refine kR.mono ?_
          rintro e w3 ⟨F3, rfl, _, _, hb⟩
          have HE3 : Hid (Env w3) := HE2.out.on hb
          have HB3 : Hid (Below w.heap.size w w3) := HB2.out.trans (hb.mono HB2.out.size)
          clear hb kR HE2 HB2
          go_wp2_with (fail)
          refine (kH _ HE3.out).mono ?_
          rintro e w4 ⟨v4, E4, rfl, hb⟩
          have HE4 : Hid (Env w4) := HE3.out.on hb
          have HB4 : Hid (Below w.heap.size w w4) := HB3.out.trans (hb.mono HB3.out.size)
          clear hb kH HE3 HB3
          go_wp2_with (fail)
          refine (awakeC _ HE4.out).mono ?_
          rintro e w5 ⟨rfl, hb⟩
          have HB5 : Hid (Below w.heap.size w w5) := HB4.out.trans (hb.mono HB4.out.size)
          clear hb HE4 HB4
          go_wp2_with (fail)
          go_ret
          exact ⟨rfl, HB5.out⟩
theorem syntaxHeads_walk (s : ByteArray) (c : Int) (hs : s.size ≤ maxLen) (wc : (Lit.int .i64 c).wf = true) (w : World) (hE : Env w) :
    Calls Tryz.prog 6 #[.string s, .int .i64 c] w fun e w' => e = .returned (.bool true) ∧ Below w.heap.size w w' := by
  by_cases h : 16777216 < s.size
  · exact syntaxHeads_big s c hs h w hE
  · exact syntaxHeads_in s c (wf_I64 wc) (by omega) w hE

set_option maxRecDepth 100000 in
theorem syntaxHeads_lifted  (os : Os) (started : os.Started) (H : Type) (enc : TypeId × Value → H) :
    ReturnsInHanded {} Tryz.checked os 6 .any (fun w args => (Rows.syntaxHeadsSpec.pre enc Tryz.prog Tryz.f6 [] false w args ∧ laidMetH Tryz.prog laidList w) ∧ sizedMet enc Tryz.prog Tryz.f6 (OpenSpec.ofChange Rows.syntaxHeadsSpec) false w args)
      (Rows.syntaxHeadsSpec.post enc Tryz.prog Tryz.f6 false true false false) := by
  refine returnsInHanded_of_change_and (C := Tryz.checked) (X := fun w _ => laidMetH Tryz.prog laidList w) (fun _ _ _ hh h => h.of_heap hh) own started (by kernel_rfl) Tryz.func6
    (ChangeSpec.witness_shaped (enc := enc) (C := Tryz.checked) (os := os) (X := fun w _ => laidMetH Tryz.prog laidList w) false (World.doorLaid Tryz.prog 400 os) #[.string ⟨#[]⟩, .int .i64 0] 8 rfl (World.shaped_of_RefB (by kernel_rfl) (by kernel_rfl)) (by kernel_rfl) (by kernel_rfl) (by kernel_rfl) (door_met os _)) ?_
  intro W base args ds gs before hval0 hW _ _ hL _
  have hval : ∀ (j : Nat) t v, Tryz.f6.params[j]? = some t → args[j]? = some v → Value.okWide Tryz.prog W .any base t v := hval0
  have hW' := hW
  obtain ⟨p, q, hA0, hV, rfl, hfz, hnd⟩ := hW
  have hA : DataW.TrodAll enc Tryz.prog W 0 (fun _ => true) true Tryz.f6.params.toList args.toList ds p := hA0
  rw [Tryz.params6] at hA hval
  obtain ⟨v0, vs0, d0, ds0, p0, q0, hargs, rfl, rfl, h0, r0⟩ := trodAll_cons hA
  obtain ⟨v1, vs1, d1, ds1, p1, q1, rfl, rfl, rfl, h1, r1⟩ := trodAll_cons r0
  obtain ⟨rfl, rfl, rfl⟩ := trodAll_nil r1
  obtain rfl : args = #[v0, v1] := by cases args; simp_all
  obtain ⟨rfl, rfl⟩ := trodVars_none hV
  obtain ⟨a0, rfl, rfl, rfl, w0⟩ := open_string Tryz.underlying9 (hval 0 9 v0 rfl rfl) h0
  obtain ⟨a1, rfl, rfl, rfl, w1⟩ := open_int Tryz.underlying3 (hval 1 3 v1 rfl rfl) h1
  clear hA0 hval0
  simp only [List.append_nil] at hW'
  refine (syntaxHeads_walk  a0 a1 w0 w1 W (env_of_laid hL) ).mono fun e W' ⟨he, bel⟩ => ?_
  subst he
  exact ⟨_, rfl, _, _, _, [], _, [], hW', trodAll_mk1 (shut_bool Tryz.underlying4 _), (trodAll_cons_mk (shut_string Tryz.underlying9 w0) (trodAll_cons_mk (shut_int Tryz.underlying3 w1) trodAll_mk0)), rfl, bel.frame _, fun h => by cases h⟩

theorem syntaxHeads_row  : Rows.SyntaxHeadsSaid :=
  OpenClaim.holds_of_wide 6 Tryz.f6 rfl rfl rfl rfl rfl rfl rfl ⟨rfl, rfl, rfl, rfl, rfl⟩ rfl rfl rfl rfl rfl (by kernel_rfl) Tryz.func6 (by kernel_rfl)
    (of_decide_eq_true (by kernel_rfl)) (by unfold Func.isWrapper; first | (rw [if_pos (by decide +kernel)]; kernel_rfl) | (rw [if_neg (by decide +kernel)]; exact ⟨rfl, rfl⟩))
    (fun os started H enc _ => syntaxHeads_lifted  os started H enc)

/-- The given card. -/
theorem syntaxHeads_card  : Rows.SyntaxHeadsCardSaid :=
  Claim7.holds_tied_plain_at .later [] [.data, .data, .data, .handle, .sentinel, .sentinel, .data, .data] true (true, "5d43a455c8686ea7c9280688853b48480d5bb2fd5cd5428374f043ed58a02134") true
    (syntaxHeads_row ) (fun _ h => by cases h) (by kernel_rfl) (fun _ h => by cases h) syntaxHeads_row_tie rfl ⟨rfl, rfl⟩ (by kernel_rfl) rfl
    (fun f fn hf hfn => by
      obtain rfl : f = 6 := Option.some.inj ((show Tryz.prog.funcNamed "quintet/quintetlaw10.SyntaxHeads" = some 6 by kernel_rfl).symm.trans hf) |>.symm
      obtain rfl : fn = Tryz.f6 := (Option.some.inj (Tryz.func6.symm.trans hfn)).symm
      exact ⟨by kernel_rfl, fun j t ht => by
        rw [Tryz.params6] at ht
        have hm : t ∈ [9, 3] := by simpa using Array.mem_of_getElem? ht
        have hall : ([9, 3].all fun u => !Tryz.prog.wantsStandIn u) = true := by kernel_rfl
        exact (show Tryz.prog.wantsStandIn t = false by simpa using List.all_eq_true.1 hall t hm)⟩)
    (by kernel_rfl)
#print axioms syntaxHeads_card
end Go.Proofs.YtehedlgdencboabGreatDoor
