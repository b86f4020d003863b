/-
  For any text that lex.All takes, its tokens lie in it in order, where they say, with nothing but blanks and remarks between (P9.1); and the examples of the document hold.
  Conditions: the listed variables of the library (errors.errorType, strconv.ErrRange, strconv.ErrSyntax, and three tables) read as their initialisers lay them when the call begins (the card ties that to the program's text). Nothing else is asked.
-/
import Derived.Test.YtpbbeemlaigimaaDoorLxFrame
import Derived.Test.YtpbbeemlaigimaaDoorLxCu
import Derived.ChangeMaps5
import Derived.Deep.CutBlock
import Derived.Deep.DeepCutAuto
import Derived.Test.YtpbbeemlaigimaaDoorCards
import Derived.Test.YtpbbeemlaigimaaDoorTie
import Derived.SevenTiedAt
import Derived.Test.YtpbbeemlaigimaaDoorLxK
import Derived.Test.YtpbbeemlaigimaaDoorLxR
import Derived.Test.YtpbbeemlaigimaaDoorLxL
import Derived.Test.YtpbbeemlaigimaaDoorLxPlT
namespace Go.Proofs.YtpbbeemlaigimaaDoor
open Go.ChangeShapes Go.WideShapes Go.ChangeAt Go.RowKit Go.ChangeMaps
set_option linter.unusedVariables false

def remF (s : ByteArray) (a : Nat) : Nat → Bool
  | 0 => false
  | d + 1 => remF s a d || decide (bt s (a + d) = 35)
theorem remF_iff (s : ByteArray) (a : Nat) : ∀ d, remF s a d = true ↔ ∃ j, a ≤ j ∧ j < a + d ∧ bt s j = 35
  | 0 => by simp [remF]; intro j h1 h2; omega
  | d + 1 => by
    unfold remF
    rw [Bool.or_eq_true, remF_iff s a d, decide_eq_true_eq]
    constructor
    · rintro (⟨j, h1, h2, h3⟩ | h)
      · exact ⟨j, h1, by omega, h3⟩
      · exact ⟨a + d, by omega, by omega, h⟩
    · rintro ⟨j, h1, h2, h3⟩
      by_cases e : j = a + d
      · exact .inr (by rw [← e]; exact h3)
      · exact .inl ⟨j, h1, by omega, h3⟩
set_option maxRecDepth 20000 in
set_option maxHeartbeats 3000000 in
theorem lexTells_walk (hO : AllOk) (hBd : AllBad) (s : ByteArray) (ws : s.size ≤ maxLen) (w : World) (hg : Hnd w) :
    Calls Tryd.prog 7 #[.string s] w fun e w' => e = .returned (.bool true) ∧ Below w.heap.size w w' := by
  obtain ⟨n, hn⟩ : ∃ n, n = s.size := ⟨_, rfl⟩
  have HN : Hid (n = s.size) := hn
  have hlen : ∀ W, (Builtin.len_ #[9] 3 #[.string s]).run Tryd.prog W = .ok (.int .i64 (n : Int)) W := fun W => by rw [run_len_string W 9 3 s Tryd.underlying9, hn]; rfl
  have HO : Hid AllOk := hO
  have HBd : Hid AllBad := hBd
  by_cases hbig : 16777216 < s.size
  · have hbig' : (16777216 : Int) < (n : Int) := by omega
    clear hn hbig hg hO hBd ws
    go_enter Tryd.func7, Tryd.ntmps7
    go_wp2_with (fail)
    go_ret
    exact ⟨rfl, Below.refl _ _⟩
  · have hbig' : ¬ (16777216 : Int) < (n : Int) := by omega
    have HSZ : Hid (s.size ≤ 16777216) := by show _ ≤ _; omega
    have HG : Hid (Hnd w) := hg
    clear hg hO hBd ws hbig
    by_cases he : (lexT s).2.e = 0
    · have hsm := lex_small s he
      have htl := lex_tells s hsm he
      have hok := lexT_ok s hsm
      have hn6 : (n : Int) ≤ 65536 := by omega
      have hA := HO.out s w HSZ.out HG.out he
      obtain ⟨l, hl⟩ : ∃ l, l = (lexT s).1 := ⟨_, rfl⟩
      rw [← hl] at htl hA hok
      have HT0 : Hid (Tells s 0 0 1 l) := htl
      have hm6 : l.length ≤ 65537 := by have := hok.2.1; omega
      have HOK : Hid (∀ t ∈ l, OkT 65536 t ∧ t.l ≤ 65536) := hok.1
      clear hsm htl he hok hl hn
      go_enter Tryd.func7, Tryd.ntmps7
      go_wp2_with (fail)
      refine hA.mono ?_
      rintro e w1 ⟨v1, rfl, hrow1, hb1⟩
      obtain ⟨ad, cap, rfl, hcap, hat⟩ := hrow1.form
      have HAT : Hid (0 < l.length → ∃ g, ad = some ⟨g, 0, none⟩ ∧ w.heap.size ≤ g ∧ g < w1.heap.size ∧ ∀ k (hk : k < l.length) j, j < 5 → w1.cell? ⟨g, k * 5 + j, none⟩ = (encT (l[k]'hk))[j]?) := hat
      have HB1 : Hid (Below w.heap.size w w1) := hb1
      have HG1 : Hid (Hnd w1) := HG.out.on hb1
      obtain ⟨m, hm⟩ : ∃ m, m = l.length := ⟨_, rfl⟩
      have HM : Hid (m = l.length) := hm
      rw [← hm] at hcap hm6 ⊢
      have hm7 : (m : Int) ≤ 65537 := by omega
      clear hrow1 hat hb1 hA hm
      go_wp2_with (fail)
      go_loopw [5, 6, 7, 8] (fun av lv bv kv wr => ∃ k a ln beg : Nat, k ≤ m ∧ a ≤ n ∧ beg ≤ a ∧ ln ≤ k + 1 ∧ av = .int .i64 (a : Int) ∧ lv = .int .i64 (ln : Int) ∧ bv = .int .i64 (beg : Int) ∧ kv = .int .i64 (k : Int) ∧ Hid (Tells s a beg ln (l.drop k)) ∧ wr = w1) (fun _ _ _ kv _ => m - (intOf kv).toNat)
      case atStart => exact ⟨0, 0, 1, 0, Nat.zero_le _, Nat.zero_le _, Nat.le_refl _, Nat.le_refl _, rfl, rfl, rfl, rfl, HT0.out, rfl⟩
      case round =>
        obtain ⟨k, a, ln, beg, hkm, han, hba, hln, rfl, rfl, rfl, rfl, HT, hwr⟩ := hrel
        subst hwr
        by_cases hlt : k < m
        · have hlt' : (k : Int) < (m : Int) := by omega
          have hk0 : (0 : Int) ≤ (k : Int) := by omega
          have hk : k < l.length := by rw [← HM.out]; exact hlt
          obtain ⟨g, hgd, _, hgl, cc⟩ := HAT.out (by omega)
          subst hgd
          obtain ⟨t, htk⟩ : ∃ t, t = l[k]'hk := ⟨_, rfl⟩
          have x0 : wr.cell? ⟨g, k * 5, none⟩ = some (.int .i64 (t.k : Int)) := by have := cc k hk 0 (by decide); rw [← htk] at this; exact this
          have x1 : wr.cell? ⟨g, k * 5 + 1, none⟩ = some (.string t.t) := by have := cc k hk 1 (by decide); rw [← htk] at this; exact this
          have x3 : wr.cell? ⟨g, k * 5 + 3, none⟩ = some (.int .i64 (t.l : Int)) := by have := cc k hk 3 (by decide); rw [← htk] at this; exact this
          have x4 : wr.cell? ⟨g, k * 5 + 4, none⟩ = some (.int .i64 (t.c : Int)) := by have := cc k hk 4 (by decide); rw [← htk] at this; exact this
          have hT := HT.out
          rw [List.drop_eq_getElem_cons hk, ← htk] at hT
          obtain ⟨p, hp1, hp2, hgap, hln2, hpn, hex, hkk⟩ := hT
          have hokt := (HOK.out t (by rw [htk]; exact List.getElem_mem hk)).1
          have hc2 := hokt.c2
          have HGap : Hid (gapOk s a p) := hgap
          obtain ⟨sz, hsz⟩ : ∃ sz, sz = t.t.size := ⟨_, rfl⟩
          rw [← hsz] at hpn hex hkk
          obtain ⟨e1, he1⟩ : ∃ e1, e1 = p + sz := ⟨_, rfl⟩
          rw [← he1] at hpn hex hkk
          have HK := hkk
          replace HK : Hid _ := HK
          have hsl := slS s p e1 (by omega) hpn
          rw [hex] at hsl
          have hlT : ∀ W, (Builtin.len_ #[9] 3 #[.string t.t]).run Tryd.prog W = .ok (.int .i64 (sz : Int)) W := fun W => by rw [run_len_string W 9 3 t.t Tryd.underlying9, hsz]; rfl
          have eend : (p : Int) + (sz : Int) = (e1 : Int) := by omega
          have ecol : (beg : Int) + (t.c : Int) - 1 = (p : Int) := by omega
          have esub : (p : Int) - (beg : Int) = (t.c : Int) - 1 := by omega
          have hpn2 : p ≤ n := by rw [HN.out]; omega
          have he1n : ¬ (n : Int) < (e1 : Int) := by rw [HN.out]; omega
          have HE1 : Hid (e1 ≤ n) := by show _ ≤ _; rw [HN.out]; exact hpn
          have HE2 : Hid (a ≤ p ∧ p ≤ e1) := ⟨hp2, by omega⟩
          have hbc : (beg : Int) + (t.c : Int) ≤ 131074 := by omega
          obtain ⟨rm, hrm⟩ : ∃ rm, rm = remF s a (p - a) := ⟨_, rfl⟩
          have HRm : Hid (rm = remF s a (p - a)) := hrm
          rw [hln2] at x3
          clear cc hk htk hgap hpn hex hkk hokt hsz he1 hrm hln2
          generalize t.t = tt at *
          by_cases hpn3 : p < n
          · have hpn' : (p : Int) < (n : Int) := by omega
            go_upto_block 2 with (fail)
            go_cut [5, 9] from 34 to 77 (fun av rv wx => av = .int .i64 (p : Int) ∧ rv = .bool rm ∧ Hid (wx = wr))
            case first =>
              clear eend esub hsl hlT
              go_wp2_with (fail)
              go_loopw [5, 9] (fun av rv wx => ∃ d : Nat, a + d ≤ p ∧ av = .int .i64 ((a + d : Nat) : Int) ∧ rv = .bool (remF s a d) ∧ wx = wr) (fun av _ _ => p - (intOf av).toNat)
              case atStart => exact ⟨0, by omega, rfl, rfl, rfl⟩
              case round =>
                obtain ⟨d, hd, rfl, rfl, hwx⟩ := hrel
                subst hwx
                obtain ⟨q, hq⟩ : ∃ q, q = a + d := ⟨_, rfl⟩
                rw [← hq]
                by_cases hqp : q < p
                · have hqp' : (q : Int) < (p : Int) := by omega
                  have hqn' : (q : Int) < (n : Int) := by omega
                  have hix := idxS s q (by rw [← HN.out]; omega)
                  obtain ⟨g10, gor⟩ := HGap.out q (by omega) hqp
                  have g10' : ¬ ((bt s q : Nat) : Int) = 10 := by omega
                  have eq1 : ((a + (d + 1) : Nat) : Int) = (q : Int) + 1 := by omega
                  have HQ1 : Hid (((a + (d + 1) : Nat) : Int) = (q : Int) + 1) := eq1
                  have hre : remF s a (d + 1) = (remF s a d || decide (bt s q = 35)) := by rw [hq]; rfl
                  have HRE : Hid (remF s a (d + 1) = (remF s a d || decide (bt s q = 35))) := hre
                  have HD : Hid (a + (d + 1) ≤ p) := by show _ ≤ _; omega
                  have HQ : Hid (q = a + d) := hq
                  cases hrm : remF s a d
                  · by_cases c35 : bt s q = 35
                    · rw [c35] at hix g10'
                      have HR2 : Hid (remF s a (d + 1) = true) := by show _ = _; rw [HRE.out, hrm, c35]; rfl
                      clear hrm c35 g10 gor hre eq1 hq HRE
                      go_wp2_with (fail)
                      go_roundw
                      case rel => exact ⟨d + 1, HD.out, by rw [HQ1.out], by rw [HR2.out], trivial⟩
                      case measure => have := HQ.out; simp [intOf]; omega
                    · have hb : blankB (bt s q) = true := by
                        rcases gor with gb | ⟨j, j1, j2, j3⟩
                        · exact gb
                        · exfalso
                          by_cases ej : j = q
                          · rw [ej] at j3; exact c35 j3
                          · have := (remF_iff s a d).2 ⟨j, j1, by omega, j3⟩
                            rw [hrm] at this; cases this
                      have HR2 : Hid (remF s a (d + 1) = false) := by show _ = _; rw [HRE.out, hrm, decide_eq_false c35]; rfl
                      have c35' : ¬ ((bt s q : Nat) : Int) = 35 := by omega
                      have hb3 : bt s q = 32 ∨ bt s q = 9 ∨ bt s q = 13 := by unfold blankB at hb; simpa [or_assoc] using hb
                      clear hrm c35 g10 gor hre eq1 hq HRE hb
                      rcases hb3 with hb3 | hb3 | hb3
                      all_goals
                        rw [hb3] at hix c35' g10'
                        clear hb3
                        go_wp2_with (fail)
                        go_roundw
                        case rel => exact ⟨d + 1, HD.out, by rw [HQ1.out], by rw [HR2.out], trivial⟩
                        case measure => have := HQ.out; simp [intOf]; omega
                  · have HR2 : Hid (remF s a (d + 1) = true) := by show _ = _; rw [HRE.out, hrm]; rfl
                    clear hrm g10 gor hre eq1 hq HRE
                    generalize bt s q = cq at hix g10'
                    go_wp2_with (fail)
                    go_roundw
                    case rel => exact ⟨d + 1, HD.out, by rw [HQ1.out], by rw [HR2.out], trivial⟩
                    case measure => have := HQ.out; simp [intOf]; omega
                · have hqp : q = p := by omega
                  have HRM : Hid (remF s a d = rm) := by show _ = _; rw [HRm.out, show p - a = d by omega]
                  subst hqp
                  have hqq : ¬ (q : Int) < (q : Int) := by omega
                  clear hq
                  go_wp2_with (fail)
                  go_meet
                  case rel => exact ⟨rfl, by rw [HRM.out], rfl⟩
            case rest =>
              obtain ⟨rfl, rfl, hcw⟩ := hcut
              obtain rfl := hcw.out
              clear hcw
              rcases HK.out with ⟨k4, ht⟩ | ⟨k4, hno, ht⟩
              · have HT2 : Hid (Tells s e1 e1 (ln + 1) (l.drop (k + 1))) := ht
                have k4' : (t.k : Int) = 4 := by omega
                clear ht k4
                go_wp2_with (fail)
                go_roundw
                case rel => exact ⟨k + 1, e1, ln + 1, e1, by omega, HE1.out, Nat.le_refl _, by omega, rfl, by go_num, rfl, by go_num, HT2.out, trivial⟩
                case measure => simp [intOf]; omega
              · have HT2 : Hid (Tells s e1 beg ln (l.drop (k + 1))) := ht
                have k4' : ¬ (t.k : Int) = 4 := by omega
                have hrm0 : rm = false := by
                  rw [HRm.out]
                  cases hc : remF s a (p - a)
                  · rfl
                  · obtain ⟨j, j1, j2, j3⟩ := (remF_iff s a (p - a)).1 hc
                    exact absurd j3 (hno j j1 (by omega))
                subst hrm0
                clear ht k4 hno
                go_wp2_with (fail)
                go_roundw
                case rel => exact ⟨k + 1, e1, ln, beg, by omega, HE1.out, by have := HE2.out; omega, by omega, rfl, rfl, rfl, by go_num, HT2.out, trivial⟩
                case measure => simp [intOf]; omega
          · have hpn' : ¬ (p : Int) < (n : Int) := by omega
            go_upto_block 2 with (fail)
            go_cut [5, 9] from 34 to 77 (fun av rv wx => av = .int .i64 (p : Int) ∧ rv = .bool rm ∧ Hid (wx = wr))
            case first =>
              clear eend esub hsl hlT
              go_wp2_with (fail)
              go_loopw [5, 9] (fun av rv wx => ∃ d : Nat, a + d ≤ p ∧ av = .int .i64 ((a + d : Nat) : Int) ∧ rv = .bool (remF s a d) ∧ wx = wr) (fun av _ _ => p - (intOf av).toNat)
              case atStart => exact ⟨0, by omega, rfl, rfl, rfl⟩
              case round =>
                obtain ⟨d, hd, rfl, rfl, hwx⟩ := hrel
                subst hwx
                obtain ⟨q, hq⟩ : ∃ q, q = a + d := ⟨_, rfl⟩
                rw [← hq]
                by_cases hqp : q < p
                · have hqp' : (q : Int) < (p : Int) := by omega
                  have hqn' : (q : Int) < (n : Int) := by omega
                  have hix := idxS s q (by rw [← HN.out]; omega)
                  obtain ⟨g10, gor⟩ := HGap.out q (by omega) hqp
                  have g10' : ¬ ((bt s q : Nat) : Int) = 10 := by omega
                  have eq1 : ((a + (d + 1) : Nat) : Int) = (q : Int) + 1 := by omega
                  have HQ1 : Hid (((a + (d + 1) : Nat) : Int) = (q : Int) + 1) := eq1
                  have hre : remF s a (d + 1) = (remF s a d || decide (bt s q = 35)) := by rw [hq]; rfl
                  have HRE : Hid (remF s a (d + 1) = (remF s a d || decide (bt s q = 35))) := hre
                  have HD : Hid (a + (d + 1) ≤ p) := by show _ ≤ _; omega
                  have HQ : Hid (q = a + d) := hq
                  cases hrm : remF s a d
                  · by_cases c35 : bt s q = 35
                    · rw [c35] at hix g10'
                      have HR2 : Hid (remF s a (d + 1) = true) := by show _ = _; rw [HRE.out, hrm, c35]; rfl
                      clear hrm c35 g10 gor hre eq1 hq HRE
                      go_wp2_with (fail)
                      go_roundw
                      case rel => exact ⟨d + 1, HD.out, by rw [HQ1.out], by rw [HR2.out], trivial⟩
                      case measure => have := HQ.out; simp [intOf]; omega
                    · have hb : blankB (bt s q) = true := by
                        rcases gor with gb | ⟨j, j1, j2, j3⟩
                        · exact gb
                        · exfalso
                          by_cases ej : j = q
                          · rw [ej] at j3; exact c35 j3
                          · have := (remF_iff s a d).2 ⟨j, j1, by omega, j3⟩
                            rw [hrm] at this; cases this
                      have HR2 : Hid (remF s a (d + 1) = false) := by show _ = _; rw [HRE.out, hrm, decide_eq_false c35]; rfl
                      have c35' : ¬ ((bt s q : Nat) : Int) = 35 := by omega
                      have hb3 : bt s q = 32 ∨ bt s q = 9 ∨ bt s q = 13 := by unfold blankB at hb; simpa [or_assoc] using hb
                      clear hrm c35 g10 gor hre eq1 hq HRE hb
                      rcases hb3 with hb3 | hb3 | hb3
                      all_goals
                        rw [hb3] at hix c35' g10'
                        clear hb3
                        go_wp2_with (fail)
                        go_roundw
                        case rel => exact ⟨d + 1, HD.out, by rw [HQ1.out], by rw [HR2.out], trivial⟩
                        case measure => have := HQ.out; simp [intOf]; omega
                  · have HR2 : Hid (remF s a (d + 1) = true) := by show _ = _; rw [HRE.out, hrm]; rfl
                    clear hrm g10 gor hre eq1 hq HRE
                    generalize bt s q = cq at hix g10'
                    go_wp2_with (fail)
                    go_roundw
                    case rel => exact ⟨d + 1, HD.out, by rw [HQ1.out], by rw [HR2.out], trivial⟩
                    case measure => have := HQ.out; simp [intOf]; omega
                · have hqp : q = p := by omega
                  have HRM : Hid (remF s a d = rm) := by show _ = _; rw [HRm.out, show p - a = d by omega]
                  subst hqp
                  have hqq : ¬ (q : Int) < (q : Int) := by omega
                  clear hq
                  go_wp2_with (fail)
                  go_meet
                  case rel => exact ⟨rfl, by rw [HRM.out], rfl⟩
            case rest =>
              obtain ⟨rfl, rfl, hcw⟩ := hcut
              obtain rfl := hcw.out
              clear hcw
              rcases HK.out with ⟨k4, ht⟩ | ⟨k4, hno, ht⟩
              · have HT2 : Hid (Tells s e1 e1 (ln + 1) (l.drop (k + 1))) := ht
                have k4' : (t.k : Int) = 4 := by omega
                clear ht k4
                go_wp2_with (fail)
                go_roundw
                case rel => exact ⟨k + 1, e1, ln + 1, e1, by omega, HE1.out, Nat.le_refl _, by omega, rfl, by go_num, rfl, by go_num, HT2.out, trivial⟩
                case measure => simp [intOf]; omega
              · have HT2 : Hid (Tells s e1 beg ln (l.drop (k + 1))) := ht
                have k4' : ¬ (t.k : Int) = 4 := by omega
                have hrm0 : rm = false := by
                  rw [HRm.out]
                  cases hc : remF s a (p - a)
                  · rfl
                  · obtain ⟨j, j1, j2, j3⟩ := (remF_iff s a (p - a)).1 hc
                    exact absurd j3 (hno j j1 (by omega))
                subst hrm0
                clear ht k4 hno
                go_wp2_with (fail)
                go_roundw
                case rel => exact ⟨k + 1, e1, ln, beg, by omega, HE1.out, by have := HE2.out; omega, by omega, rfl, rfl, rfl, by go_num, HT2.out, trivial⟩
                case measure => simp [intOf]; omega
        · obtain rfl : k = m := by omega
          have hend : a = s.size := by have := HT.out; rw [HM.out, List.drop_length] at this; exact this
          obtain rfl : a = n := by rw [HN.out]; exact hend
          have hlt' : ¬ (k : Int) < (k : Int) := by omega
          clear hend HT
          go_wp2_with (fail)
          refine (awakeL HO.out HBd.out _ HG1.out).mono ?_
          rintro e w2 ⟨rfl, hb2⟩
          have HB2 := HB1.out.trans (hb2.mono HB1.out.size)
          replace HB2 : Hid _ := HB2
          clear hb2
          go_wp2_with (fail)
          go_ret
          exact ⟨rfl, HB2.out⟩
    · clear hn
      have hA := HBd.out s w HSZ.out HG.out he
      go_enter Tryd.func7, Tryd.ntmps7
      go_wp2_with (fail)
      refine hA.mono ?_
      rintro e w1 ⟨v1, F1, rfl, hrow1, _, _, _, hb1⟩
      obtain ⟨ad, cap, rfl, hcap, _⟩ := hrow1.form
      have HB1 : Hid (Below w.heap.size w w1) := hb1
      have HG1 : Hid (Hnd w1) := HG.out.on hb1
      clear hrow1 hb1 hA he
      go_wp2_with (fail)
      refine (awakeL HO.out HBd.out _ HG1.out).mono ?_
      rintro e w2 ⟨rfl, hb2⟩
      have HB2 := HB1.out.trans (hb2.mono HB1.out.size)
      replace HB2 : Hid _ := HB2
      clear hb2
      go_wp2_with (fail)
      go_ret
      exact ⟨rfl, HB2.out⟩

set_option maxRecDepth 100000 in
theorem lexTells_lifted  (os : Os) (started : os.Started) (H : Type) (enc : TypeId × Value → H) :
    ReturnsInHanded {} Tryd.checked os 7 .any (fun w args => (Rows.lexTellsSpec.pre enc Tryd.prog Tryd.f7 [] false w args ∧ laidMetH Tryd.prog laidList w) ∧ sizedMet enc Tryd.prog Tryd.f7 (OpenSpec.ofChange Rows.lexTellsSpec) false w args)
      (Rows.lexTellsSpec.post enc Tryd.prog Tryd.f7 false true false false) := by
  refine returnsInHanded_of_change_and (C := Tryd.checked) (X := fun w _ => laidMetH Tryd.prog laidList w) (fun _ _ _ hh h => h.of_heap hh) own started (by kernel_rfl) Tryd.func7
    (ChangeSpec.witness_shaped (enc := enc) (C := Tryd.checked) (os := os) (X := fun w _ => laidMetH Tryd.prog laidList w) false (World.doorLaid Tryd.prog 400 os) #[.string ⟨#[]⟩] 8 rfl (World.shaped_of_RefB (by kernel_rfl) (by kernel_rfl)) (by kernel_rfl) (by kernel_rfl) (by kernel_rfl) (door_met os _)) ?_
  intro W base args ds gs before hval0 hW _ _ hL _
  have hval : ∀ (j : Nat) t v, Tryd.f7.params[j]? = some t → args[j]? = some v → Value.okWide Tryd.prog W .any base t v := hval0
  have hW' := hW
  obtain ⟨p, q, hA0, hV, rfl, hfz, hnd⟩ := hW
  have hA : DataW.TrodAll enc Tryd.prog W 0 (fun _ => true) true Tryd.f7.params.toList args.toList ds p := hA0
  rw [Tryd.params7] at hA hval
  obtain ⟨v0, vs0, d0, ds0, p0, q0, hargs, rfl, rfl, h0, r0⟩ := trodAll_cons hA
  obtain ⟨rfl, rfl, rfl⟩ := trodAll_nil r0
  obtain rfl : args = #[v0] := by cases args; simp_all
  obtain ⟨rfl, rfl⟩ := trodVars_none hV
  obtain ⟨a0, rfl, rfl, rfl, w0⟩ := open_string Tryd.underlying9 (hval 0 9 v0 rfl rfl) h0
  clear hA0 hval0
  simp only [List.append_nil] at hW'
  refine (lexTells_walk allOk allBad a0 w0 W (handle_of_laid hL)).mono fun e W' ⟨he, bel⟩ => ?_
  subst he
  exact ⟨_, rfl, _, _, _, [], _, [], hW', trodAll_mk1 (shut_bool Tryd.underlying4 _), (trodAll_cons_mk (shut_string Tryd.underlying9 w0) trodAll_mk0), rfl, bel.frame _, fun h => by cases h⟩

theorem lexTells_row  : Rows.LexTellsSaid :=
  OpenClaim.holds_of_wide 7 Tryd.f7 rfl rfl rfl rfl rfl rfl rfl ⟨rfl, rfl, rfl, rfl, rfl⟩ rfl rfl rfl rfl rfl (by kernel_rfl) Tryd.func7 (by kernel_rfl)
    (of_decide_eq_true (by kernel_rfl)) (by unfold Func.isWrapper; first | (rw [if_pos (by decide +kernel)]; kernel_rfl) | (rw [if_neg (by decide +kernel)]; exact ⟨rfl, rfl⟩))
    (fun os started H enc _ => lexTells_lifted  os started H enc)

/-- The given card. -/
theorem lexTells_card  : Rows.LexTellsCardSaid :=
  Claim7.holds_tied_plain_at .later [] [.data, .data, .data, .handle, .sentinel, .sentinel] true (true, "4c49c49df97e45711c5eaade678bebdcb961764b4c56f7cfd887962332d2ee90") true
    (lexTells_row ) (fun _ h => by cases h) (by kernel_rfl) (fun _ h => by cases h) lexTells_row_tie rfl ⟨rfl, rfl⟩ (by kernel_rfl) rfl
    (fun f fn hf hfn => by
      obtain rfl : f = 7 := Option.some.inj ((show Tryd.prog.funcNamed "quintet/quintetlaw09.LexTells" = some 7 by kernel_rfl).symm.trans hf) |>.symm
      obtain rfl : fn = Tryd.f7 := (Option.some.inj (Tryd.func7.symm.trans hfn)).symm
      exact ⟨by kernel_rfl, fun j t ht => by
        rw [Tryd.params7] at ht
        have hm : t ∈ [9] := by simpa using Array.mem_of_getElem? ht
        have hall : ([9].all fun u => !Tryd.prog.wantsStandIn u) = true := by kernel_rfl
        exact (show Tryd.prog.wantsStandIn t = false by simpa using List.all_eq_true.1 hall t hm)⟩)
    (by kernel_rfl)
#print axioms lexTells_card
end Go.Proofs.YtpbbeemlaigimaaDoor
