/-
  For any text, lex.All answers as the document says (P9.1), twice, whatever is done with the first answer; and the examples of the document hold.
  Conditions: the listed variables of the library (errors.errorType, strconv.ErrRange, strconv.ErrSyntax, and three tables) read as their initialisers lay them when the call begins (the card ties that to the program's text). Nothing else is asked.
-/
import Derived.Test.YtpbbeemlaigimaaDoorLxFrame
import Derived.Test.YtpbbeemlaigimaaDoorLxCu
import Derived.ChangeMaps5
import Derived.Deep.CutBlock
import Derived.Deep.DeepCutAuto
import Derived.Test.YtpbbeemlaigimaaDoorCards
import Derived.Test.YtpbbeemlaigimaaDoorTie
import Derived.SevenTiedAt
import Derived.Test.YtpbbeemlaigimaaDoorLxK
import Derived.Test.YtpbbeemlaigimaaDoorLxA
import Derived.Test.YtpbbeemlaigimaaDoorLxS
import Derived.Test.YtpbbeemlaigimaaDoorLxBt
namespace Go.Proofs.YtpbbeemlaigimaaDoor
open Go.ChangeShapes Go.WideShapes Go.ChangeAt Go.RowKit Go.ChangeMaps
set_option linter.unusedVariables false

theorem row_two {w : World} {b : Nat} {v : Value} {l : List Tk} (h : RowT w b v l) : (v = .slice none 0 0 ∧ l.length = 0) ∨ ∃ g cap cur, v = .slice (some ⟨g, 0, none⟩) l.length cap ∧ b ≤ g ∧ w.heap[g]? = some (.cells cur 38) ∧ cur.size = cap * 5 ∧ cap ≤ maxLen := by
  rcases h.2 with ⟨hv, hn⟩ | ⟨g, cap, cur, hv, hb, hg, hnc, hcm, hcs, htk⟩
  · exact .inl ⟨hv, hn⟩
  · exact .inr ⟨g, cap, cur, hv, hb, hg, by first | exact hcs | (rw [hcs]) | omega, by first | exact hcm | omega⟩
set_option maxRecDepth 20000 in
set_option maxHeartbeats 3000000 in
theorem lexAll_walk (hO : AllOk) (hBd : AllBad) (s : ByteArray) (ws : s.size ≤ maxLen) (w : World) (hg : Hnd w) :
    Calls Tryd.prog 3 #[.string s] w fun e w' => e = .returned (.bool true) ∧ Below w.heap.size w w' := by
  obtain ⟨n, hn⟩ : ∃ n, n = s.size := ⟨_, rfl⟩
  have hlen : ∀ W, (Builtin.len_ #[9] 3 #[.string s]).run Tryd.prog W = .ok (.int .i64 (n : Int)) W := fun W => by rw [run_len_string W 9 3 s Tryd.underlying9, hn]; rfl
  by_cases hbig : 16777216 < s.size
  · have hbig' : (16777216 : Int) < (n : Int) := by omega
    clear hn hbig hg hO hBd ws
    go_enter Tryd.func3, Tryd.ntmps3
    go_wp2_with (fail)
    go_ret
    exact ⟨rfl, Below.refl _ _⟩
  · have hbig' : ¬ (16777216 : Int) < (n : Int) := by omega
    have HSZ : Hid (s.size ≤ 16777216) := by show _ ≤ _; omega
    have HG : Hid (Hnd w) := hg
    have HNG : Hid (4 < w.heap.size) := hg.lt
    have HLen : Hid ((lexT s).1.length ≤ 70000) := by
      show _ ≤ _
      by_cases h : s.size ≤ 65536
      · have := (lexT_ok s h).2.1; omega
      · unfold lexT; rw [if_pos (by omega)]; simp
    have hA := rallL s w HSZ.out
    obtain ⟨er, her⟩ : ∃ er, er = (lexT s).2 := ⟨_, rfl⟩
    have HER : Hid ((lexT s).2 = er) := her.symm
    rw [← her] at hA
    clear hn hbig ws hg
    go_enter Tryd.func3, Tryd.ntmps3
    go_wp2_with (fail)
    refine hA.mono ?_
    rintro e w1 ⟨v1, rfl, hrow1, hb1⟩
    have HB1 : Hid (Below w.heap.size w w1) := hb1
    have HG1 : Hid (Hnd w1) := HG.out.on hb1
    have hz1 := hb1.size
    clear hb1 hA
    by_cases he : (lexT s).2.e = 0
    · have HE0 : Hid ((lexT s).2.e = 0) := he
      have er0 : er.e = 0 := by rw [her]; exact he
      have HR1' : Hid (RowT w1 w.heap.size v1 (lexT s).1) := hrow1
      obtain ⟨wv, hwv⟩ : ∃ wv, wv = v1 := ⟨_, rfl⟩
      have HWV : Hid (∀ g, w1.heap.size ≤ g → some g ≠ wv.ownBlock) := fun g hg => by rw [hwv]; exact fun e => by have := (hrow1.lt _ e.symm).2; omega
      subst hwv
      rw [er0]
      clear her he er0 hrow1
      go_wp2_with (fail)
      refine (hO s _ HSZ.out (by first | exact H4G.out | exact H1G.out | exact H1G.out.alloc _ | exact HG1.out | exact HG1.out.alloc _) HE0.out).mono ?_
      rintro e w2 ⟨v2, rfl, hrow2, hb2⟩
      have H2W : Hid (w2.heap[w1.heap.size]? = some (.cells #[.int .i64 0, .int .i64 (er.l : Int), .int .i64 (er.c : Int)] 25)) := blk_on (blk_new w1 _) hb2
      have H2B : Hid (Below w.heap.size w w2) := (HB1.out.alloc HB1.out.size _).trans (hb2.mono (by have := HB1.out.size; simp; omega))
      have H2G : Hid (Hnd w2) := (HG1.out.alloc _).on hb2
      have H2K : Hid (RowT w2 0 wv (lexT s).1) := ((HR1'.out.alloc _).on hb2).base (Nat.zero_le _)
      have H2R : Hid (RowT w2 (w1.heap.size + 1) v2 (lexT s).1) := hrow2.base (by simp)
      obtain ⟨b0, b1, b2⟩ := w3cells H2W.out
      clear hrow2 hb2
      have hS2 := rsameT v2 wv (lexT s).1 (w1.heap.size + 1) 0 w2 H2R.out H2K.out HLen.out
      go_wp2_with (fail)
      refine hS2.mono ?_
      rintro e w3 ⟨rfl, hb3⟩
      have H3W : Hid (w3.heap[w1.heap.size]? = some (.cells #[.int .i64 0, .int .i64 (er.l : Int), .int .i64 (er.c : Int)] 25)) := blk_on H2W.out hb3
      have H3B : Hid (Below w.heap.size w w3) := H2B.out.trans (hb3.mono H2B.out.size)
      have H3G : Hid (Hnd w3) := H2G.out.on hb3
      have H3K : Hid (RowT w3 0 wv (lexT s).1) := H2K.out.on hb3
      have H3R : Hid (RowT w3 (w1.heap.size + 1) v2 (lexT s).1) := H2R.out.on hb3
      clear hb3 hS2 b0 b1 b2
      obtain ⟨b0, b1, b2⟩ := w3cells H3W.out
      go_wp2_with (fail)
      refine (keepNil _ _ _).mono ?_
      rintro e w3' ⟨rfl, hw3⟩
      obtain rfl := hw3
      clear b0 b1 b2
      go_wp2_with (fail)
      refine (turnNil _).mono ?_
      rintro e w4 ⟨rfl, hb4⟩
      have K3W := H3W
      have K3B := H3B
      have K3G := H3G
      have K3K := H3K
      have K3R := H3R
      clear H3W H3B H3G H3K H3R
      have H3W : Hid (w4.heap[w1.heap.size]? = some (.cells #[.int .i64 0, .int .i64 (er.l : Int), .int .i64 (er.c : Int)] 25)) := blk_on K3W.out hb4
      have H3B : Hid (Below w.heap.size w w4) := K3B.out.trans (hb4.mono K3B.out.size)
      have H3G : Hid (Hnd w4) := K3G.out.on hb4
      have H3K : Hid (RowT w4 0 wv (lexT s).1) := K3K.out.on hb4
      have H3R : Hid (RowT w4 (w1.heap.size + 1) v2 (lexT s).1) := K3R.out.on hb4
      clear hb4 K3W K3B K3G K3K K3R
      rcases row_two H3R.out with ⟨rfl, hlz⟩ | ⟨g, cap, cur, rfl, hgb, hgh, hcs, hcm⟩
      · clear hlz
        go_wp2_with (fail)
        go_loopw [7] (fun iv wr => iv = .int .i64 0 ∧ wr = w4) (fun _ _ => 0)
        case atStart => exact ⟨rfl, rfl⟩
        case round =>
          obtain ⟨rfl, hwr⟩ := hrel
          subst hwr
          have H4B := H3B
          have H4G := H3G
          have H4W := H3W
          have H4R := H3K
          go_wp2_with (fail)
          refine (hO s _ HSZ.out (by first | exact H4G.out | exact H1G.out | exact H1G.out.alloc _ | exact HG1.out | exact HG1.out.alloc _) HE0.out).mono ?_
          rintro e w5 ⟨v5, rfl, hrow5, hb5⟩
          have HR5 : Hid (RowT w5 0 v5 (lexT s).1) := hrow5.base (Nat.zero_le _)
          have H5B : Hid (Below w.heap.size w w5) := H4B.out.trans (hb5.mono H4B.out.size)
          have H5G : Hid (Hnd w5) := H4G.out.on hb5
          have H5W : Hid (w5.heap[w1.heap.size]? = some (.cells #[.int .i64 0, .int .i64 (er.l : Int), .int .i64 (er.c : Int)] 25)) := blk_on H4W.out hb5
          have H5R : Hid (RowT w5 0 wv (lexT s).1) := H4R.out.on hb5
          clear hrow5 hb5
          go_wp2_with (fail)
          refine (awakeL hO hBd _ H5G.out).mono ?_
          rintro e w6 ⟨rfl, hb6⟩
          have H6B : Hid (Below w.heap.size w w6) := H5B.out.trans (hb6.mono H5B.out.size)
          have H6G : Hid (Hnd w6) := H5G.out.on hb6
          have H6W : Hid (w6.heap[w1.heap.size]? = some (.cells #[.int .i64 0, .int .i64 (er.l : Int), .int .i64 (er.c : Int)] 25)) := blk_on H5W.out hb6
          have hS6 := rsameT v5 wv (lexT s).1 0 0 w6 (HR5.out.on hb6) (H5R.out.on hb6) (by first | exact HLen.out | exact Nat.zero_le _)
          clear hb6
          go_wp2_with (fail)
          refine hS6.mono ?_
          rintro e w7 ⟨rfl, hb7⟩
          have H7B : Hid (Below w.heap.size w w7) := H6B.out.trans (hb7.mono H6B.out.size)
          have H7G : Hid (Hnd w7) := H6G.out.on hb7
          obtain ⟨b0, b1, b2⟩ := w3cells (blk_on H6W.out hb7)
          clear hb7 hS6
          go_wp2_with (fail)
          refine (keepNil _ _ _).mono ?_
          rintro e w8 ⟨rfl, hw8⟩
          obtain rfl := hw8
          go_wp2_with (fail)
          go_ret
          exact ⟨rfl, H7B.out⟩
      · have hgl : g < w4.heap.size := blk_lt hgh
        have HGH : Hid (w4.heap[g]? = some (.cells cur 38)) := hgh
        have HCS : Hid (cur.size = cap * 5) := hcs
        have hcap0 : (0 : Int) ≤ (cap : Int) := by omega
        have hcapm : (cap : Int) ≤ 9223372036854775807 := by have := hcm; unfold maxLen at this; omega
        clear hgh hcs
        go_wp2_with (fail)
        go_loopw [7] (fun iv wr => ∃ (k : Nat) (cu : Array Value), k ≤ cap ∧ iv = .int .i64 (k : Int) ∧ Hid (wr.heap[g]? = some (.cells cu 38)) ∧ Hid (cu.size = cap * 5) ∧ Hid (But g w4 wr)) (fun iv _ => cap - (intOf iv).toNat)
        case atStart => exact ⟨0, cur, Nat.zero_le _, rfl, HGH.out, HCS.out, But.refl _ _⟩
        case round =>
          obtain ⟨k, cu, hk, rfl, HCU, HCZ, HBT⟩ := hrel
          by_cases hlt : k < cap
          · have hlt' : (k : Int) < (cap : Int) := by omega
            have hk0 : (0 : Int) ≤ (k : Int) := by omega
            go_wp2_with (refine wpList_store_blk rfl 38 (.tmp 56) (.tmp 55) rfl g (k * 5) #[.int .i64 9, .string ⟨#[]⟩, .int .u32 0, .int .i64 0, .int .i64 0] ⟨cu.toList.take (k * 5) ++ [.int .i64 9, .string ⟨#[]⟩, .int .u32 0, .int .i64 0, .int .i64 0] ++ cu.toList.drop (k * 5 + 5)⟩ rfl rfl 38 _ HCU.out (by have := HCZ.out; show k * 5 + 5 ≤ _; omega) rfl (by kernel_rfl) rfl ?_; intro w9 hw9 ho9)
            go_roundw
            case rel =>
              refine ⟨k + 1, _, by omega, by go_num, hw9, ?_, HBT.out.only ho9⟩
              show _ = _
              have := HCZ.out
              simp only [List.size_toArray, List.length_append, List.length_take, List.length_drop, List.length_cons, List.length_nil, Array.length_toList]
              omega
            case measure => simp [intOf]; omega
          · obtain rfl : k = cap := by omega
            have hlt' : ¬ (k : Int) < (k : Int) := by omega
            have H4B : Hid (Below w.heap.size w wr) := H3B.out.trans (HBT.out.below (by omega) H3B.out.size)
            have H4G : Hid (Hnd wr) := HBT.out.cell H3G.out (by have := HNG.out; omega)
            have H4W : Hid (wr.heap[w1.heap.size]? = some (.cells #[.int .i64 0, .int .i64 (er.l : Int), .int .i64 (er.c : Int)] 25)) := HBT.out.blk H3W.out (by omega)
            have H4R : Hid (RowT wr 0 wv (lexT s).1) := HBT.out.row H3K.out (HWV.out g (by omega))
            go_wp2_with (fail)
            refine (hO s _ HSZ.out (by first | exact H4G.out | exact H1G.out | exact H1G.out.alloc _ | exact HG1.out | exact HG1.out.alloc _) HE0.out).mono ?_
            rintro e w5 ⟨v5, rfl, hrow5, hb5⟩
            have HR5 : Hid (RowT w5 0 v5 (lexT s).1) := hrow5.base (Nat.zero_le _)
            have H5B : Hid (Below w.heap.size w w5) := H4B.out.trans (hb5.mono H4B.out.size)
            have H5G : Hid (Hnd w5) := H4G.out.on hb5
            have H5W : Hid (w5.heap[w1.heap.size]? = some (.cells #[.int .i64 0, .int .i64 (er.l : Int), .int .i64 (er.c : Int)] 25)) := blk_on H4W.out hb5
            have H5R : Hid (RowT w5 0 wv (lexT s).1) := H4R.out.on hb5
            clear hrow5 hb5
            go_wp2_with (fail)
            refine (awakeL hO hBd _ H5G.out).mono ?_
            rintro e w6 ⟨rfl, hb6⟩
            have H6B : Hid (Below w.heap.size w w6) := H5B.out.trans (hb6.mono H5B.out.size)
            have H6G : Hid (Hnd w6) := H5G.out.on hb6
            have H6W : Hid (w6.heap[w1.heap.size]? = some (.cells #[.int .i64 0, .int .i64 (er.l : Int), .int .i64 (er.c : Int)] 25)) := blk_on H5W.out hb6
            have hS6 := rsameT v5 wv (lexT s).1 0 0 w6 (HR5.out.on hb6) (H5R.out.on hb6) (by first | exact HLen.out | exact Nat.zero_le _)
            clear hb6
            go_wp2_with (fail)
            refine hS6.mono ?_
            rintro e w7 ⟨rfl, hb7⟩
            have H7B : Hid (Below w.heap.size w w7) := H6B.out.trans (hb7.mono H6B.out.size)
            have H7G : Hid (Hnd w7) := H6G.out.on hb7
            obtain ⟨b0, b1, b2⟩ := w3cells (blk_on H6W.out hb7)
            clear hb7 hS6
            go_wp2_with (fail)
            refine (keepNil _ _ _).mono ?_
            rintro e w8 ⟨rfl, hw8⟩
            obtain rfl := hw8
            go_wp2_with (fail)
            go_ret
            exact ⟨rfl, H7B.out⟩
    · have HE0 : Hid ((lexT s).2.e ≠ 0) := he
      have er0 : ¬ (er.e : Int) = 0 := by rw [her]; omega
      have HE1 : Hid (¬ (er.e : Int) = 0) := er0
      have HWV : Hid (∀ g, w1.heap.size ≤ g → some g ≠ (Value.slice none 0 0).ownBlock) := fun g hg => by simp [Value.ownBlock]
      clear her he hrow1
      go_wp2_with (fail)
      refine (hBd s _ HSZ.out (by first | exact H4G.out | exact H1G.out | exact H1G.out.alloc _ | exact HG1.out | exact HG1.out.alloc _) HE0.out).mono ?_
      rintro e w2 ⟨v2, F2, rfl, hrow2, hF2, hFl, hFv, hb2⟩
      rw [HER.out] at hF2
      have H2F : Hid (Flt w2 F2 (er.e : Int) (er.l : Int) (er.c : Int)) := hF2
      have HFv : Hid (some F2 ≠ v2.ownBlock) := hFv
      have hFl2 : w1.heap.size + 1 ≤ F2 := by simpa using hFl
      have H2W : Hid (w2.heap[w1.heap.size]? = some (.cells #[.int .i64 (er.e : Int), .int .i64 (er.l : Int), .int .i64 (er.c : Int)] 25)) := blk_on (blk_new w1 _) hb2
      have H2B : Hid (Below w.heap.size w w2) := (HB1.out.alloc HB1.out.size _).trans (hb2.mono (by have := HB1.out.size; simp; omega))
      have H2G : Hid (Hnd w2) := (HG1.out.alloc _).on hb2
      have H2R : Hid (RowT w2 (w1.heap.size + 1) v2 []) := hrow2.base (by simp)
      obtain ⟨b0, b1, b2⟩ := w3cells H2W.out
      clear hrow2 hb2 hF2 hFl hFv
      have hS2 := rsameT v2 (.slice none 0 0) [] (w1.heap.size + 1) 0 w2 H2R.out (RowT.nil _ _) (Nat.zero_le _)
      go_wp2_with (fail)
      refine hS2.mono ?_
      rintro e w3 ⟨rfl, hb3⟩
      have H3W : Hid (w3.heap[w1.heap.size]? = some (.cells #[.int .i64 (er.e : Int), .int .i64 (er.l : Int), .int .i64 (er.c : Int)] 25)) := blk_on H2W.out hb3
      have H3B : Hid (Below w.heap.size w w3) := H2B.out.trans (hb3.mono H2B.out.size)
      have H3G : Hid (Hnd w3) := H2G.out.on hb3
      have H3R : Hid (RowT w3 (w1.heap.size + 1) v2 []) := H2R.out.on hb3
      have H3F : Hid (Flt w3 F2 (er.e : Int) (er.l : Int) (er.c : Int)) := blk_on H2F.out hb3
      clear hb3 hS2 b0 b1 b2
      obtain ⟨b0, b1, b2⟩ := w3cells H3W.out
      go_wp2_with (fail)
      refine (keepIs F2 _ _ _ _ HE1.out H3G.out H3F.out).mono ?_
      rintro e w4 ⟨rfl, hb4⟩
      have H4W : Hid (w4.heap[w1.heap.size]? = some (.cells #[.int .i64 (er.e : Int), .int .i64 (er.l : Int), .int .i64 (er.c : Int)] 25)) := blk_on H3W.out hb4
      have H4B : Hid (Below w.heap.size w w4) := H3B.out.trans (hb4.mono H3B.out.size)
      have H4G : Hid (Hnd w4) := H3G.out.on hb4
      have H4R : Hid (RowT w4 (w1.heap.size + 1) v2 []) := H3R.out.on hb4
      have H4F : Hid (Flt w4 F2 (er.e : Int) (er.l : Int) (er.c : Int)) := blk_on H3F.out hb4
      clear hb4 b0 b1 b2 H3W H3B H3G H3R H3F H2W H2B H2G H2R H2F
      go_wp2_with (fail)
      refine (turnIs F2 _ _ _ _ H4G.out H4F.out).mono ?_
      rintro e w5 ⟨rfl, _, hbt⟩
      have H3W : Hid (w5.heap[w1.heap.size]? = some (.cells #[.int .i64 (er.e : Int), .int .i64 (er.l : Int), .int .i64 (er.c : Int)] 25)) := hbt.blk H4W.out (by omega)
      have H3B : Hid (Below w.heap.size w w5) := H4B.out.trans (hbt.below (by omega) H4B.out.size)
      have H3G : Hid (Hnd w5) := hbt.cell H4G.out (by have := HNG.out; omega)
      have H3R : Hid (RowT w5 (w1.heap.size + 1) v2 []) := hbt.row H4R.out HFv.out
      have H3K : Hid (RowT w5 0 (.slice none 0 0) []) := RowT.nil _ _
      clear hbt H4W H4B H4G H4R H4F
      rcases row_two H3R.out with ⟨rfl, hlz⟩ | ⟨g, cap, cur, rfl, hgb, hgh, hcs, hcm⟩
      · clear hlz
        go_wp2_with (fail)
        go_loopw [7] (fun iv wr => iv = .int .i64 0 ∧ wr = w5) (fun _ _ => 0)
        case atStart => exact ⟨rfl, rfl⟩
        case round =>
          obtain ⟨rfl, hwr⟩ := hrel
          subst hwr
          have H4B := H3B
          have H4G := H3G
          have H4W := H3W
          have H4R := H3K
          go_wp2_with (fail)
          refine (hBd s _ HSZ.out (by first | exact H4G.out | exact H1G.out | exact H1G.out.alloc _ | exact HG1.out | exact HG1.out.alloc _) HE0.out).mono ?_
          rintro e w25 ⟨v5, F5, rfl, hrow25, hF5, _, _, hb5⟩
          have HR5 : Hid (RowT w25 0 v5 []) := hrow25.base (Nat.zero_le _)
          rw [HER.out] at hF5
          have HF5 : Hid (Flt w25 F5 (er.e : Int) (er.l : Int) (er.c : Int)) := hF5
          clear hF5
          have H5B : Hid (Below w.heap.size w w25) := H4B.out.trans (hb5.mono H4B.out.size)
          have H5G : Hid (Hnd w25) := H4G.out.on hb5
          have H5W : Hid (w25.heap[w1.heap.size]? = some (.cells #[.int .i64 (er.e : Int), .int .i64 (er.l : Int), .int .i64 (er.c : Int)] 25)) := blk_on H4W.out hb5
          have H5R : Hid (RowT w25 0 (.slice none 0 0) []) := H4R.out.on hb5
          clear hrow25 hb5
          go_wp2_with (fail)
          refine (awakeL hO hBd _ H5G.out).mono ?_
          rintro e w6 ⟨rfl, hb6⟩
          have H6B : Hid (Below w.heap.size w w6) := H5B.out.trans (hb6.mono H5B.out.size)
          have H6G : Hid (Hnd w6) := H5G.out.on hb6
          have H6W : Hid (w6.heap[w1.heap.size]? = some (.cells #[.int .i64 (er.e : Int), .int .i64 (er.l : Int), .int .i64 (er.c : Int)] 25)) := blk_on H5W.out hb6
          have hS6 := rsameT v5 (.slice none 0 0) [] 0 0 w6 (HR5.out.on hb6) (H5R.out.on hb6) (by first | exact HLen.out | exact Nat.zero_le _)
          have HF6 : Hid (Flt w6 F5 (er.e : Int) (er.l : Int) (er.c : Int)) := blk_on HF5.out hb6
          clear hb6
          go_wp2_with (fail)
          refine hS6.mono ?_
          rintro e w7 ⟨rfl, hb7⟩
          have H7B : Hid (Below w.heap.size w w7) := H6B.out.trans (hb7.mono H6B.out.size)
          have H7G : Hid (Hnd w7) := H6G.out.on hb7
          obtain ⟨b0, b1, b2⟩ := w3cells (blk_on H6W.out hb7)
          have HF7 : Hid (Flt w7 F5 (er.e : Int) (er.l : Int) (er.c : Int)) := blk_on HF6.out hb7
          clear hb7 hS6
          go_wp2_with (fail)
          refine (keepIs F5 _ _ _ _ (by have := HE1.out; omega) H7G.out HF7.out).mono ?_
          rintro e w8 ⟨rfl, hb8⟩
          have H8B : Hid (Below w.heap.size w w8) := H7B.out.trans (hb8.mono H7B.out.size)
          clear hb8
          go_wp2_with (fail)
          go_ret
          exact ⟨rfl, H8B.out⟩
      · have hgl : g < w5.heap.size := blk_lt hgh
        have HGH : Hid (w5.heap[g]? = some (.cells cur 38)) := hgh
        have HCS : Hid (cur.size = cap * 5) := hcs
        have hcap0 : (0 : Int) ≤ (cap : Int) := by omega
        have hcapm : (cap : Int) ≤ 9223372036854775807 := by have := hcm; unfold maxLen at this; omega
        clear hgh hcs
        go_wp2_with (fail)
        go_loopw [7] (fun iv wr => ∃ (k : Nat) (cu : Array Value), k ≤ cap ∧ iv = .int .i64 (k : Int) ∧ Hid (wr.heap[g]? = some (.cells cu 38)) ∧ Hid (cu.size = cap * 5) ∧ Hid (But g w5 wr)) (fun iv _ => cap - (intOf iv).toNat)
        case atStart => exact ⟨0, cur, Nat.zero_le _, rfl, HGH.out, HCS.out, But.refl _ _⟩
        case round =>
          obtain ⟨k, cu, hk, rfl, HCU, HCZ, HBT⟩ := hrel
          by_cases hlt : k < cap
          · have hlt' : (k : Int) < (cap : Int) := by omega
            have hk0 : (0 : Int) ≤ (k : Int) := by omega
            go_wp2_with (refine wpList_store_blk rfl 38 (.tmp 56) (.tmp 55) rfl g (k * 5) #[.int .i64 9, .string ⟨#[]⟩, .int .u32 0, .int .i64 0, .int .i64 0] ⟨cu.toList.take (k * 5) ++ [.int .i64 9, .string ⟨#[]⟩, .int .u32 0, .int .i64 0, .int .i64 0] ++ cu.toList.drop (k * 5 + 5)⟩ rfl rfl 38 _ HCU.out (by have := HCZ.out; show k * 5 + 5 ≤ _; omega) rfl (by kernel_rfl) rfl ?_; intro w9 hw9 ho9)
            go_roundw
            case rel =>
              refine ⟨k + 1, _, by omega, by go_num, hw9, ?_, HBT.out.only ho9⟩
              show _ = _
              have := HCZ.out
              simp only [List.size_toArray, List.length_append, List.length_take, List.length_drop, List.length_cons, List.length_nil, Array.length_toList]
              omega
            case measure => simp [intOf]; omega
          · obtain rfl : k = cap := by omega
            have hlt' : ¬ (k : Int) < (k : Int) := by omega
            have H4B : Hid (Below w.heap.size w wr) := H3B.out.trans (HBT.out.below (by omega) H3B.out.size)
            have H4G : Hid (Hnd wr) := HBT.out.cell H3G.out (by have := HNG.out; omega)
            have H4W : Hid (wr.heap[w1.heap.size]? = some (.cells #[.int .i64 (er.e : Int), .int .i64 (er.l : Int), .int .i64 (er.c : Int)] 25)) := HBT.out.blk H3W.out (by omega)
            have H4R : Hid (RowT wr 0 (.slice none 0 0) []) := HBT.out.row H3K.out (HWV.out g (by omega))
            go_wp2_with (fail)
            refine (hBd s _ HSZ.out (by first | exact H4G.out | exact H1G.out | exact H1G.out.alloc _ | exact HG1.out | exact HG1.out.alloc _) HE0.out).mono ?_
            rintro e w25 ⟨v5, F5, rfl, hrow25, hF5, _, _, hb5⟩
            have HR5 : Hid (RowT w25 0 v5 []) := hrow25.base (Nat.zero_le _)
            rw [HER.out] at hF5
            have HF5 : Hid (Flt w25 F5 (er.e : Int) (er.l : Int) (er.c : Int)) := hF5
            clear hF5
            have H5B : Hid (Below w.heap.size w w25) := H4B.out.trans (hb5.mono H4B.out.size)
            have H5G : Hid (Hnd w25) := H4G.out.on hb5
            have H5W : Hid (w25.heap[w1.heap.size]? = some (.cells #[.int .i64 (er.e : Int), .int .i64 (er.l : Int), .int .i64 (er.c : Int)] 25)) := blk_on H4W.out hb5
            have H5R : Hid (RowT w25 0 (.slice none 0 0) []) := H4R.out.on hb5
            clear hrow25 hb5
            go_wp2_with (fail)
            refine (awakeL hO hBd _ H5G.out).mono ?_
            rintro e w6 ⟨rfl, hb6⟩
            have H6B : Hid (Below w.heap.size w w6) := H5B.out.trans (hb6.mono H5B.out.size)
            have H6G : Hid (Hnd w6) := H5G.out.on hb6
            have H6W : Hid (w6.heap[w1.heap.size]? = some (.cells #[.int .i64 (er.e : Int), .int .i64 (er.l : Int), .int .i64 (er.c : Int)] 25)) := blk_on H5W.out hb6
            have hS6 := rsameT v5 (.slice none 0 0) [] 0 0 w6 (HR5.out.on hb6) (H5R.out.on hb6) (by first | exact HLen.out | exact Nat.zero_le _)
            have HF6 : Hid (Flt w6 F5 (er.e : Int) (er.l : Int) (er.c : Int)) := blk_on HF5.out hb6
            clear hb6
            go_wp2_with (fail)
            refine hS6.mono ?_
            rintro e w7 ⟨rfl, hb7⟩
            have H7B : Hid (Below w.heap.size w w7) := H6B.out.trans (hb7.mono H6B.out.size)
            have H7G : Hid (Hnd w7) := H6G.out.on hb7
            obtain ⟨b0, b1, b2⟩ := w3cells (blk_on H6W.out hb7)
            have HF7 : Hid (Flt w7 F5 (er.e : Int) (er.l : Int) (er.c : Int)) := blk_on HF6.out hb7
            clear hb7 hS6
            go_wp2_with (fail)
            refine (keepIs F5 _ _ _ _ (by have := HE1.out; omega) H7G.out HF7.out).mono ?_
            rintro e w8 ⟨rfl, hb8⟩
            have H8B : Hid (Below w.heap.size w w8) := H7B.out.trans (hb8.mono H7B.out.size)
            clear hb8
            go_wp2_with (fail)
            go_ret
            exact ⟨rfl, H8B.out⟩

set_option maxRecDepth 100000 in
theorem lexAll_lifted  (os : Os) (started : os.Started) (H : Type) (enc : TypeId × Value → H) :
    ReturnsInHanded {} Tryd.checked os 3 .any (fun w args => (Rows.lexAllSpec.pre enc Tryd.prog Tryd.f3 [] false w args ∧ laidMetH Tryd.prog laidList w) ∧ sizedMet enc Tryd.prog Tryd.f3 (OpenSpec.ofChange Rows.lexAllSpec) false w args)
      (Rows.lexAllSpec.post enc Tryd.prog Tryd.f3 false true false false) := by
  refine returnsInHanded_of_change_and (C := Tryd.checked) (X := fun w _ => laidMetH Tryd.prog laidList w) (fun _ _ _ hh h => h.of_heap hh) own started (by kernel_rfl) Tryd.func3
    (ChangeSpec.witness_shaped (enc := enc) (C := Tryd.checked) (os := os) (X := fun w _ => laidMetH Tryd.prog laidList w) false (World.doorLaid Tryd.prog 400 os) #[.string ⟨#[]⟩] 8 rfl (World.shaped_of_RefB (by kernel_rfl) (by kernel_rfl)) (by kernel_rfl) (by kernel_rfl) (by kernel_rfl) (door_met os _)) ?_
  intro W base args ds gs before hval0 hW _ _ hL _
  have hval : ∀ (j : Nat) t v, Tryd.f3.params[j]? = some t → args[j]? = some v → Value.okWide Tryd.prog W .any base t v := hval0
  have hW' := hW
  obtain ⟨p, q, hA0, hV, rfl, hfz, hnd⟩ := hW
  have hA : DataW.TrodAll enc Tryd.prog W 0 (fun _ => true) true Tryd.f3.params.toList args.toList ds p := hA0
  rw [Tryd.params3] at hA hval
  obtain ⟨v0, vs0, d0, ds0, p0, q0, hargs, rfl, rfl, h0, r0⟩ := trodAll_cons hA
  obtain ⟨rfl, rfl, rfl⟩ := trodAll_nil r0
  obtain rfl : args = #[v0] := by cases args; simp_all
  obtain ⟨rfl, rfl⟩ := trodVars_none hV
  obtain ⟨a0, rfl, rfl, rfl, w0⟩ := open_string Tryd.underlying9 (hval 0 9 v0 rfl rfl) h0
  clear hA0 hval0
  simp only [List.append_nil] at hW'
  refine (lexAll_walk allOk allBad a0 w0 W (handle_of_laid hL)).mono fun e W' ⟨he, bel⟩ => ?_
  subst he
  exact ⟨_, rfl, _, _, _, [], _, [], hW', trodAll_mk1 (shut_bool Tryd.underlying4 _), (trodAll_cons_mk (shut_string Tryd.underlying9 w0) trodAll_mk0), rfl, bel.frame _, fun h => by cases h⟩

theorem lexAll_row  : Rows.LexAllSaid :=
  OpenClaim.holds_of_wide 3 Tryd.f3 rfl rfl rfl rfl rfl rfl rfl ⟨rfl, rfl, rfl, rfl, rfl⟩ rfl rfl rfl rfl rfl (by kernel_rfl) Tryd.func3 (by kernel_rfl)
    (of_decide_eq_true (by kernel_rfl)) (by unfold Func.isWrapper; first | (rw [if_pos (by decide +kernel)]; kernel_rfl) | (rw [if_neg (by decide +kernel)]; exact ⟨rfl, rfl⟩))
    (fun os started H enc _ => lexAll_lifted  os started H enc)

/-- The given card. -/
theorem lexAll_card  : Rows.LexAllCardSaid :=
  Claim7.holds_tied_plain_at .later [] [.data, .data, .data, .handle, .sentinel, .sentinel] true (true, "4c49c49df97e45711c5eaade678bebdcb961764b4c56f7cfd887962332d2ee90") true
    (lexAll_row ) (fun _ h => by cases h) (by kernel_rfl) (fun _ h => by cases h) lexAll_row_tie rfl ⟨rfl, rfl⟩ (by kernel_rfl) rfl
    (fun f fn hf hfn => by
      obtain rfl : f = 3 := Option.some.inj ((show Tryd.prog.funcNamed "quintet/quintetlaw09.LexAll" = some 3 by kernel_rfl).symm.trans hf) |>.symm
      obtain rfl : fn = Tryd.f3 := (Option.some.inj (Tryd.func3.symm.trans hfn)).symm
      exact ⟨by kernel_rfl, fun j t ht => by
        rw [Tryd.params3] at ht
        have hm : t ∈ [9] := by simpa using Array.mem_of_getElem? ht
        have hall : ([9].all fun u => !Tryd.prog.wantsStandIn u) = true := by kernel_rfl
        exact (show Tryd.prog.wantsStandIn t = false by simpa using List.all_eq_true.1 hall t hm)⟩)
    (by kernel_rfl)
#print axioms lexAll_card
end Go.Proofs.YtpbbeemlaigimaaDoor
