/-
  PkAJ: TuV TqSd HdPlain TpPl TbA, one behind the other (tools/pack.py).
-/
import Derived.Test.YtfpmljgmfapoiaaGreatPkAG
import Derived.Test.YtfpmljgmfapoiaaGreatPkAH
import Derived.Test.YtfpmljgmfapoiaaGreatPkAI
import Derived.Test.YtfpmljgmfapoiaaGreatPkAD
import Derived.Test.YtfpmljgmfapoiaaGreatPkAB
import Derived.Test.YtfpmljgmfapoiaaGreatPkAF
/-
  nest's Tuple (out of NsV).
-/
namespace Go.Proofs.YtfpmljgmfapoiaaGreat
open Go.RowKit
set_option linter.unusedVariables false
set_option linter.unusedSimpArgs false

def cS (s : Nat × Nat) : Nat := (Xp.tl (Xp.hasB s) 16 0).length
theorem cS_le (s : Nat × Nat) : cS s ≤ 30 := Xp.ofS_len
theorem cSC (s : Nat × Nat) (w : World) (h : s.1 ≤ s.2) (h2 : s.2 < 65536) : Calls Tryz.prog 63 #[.agg #[.int .u16 (s.1), .int .u16 (s.2)]] w fun e w' => e = .returned (.tuple #[.int .i64 (cS s : Nat), .int .i64 0]) ∧ Below w.heap.size w w' := Xp.cntC s.1 s.2 w h h2
def tupN (l : List Ru) : Nat := (l.map fun R => cS R.p * cS R.q).sum
def tupL (l : List Ru) : Nat := if setE l 64 = 0 then tupN l else 0
theorem tup_step {l : List Ru} {k : Nat} (hk : k < l.length) : tupN (l.take (k + 1)) = tupN (l.take k) + cS l[k].p * cS l[k].q := by
  unfold tupN; rw [take_at hk, List.map_append, List.sum_append]; simp
theorem tup_le (l : List Ru) : tupN l ≤ l.length * 900 := by
  unfold tupN
  induction l with
  | nil => simp
  | cons R l ih =>
    rw [List.map_cons, List.sum_cons, List.length_cons, Nat.succ_mul]
    have := Nat.mul_le_mul (cS_le R.p) (cS_le R.q)
    omega
set_option maxRecDepth 20000 in
set_option maxHeartbeats 4000000 in
theorem tupleC (l : List Ru) (v : Value) (w : World) (hs : SrcU w v l) (hl : l.length ≤ 16777216) (hb : ∀ R ∈ l, BdR R) :
    Calls Tryz.prog 44 #[v] w fun e w' => e = .returned (.tuple #[.int .i64 (tupL l : Nat), .int .i64 (setE l 64)]) ∧ Below w.heap.size w w' := by
  have hC := checkLC l v w hs hl hb
  have HS : Hid (SrcU w v l) := hs
  have HOk : Hid (setE l 64 = 0 → l.length ≤ 64 ∧ ∀ R ∈ l, BdR R ∧ okR R = true) := fun h0 => by
    have o := setE_ok h0
    refine ⟨?_, fun R hR => ⟨hb R hR, ?_⟩⟩
    · rcases o.few with e | e
      · rw [e]; simp
      · omega
    · obtain ⟨k, hk, rfl⟩ := List.mem_iff_getElem.1 hR
      exact o.may k hk
  clear hs hb
  obtain ⟨ad, cap, rfl, _, _⟩ := HS.out
  obtain ⟨n, hn⟩ : ∃ n, n = l.length := ⟨_, rfl⟩
  rw [← hn] at HS hl hC ⊢
  have Hn : Hid (n = l.length) := hn
  clear hn
  by_cases h0 : setE l 64 = 0
  · obtain ⟨o1, o2⟩ := HOk.out h0
    have HG : Hid (tupL l = tupN l) := if_pos h0
    have hn64 : n ≤ 64 := by rw [Hn.out]; exact o1
    have HO2 : Hid (∀ R ∈ l, BdR R ∧ okR R = true) := o2
    generalize tupL l = G at *
    rw [h0] at hC ⊢
    clear o1 o2 h0
    go_enter Tryz.func44, Tryz.ntmps44
    go_wp2_with (fail)
    refine hC.mono ?_
    rintro e w1 ⟨rfl, hb1⟩
    have HB1 : Hid (Below w.heap.size w w1) := hb1
    clear hC hb1
    go_wp2_with (fail)
    go_loopw [5, 19] (fun vs vi wr => ∃ k : Nat, k ≤ n ∧ vs = .int .i64 ((tupN (l.take k) : Nat) : Int) ∧ vi = .int .i64 k ∧ Hid (Below w1.heap.size w1 wr)) (fun _ vi _ => n - (intOf vi).toNat)
    case atStart => exact ⟨0, Nat.zero_le _, rfl, rfl, Below.refl _ _⟩
    case round =>
      obtain ⟨k, hk, rfl, rfl, HB⟩ := hrel
      by_cases hlt : k < n
      · have hlt' : k < l.length := by rw [← Hn.out]; exact hlt
        have hlti : (k : Int) < (n : Int) := by omega
        have HBw : Hid (Below w.heap.size w wr) := bel_of HB1.out HB.out HB1.out.size
        obtain ⟨g, off, rfl, hrg⟩ := (rngU HS.out).2 wr HBw.out k hlt'
        have hst := tup_step hlt'
        have hbd := HO2.out _ (List.getElem_mem hlt')
        have htl := tup_le (l.take k)
        rw [List.length_take] at htl
        have htl2 : tupN (l.take k) ≤ 57600 := by
          have : min k l.length * 900 ≤ 64 * 900 := Nat.mul_le_mul_right _ (by omega)
          omega
        obtain ⟨p, hp⟩ : ∃ p, p = l[k] := ⟨_, rfl⟩
        rw [← hp] at hrg hst hbd
        obtain ⟨_, _, _, hp1, hp2, _⟩ := (okR_iff p).1 hbd.2
        have hp1' : p.p.1 ≤ p.p.2 := by unfold okI at hp1; simpa using hp1
        have hp2' : p.q.1 ≤ p.q.2 := by unfold okI at hp2; simpa using hp2
        have hc1 := fun W => cSC p.p W hp1' hbd.1.2.2.2.1
        have hc2 := fun W => cSC p.q W hp2' hbd.1.2.2.2.2.2.1
        have l1 := cS_le p.p
        have l2 := cS_le p.q
        have hmul : cS p.p * cS p.q ≤ 900 := Nat.mul_le_mul l1 l2
        have x0 : wr.cell? ⟨g, off + k * 12, none⟩ = some (.int .i64 p.i) := hrg 0 _ rfl
        have x1 : wr.cell? ⟨g, off + k * 12 + 1, none⟩ = some (.int .u32 p.s) := hrg 1 _ rfl
        have x2 : wr.cell? ⟨g, off + k * 12 + 2, none⟩ = some (.int .i64 p.sl) := hrg 2 _ rfl
        have x3 : wr.cell? ⟨g, off + k * 12 + 3, none⟩ = some (.int .u32 p.d) := hrg 3 _ rfl
        have x4 : wr.cell? ⟨g, off + k * 12 + 4, none⟩ = some (.int .i64 p.dl) := hrg 4 _ rfl
        have x5 : wr.cell? ⟨g, off + k * 12 + 5, none⟩ = some (.int .u16 p.p.1) := hrg 5 _ rfl
        have x6 : wr.cell? ⟨g, off + k * 12 + 6, none⟩ = some (.int .u16 p.p.2) := hrg 6 _ rfl
        have x7 : wr.cell? ⟨g, off + k * 12 + 7, none⟩ = some (.int .u16 p.q.1) := hrg 7 _ rfl
        have x8 : wr.cell? ⟨g, off + k * 12 + 8, none⟩ = some (.int .u16 p.q.2) := hrg 8 _ rfl
        have x9 : wr.cell? ⟨g, off + k * 12 + 9, none⟩ = some (.int .u8 p.m.1) := hrg 9 _ rfl
        have x10 : wr.cell? ⟨g, off + k * 12 + 10, none⟩ = some (.int .u8 p.m.2) := hrg 10 _ rfl
        have x11 : wr.cell? ⟨g, off + k * 12 + 11, none⟩ = some (.int .i64 p.act) := hrg 11 _ rfl
        obtain ⟨W1, hW1⟩ : ∃ W1, W1 = wr.alloc (.cells #[.int .i64 p.i, .int .u32 p.s, .int .i64 p.sl, .int .u32 p.d, .int .i64 p.dl, .int .u16 p.p.1, .int .u16 p.p.2, .int .u16 p.q.1, .int .u16 p.q.2, .int .u8 p.m.1, .int .u8 p.m.2, .int .i64 p.act] 52) := ⟨_, rfl⟩
        have hbW : Below wr.heap.size wr W1 := by rw [hW1]; exact (Below.refl _ _).alloc (Nat.le_refl _) _
        have HBW : Hid (Below w1.heap.size w1 W1) := HB.out.trans (hbW.mono HB.out.size)
        have HX : Hid (W1.heap[wr.heap.size]? = some (.cells #[.int .i64 p.i, .int .u32 p.s, .int .i64 p.sl, .int .u32 p.d, .int .i64 p.dl, .int .u16 p.p.1, .int .u16 p.p.2, .int .u16 p.q.1, .int .u16 p.q.2, .int .u8 p.m.1, .int .u8 p.m.2, .int .i64 p.act] 52 (0, 0))) := by rw [hW1]; exact blk_new wr _
        have y5 : W1.cell? ⟨wr.heap.size, 5, none⟩ = some (.int .u16 p.p.1) := blk_cell HX.out rfl
        have y6 : W1.cell? ⟨wr.heap.size, 6, none⟩ = some (.int .u16 p.p.2) := blk_cell HX.out rfl
        have Hst : Hid _ := hst
        have Hmul : Hid _ := hmul
        clear hrg hbd hp hst hbW HB hp1 hp2 hp1' hp2' htl hmul
        generalize tupN (l.take k) = S0 at *
        subst hW1
        go_wp2_with (go_at_call 63; fail)
        clear x0 x1 x2 x3 x4 x5 x6 x7 x8 x9 x10 x11
        refine (hc1 _).mono ?_
        rintro e w4 ⟨rfl, hb4⟩
        have HX4 : Hid (w4.heap[wr.heap.size]? = some (.cells #[.int .i64 p.i, .int .u32 p.s, .int .i64 p.sl, .int .u32 p.d, .int .i64 p.dl, .int .u16 p.p.1, .int .u16 p.p.2, .int .u16 p.q.1, .int .u16 p.q.2, .int .u8 p.m.1, .int .u8 p.m.2, .int .i64 p.act] 52 (0, 0))) := blk_on HX.out hb4
        have y7 : w4.cell? ⟨wr.heap.size, 7, none⟩ = some (.int .u16 p.q.1) := blk_cell HX4.out rfl
        have y8 : w4.cell? ⟨wr.heap.size, 8, none⟩ = some (.int .u16 p.q.2) := blk_cell HX4.out rfl
        have HB4 : Hid (Below w1.heap.size w1 w4) := bel_of HBW.out hb4 HBW.out.size
        clear hb4 y5 y6 hc1 HX HBW
        go_wp2_with (go_at_call 63; fail)
        refine (hc2 _).mono ?_
        rintro e w5 ⟨rfl, hb5⟩
        have HB5 : Hid (Below w1.heap.size w1 w5) := bel_of HB4.out hb5 HB4.out.size
        clear hb5 y7 y8 hc2 HB4 HX4
        generalize cS p.p = a1 at *
        generalize cS p.q = a2 at *
        have hm1 : (a1 : Int) * (a2 : Int) = ((a1 * a2 : Nat) : Int) := by simp
        have hm2 : IntKind.i64.wrap ((a1 : Int) * (a2 : Int)) = ((a1 * a2 : Nat) : Int) := by rw [hm1]; exact wrap64_nat' (by have := Hmul.out; omega)
        have hm3 : wrap64 ((a1 : Int) * (a2 : Int)) = ((a1 * a2 : Nat) : Int) := by rw [hm1]; have := Hmul.out; unfold wrap64; omega
        clear hm1
        obtain ⟨M, hM⟩ : ∃ M, M = a1 * a2 := ⟨_, rfl⟩
        rw [← hM] at hm2 hm3 Hst Hmul
        have hMb : M ≤ 900 := Hmul.out
        clear hM
        go_wp2
        go_roundw
        case rel => exact ⟨k + 1, by omega, by rw [Hst.out]; go_num, by go_num, HB5.out⟩
        case measure => simp [intOf]; omega
      · obtain rfl : k = n := by omega
        have hni : ¬ (k : Int) < (k : Int) := by omega
        have et : tupN (l.take k) = G := by rw [Hn.out, List.take_length, HG.out]
        rw [et]
        clear et
        go_wp2
        go_ret2
        exact ⟨rfl, bel_of HB1.out HB.out HB1.out.size⟩
  · have hG : tupL l = 0 := if_neg h0
    rw [hG]
    have h0' : (setE l 64 != 0) = true := by simpa using h0
    clear HOk hG
    generalize setE l 64 = E at *
    go_enter Tryz.func44, Tryz.ntmps44
    go_wp2_with (fail)
    refine hC.mono ?_
    rintro e w1 ⟨rfl, hb1⟩
    have HB1 : Hid (Below w.heap.size w w1) := hb1
    clear hC hb1
    go_wp2
    go_ret2
    exact ⟨rfl, HB1.out⟩
end Go.Proofs.YtfpmljgmfapoiaaGreat
/-
  The document's Tuple.
-/
namespace Go.Proofs.YtfpmljgmfapoiaaGreat
open Go.RowKit
set_option linter.unusedVariables false
set_option linter.unusedSimpArgs false

theorem set_okay {l : List Ru} (hb : ∀ R ∈ l, BdR R) (h0 : setE l 64 = 0) : l.length ≤ 64 ∧ ∀ R ∈ l, BdR R ∧ okR R = true := by
  have o := setE_ok h0
  refine ⟨?_, fun R hR => ⟨hb R hR, ?_⟩⟩
  · rcases o.few with e | e
    · rw [e]; simp
    · omega
  · obtain ⟨k, hk, rfl⟩ := List.mem_iff_getElem.1 hR
    exact o.may k hk
theorem rCountC (s : Nat × Nat) (w : World) (h : s.1 ≤ s.2) (h2 : s.2 < 65536) :
    Calls Tryz.prog 57 #[.agg #[.int .u16 (s.1), .int .u16 (s.2)]] w fun e w' => e = .returned (.tuple #[.int .i64 (cS s : Nat), .int .i64 0]) ∧ Below w.heap.size w w' := by
  have hO := fun W => Xp.rof_ok s.1 s.2 W h h2
  go_enter Tryz.func57, Tryz.ntmps57
  go_wp2_with (fail)
  refine (hO _).mono ?_
  rintro e w1 ⟨v1, rfl, hr, hb⟩
  have HB : Hid (Below w.heap.size w w1) := by first | exact hb | exact bel_of ((Below.refl _ _).alloc (Nat.le_refl _) _) hb (by simp)
  have hlen : ∃ ad cap, v1 = .slice ad (cS s) cap := by
    rcases hr.2 with ⟨hv, hn⟩ | ⟨g, cap, cur, hv, _⟩
    · exact ⟨none, 0, by rw [hv]; unfold cS; rw [show (Xp.tl (Xp.hasB s) 16 0) = (Xp.tl (Xp.hasB (s.1, s.2)) 16 0) from rfl, hn]⟩
    · exact ⟨_, cap, hv⟩
  obtain ⟨ad, cap, rfl⟩ := hlen
  clear hr hb hO
  go_wp2
  go_ret2
  exact ⟨rfl, HB.out⟩
theorem ports_ok {R : Ru} (h : okR R = true) (b : BdR R) : R.p.1 ≤ R.p.2 ∧ R.p.2 < 65536 ∧ R.q.1 ≤ R.q.2 ∧ R.q.2 < 65536 := by
  obtain ⟨_, _, _, h1, h2, _⟩ := (okR_iff R).1 h
  unfold okI at h1 h2
  simp only [decide_eq_true_eq] at h1 h2
  obtain ⟨_, _, _, b1, _, b2, _⟩ := b
  exact ⟨h1, b1, h2, b2⟩
set_option maxRecDepth 20000 in
set_option maxHeartbeats 2000000 in
theorem rTupleC (l : List Ru) (v : Value) (w : World) (hs : SrcU w v l) (hb : ∀ R ∈ l, BdR R) :
    Calls Tryz.prog 37 #[v] w fun e w' => e = .returned (.tuple #[.int .i64 (tupL l : Nat), .int .i64 (setE l 64)]) ∧ Below w.heap.size w w' := by
  have hC := rlistC l v w hs hb
  have HS : Hid (SrcU w v l) := hs
  by_cases h0 : setE l 64 = 0
  · obtain ⟨o1, o2⟩ := set_okay hb h0
    have HG : Hid (tupL l = tupN (l.take l.length)) := by
      show tupL l = _
      unfold tupL; rw [if_pos h0, List.take_length]
    have HO : Hid (∀ R ∈ l, BdR R ∧ okR R = true) := o2
    obtain ⟨ad, cap, rfl, _, _⟩ := hs
    obtain ⟨n, hn⟩ : ∃ n, n = l.length := ⟨_, rfl⟩
    have hn64 : n ≤ 64 := by omega
    rw [← hn] at HS HG hC ⊢
    have Hn : Hid (n = l.length) := hn
    generalize tupL l = G at *
    rw [h0] at hC ⊢
    clear h0 o1 o2 hb hn
    go_enter Tryz.func37, Tryz.ntmps37
    go_wp2_with (fail)
    refine hC.mono ?_
    rintro e w1 ⟨rfl, hb1⟩
    have HB1 : Hid (Below w.heap.size w w1) := hb1
    clear hC hb1
    go_wp2_with (fail)
    go_loopw [5, 6] (fun vs vi wr => ∃ i : Nat, i ≤ n ∧ vs = .int .i64 ((tupN (l.take i) : Nat) : Int) ∧ vi = .int .i64 i ∧ Hid (Below w.heap.size w wr)) (fun _ vi _ => n - (intOf vi).toNat)
    case atStart => exact ⟨0, Nat.zero_le _, rfl, rfl, HB1.out⟩
    case round =>
      obtain ⟨i, hi, rfl, rfl, HB⟩ := hrel
      clear HB1
      by_cases hlt : i < n
      · have hlt' : i < l.length := by rw [← Hn.out]; exact hlt
        have hlti : (i : Int) < (n : Int) := by omega
        have hR := HO.out _ (List.getElem_mem hlt')
        obtain ⟨g, off, ea, hrg⟩ := (rngU HS.out).2 wr HB.out i hlt'
        subst ea
        have hst := tup_step hlt'
        have htb : tupN (l.take i) ≤ 57600 := by
          have h1 := tup_le (l.take i)
          rw [List.length_take] at h1
          have : min i l.length * 900 ≤ 64 * 900 := Nat.mul_le_mul_right _ (by omega)
          omega
        obtain ⟨p, hp⟩ : ∃ p, p = l[i] := ⟨_, rfl⟩
        rw [← hp] at hrg hst hR
        have Hst : Hid (tupN (l.take (i + 1)) = tupN (l.take i) + cS p.p * cS p.q) := hst
        have HRg : Hid (∀ W, Below w.heap.size w W → W.cell? ⟨g, off + i * 12 + 5, none⟩ = some (.int .u16 p.p.1) ∧ W.cell? ⟨g, off + i * 12 + 6, none⟩ = some (.int .u16 p.p.2) ∧ W.cell? ⟨g, off + i * 12 + 7, none⟩ = some (.int .u16 p.q.1) ∧ W.cell? ⟨g, off + i * 12 + 8, none⟩ = some (.int .u16 p.q.2)) := fun W hb => by
          obtain ⟨g', off', e', hr2⟩ := (rngU HS.out).2 W hb i hlt'
          injection e' with e'
          injection e' with e1 e2
          subst e1 e2
          rw [← hp] at hr2
          exact ⟨hr2 5 _ rfl, hr2 6 _ rfl, hr2 7 _ rfl, hr2 8 _ rfl⟩
        obtain ⟨k1, k2, k3, k4⟩ := ports_ok hR.2 hR.1
        have hC1 := fun W => rCountC p.p W k1 k2
        have hC2 := fun W => rCountC p.q W k3 k4
        have hb1 := cS_le p.p
        have hb2 := cS_le p.q
        obtain ⟨c5, c6, c7, c8⟩ := HRg.out wr HB.out
        clear hst hrg hR hp k1 k2 k3 k4 c7 c8
        generalize tupN (l.take i) = T0 at *
        generalize cS p.p = A at *
        generalize cS p.q = B at *
        have hAB : A * B ≤ 900 := Nat.mul_le_mul hb1 hb2
        have hABi : (A : Int) * (B : Int) = ((A * B : Nat) : Int) := by simp
        have hABn : (0 : Int) ≤ (A : Int) * (B : Int) ∧ (A : Int) * (B : Int) ≤ 900 := by rw [hABi]; omega
        have HABi : Hid ((A : Int) * (B : Int) = ((A * B : Nat) : Int)) := hABi
        clear hABi
        go_wp2_with (go_at_call 57; fail)
        refine (hC1 _).mono ?_
        rintro e w2 ⟨rfl, hb3⟩
        have HB2 : Hid (Below w.heap.size w w2) := bel_of HB.out hb3 HB.out.size
        obtain ⟨_, _, c7, c8⟩ := HRg.out w2 HB2.out
        clear hb3 hC1 c5 c6
        go_wp2_with (go_at_call 57; fail)
        refine (hC2 _).mono ?_
        rintro e w3 ⟨rfl, hb3⟩
        have HB3 : Hid (Below w.heap.size w w3) := bel_of HB2.out hb3 HB2.out.size
        clear hb3 hC2 c7 c8
        have hm : wrap64 ((A : Int) * (B : Int)) = (A : Int) * (B : Int) := by unfold wrap64; omega
        have hm2 : wrap64 ((T0 : Int) + (A : Int) * (B : Int)) = (T0 : Int) + (A : Int) * (B : Int) := by unfold wrap64; omega
        go_wp2_with (fail)
        go_roundw
        case rel => exact ⟨i + 1, by omega, (by rw [Hst.out]; simp), by go_num, HB3.out⟩
        case measure => simp [intOf]; omega
      · obtain rfl : i = n := by omega
        have hni : ¬ (i : Int) < (i : Int) := by omega
        rw [← HG.out]
        go_wp2
        go_ret2
        exact ⟨rfl, HB.out⟩
  · have hG : tupL l = 0 := if_neg h0
    rw [hG]
    have h0' : (setE l 64 != 0) = true := by simpa using h0
    clear hG
    generalize setE l 64 = E at *
    go_enter Tryz.func37, Tryz.ntmps37
    go_wp2_with (fail)
    refine hC.mono ?_
    rintro e w1 ⟨rfl, hb1⟩
    have HB1 : Hid (Below w.heap.size w w1) := hb1
    clear hC hb1
    go_wp2
    go_ret2
    exact ⟨rfl, HB1.out⟩
end Go.Proofs.YtfpmljgmfapoiaaGreat
/-
  Headers, their bytes and bits: plain mathematics. No program is named here.
-/
namespace Go.Proofs.YtfpmljgmfapoiaaGreat.Hx
set_option linter.unusedVariables false

/-- A header's five fields. -/
structure Hd where
  s : Nat
  d : Nat
  p : Nat
  q : Nat
  r : Nat
  deriving DecidableEq
def OkH (h : Hd) : Prop := h.s < 4294967296 ∧ h.d < 4294967296 ∧ h.p < 65536 ∧ h.q < 65536 ∧ h.r < 256
def h0 : Hd := ⟨0, 0, 0, 0, 0⟩
/-- The header as one number. -/
def val (h : Hd) : Nat := h.s * 4722366482869645213696 + h.d * 1099511627776 + h.p * 16777216 + h.q * 256 + h.r
/-- The number of some bytes. -/
def num (l : List Nat) : Nat := l.foldl (fun n b => 256 * n + b) 0
end Go.Proofs.YtfpmljgmfapoiaaGreat.Hx
/-
  Where rules stand in a space of tuples, as plain mathematics: tuples, spots, what a header finds. No program is named here.
-/
namespace Go.Proofs.YtfpmljgmfapoiaaGreat
open Go.RowKit
set_option linter.unusedVariables false
set_option linter.unusedSimpArgs false

/-- Which bits of a header are cared for: the lengths of the prefixes and of the stems, the mask's care. -/
structure Tp where
  a : Int
  b : Int
  c : Nat
  d : Nat
  m : Nat
  deriving DecidableEq
def stm (s : Nat × Nat) : List (Nat × Nat) := Xp.tl (Xp.hasB s) 16 0
def spR (R : Ru) : List (Tp × Hx.Hd) :=
  (stm R.p).flatMap fun s => (stm R.q).map fun t => (⟨R.sl, R.dl, s.2, t.2, R.m.2⟩, ⟨R.s, R.d, s.1, t.1, R.m.1⟩)
def cutP (n x : Nat) : Nat := x - x % 2 ^ (16 - n)
def cutH (t : Tp) (h : Hd) : Hx.Hd := ⟨Pf.oA h.s t.a, Pf.oA h.d t.b, cutP t.c h.p, cutP t.d h.q, h.r &&& t.m⟩

theorem stm_sits {s : Nat × Nat} : ∀ t ∈ stm s, t.2 ≤ 16 ∧ 2 ^ (16 - t.2) ∣ t.1 ∧ t.1 + 2 ^ (16 - t.2) ≤ 65536 := fun t ht => by
  have := Xp.tl_sits (Xp.hasB s) 16 0 (Nat.le_refl _) ⟨0, by simp⟩ t ht
  exact ⟨this.len, this.dvd, by have := this.le; omega⟩
theorem stm_bd {s : Nat × Nat} {t : Nat × Nat} (h : t ∈ stm s) : t.1 < 65536 ∧ t.2 ≤ 16 := by
  obtain ⟨h1, h2, h3⟩ := stm_sits t h
  have : 0 < 2 ^ (16 - t.2) := Nat.two_pow_pos _
  exact ⟨by omega, h1⟩
theorem cutP_hos {t : Nat × Nat} {q : Nat} (hd : 2 ^ (16 - t.2) ∣ t.1) : (cutP t.2 q = t.1) ↔ Xp.hos q t = true := by
  unfold Xp.hos cutP
  rw [decide_eq_true_eq]
  have hK : 0 < 2 ^ (16 - t.2) := Nat.two_pow_pos _
  generalize 2 ^ (16 - t.2) = K at *
  obtain ⟨c, hc⟩ := hd
  have h1 := Nat.mod_lt q hK
  have h2 := Nat.mod_add_div q K
  have e : q - q % K = K * (q / K) := by omega
  rw [e, hc]
  constructor
  · intro h; omega
  · rintro ⟨h3, h4⟩
    have h5 : q / K = c := by
      rw [Nat.div_eq_iff hK]
      constructor
      · rw [Nat.mul_comm]; omega
      · rw [Nat.mul_comm]; omega
    rw [h5]
theorem stm_count {s : Nat × Nat} {q : Nat} (hq : q < 65536) : (stm s).countP (fun t => decide (cutP t.2 q = t.1)) = if hasI s q = true then 1 else 0 := by
  have e : (stm s).countP (fun t => decide (cutP t.2 q = t.1)) = (stm s).countP (Xp.hos q) := by
    refine List.countP_congr fun t ht => ?_
    rw [decide_eq_true_eq]
    exact cutP_hos (stm_sits t ht).2.1
  rw [e]
  have := Xp.ofS_count (lo := s.1) (hi := s.2) q hq
  unfold stm
  rw [this]
  have h : Xp.hasB (s.1, s.2) q = hasI s q := by
    unfold Xp.hasB hasI
    simp [Bool.decide_and]
  rw [h]
theorem sum_if {α : Type} (c : α → Bool) (K : Nat) : ∀ l : List α, (l.map fun s => if c s = true then K else 0).sum = K * l.countP c
  | [] => by simp
  | s :: l => by
    simp only [List.map_cons, List.sum_cons, sum_if c K l, List.countP_cons]
    cases c s <;> simp [Nat.mul_add, Nat.add_comm]
/-- A header finds a rule at one spot, if it matches it, else at none. -/
theorem sp_count {R : Ru} {h : Hd} (o : OkH h) (hR : okR R = true) : (spR R).countP (fun x => decide (cutH x.1 h = x.2)) = if matchR R h = true then 1 else 0 := by
  obtain ⟨_, c1, c2, _, _, _, _⟩ := (okR_iff R).1 hR
  obtain ⟨_, _, hp, hq, _⟩ := o
  have key : ∀ s t : Nat × Nat, decide (cutH ⟨R.sl, R.dl, s.2, t.2, R.m.2⟩ h = ⟨R.s, R.d, s.1, t.1, R.m.1⟩) = ((Pf.hasB R.s R.sl h.s && Pf.hasB R.d R.dl h.d && hasM R.m.1 R.m.2 h.r) && decide (cutP s.2 h.p = s.1) && decide (cutP t.2 h.q = t.1)) := fun s t => by
    have l1 : ¬ (R.sl < 0 ∨ 32 < R.sl) := fun e => by unfold Pf.chk at c1; rw [if_pos e] at c1; cases c1
    have l2 : ¬ (R.dl < 0 ∨ 32 < R.dl) := fun e => by unfold Pf.chk at c2; rw [if_pos e] at c2; cases c2
    rw [Bool.eq_iff_iff]
    simp only [decide_eq_true_eq, Bool.and_eq_true, cutH, Hx.Hd.mk.injEq, Pf.hasB, hasM, Pf.oA, if_neg l1, if_neg l2, c1, c2, true_and]
    constructor
    · rintro ⟨a, b, c, d, e⟩; exact ⟨⟨⟨⟨a, b⟩, e⟩, c⟩, d⟩
    · rintro ⟨⟨⟨⟨a, b⟩, e⟩, c⟩, d⟩; exact ⟨a, b, c, d, e⟩
  rw [match_in hR]
  generalize hG : (Pf.hasB R.s R.sl h.s && Pf.hasB R.d R.dl h.d && hasM R.m.1 R.m.2 h.r) = G at key
  have e1 : (spR R).countP (fun x => decide (cutH x.1 h = x.2)) = ((stm R.p).map fun s => if (G && decide (cutP s.2 h.p = s.1)) = true then (stm R.q).countP (fun t => decide (cutP t.2 h.q = t.1)) else 0).sum := by
    unfold spR
    rw [List.countP_flatMap]
    congr 1
    refine List.map_congr_left fun s hs => ?_
    simp only [Function.comp, List.countP_map]
    by_cases hc : (G && decide (cutP s.2 h.p = s.1)) = true
    · rw [if_pos hc]
      refine List.countP_congr fun t ht => ?_
      simp only [Function.comp, key, hc, Bool.true_and]
    · rw [if_neg hc, List.countP_eq_zero]
      intro t ht
      simp only [Function.comp, key]
      simp only [Bool.not_eq_true] at hc
      rw [hc]; simp
  rw [e1, sum_if, stm_count hq]
  have e2 : (stm R.p).countP (fun s => G && decide (cutP s.2 h.p = s.1)) = if (G && hasI R.p h.p) = true then 1 else 0 := by
    cases G with
    | false => simp
    | true => simpa using stm_count (s := R.p) hp
  rw [e2]
  have e3 : (Pf.hasB R.s R.sl h.s && Pf.hasB R.d R.dl h.d && hasI R.p h.p && hasI R.q h.q && hasM R.m.1 R.m.2 h.r) = ((G && hasI R.p h.p) && hasI R.q h.q) := by
    rw [← hG]
    cases Pf.hasB R.s R.sl h.s <;> cases Pf.hasB R.d R.dl h.d <;> cases hasI R.p h.p <;> cases hasI R.q h.q <;> cases hasM R.m.1 R.m.2 h.r <;> rfl
  rw [e3]
  cases (G && hasI R.p h.p) <;> cases hasI R.q h.q <;> simp
theorem sp_match {R : Ru} {h : Hd} (o : OkH h) (hR : okR R = true) : matchR R h = true ↔ ∃ x ∈ spR R, cutH x.1 h = x.2 := by
  have h1 := sp_count o hR
  constructor
  · intro hm
    rw [if_pos hm] at h1
    obtain ⟨x, hx, e⟩ := List.countP_pos_iff.1 (show 0 < (spR R).countP (fun x => decide (cutH x.1 h = x.2)) by omega)
    exact ⟨x, hx, of_decide_eq_true e⟩
  · rintro ⟨x, hx, e⟩
    by_cases hm : matchR R h = true
    · exact hm
    · rw [if_neg hm] at h1
      exact absurd (decide_eq_true e) ((List.countP_eq_zero.1 h1) x hx)
theorem sp_uniq {R : Ru} {h : Hd} (o : OkH h) (hR : okR R = true) {x y : Tp × Hx.Hd} (hx : x ∈ spR R) (hy : y ∈ spR R) (ex : cutH x.1 h = x.2) (ey : cutH y.1 h = y.2) : x = y := by
  have h1 := sp_count o hR
  have h2 : ((spR R).filter fun x => decide (cutH x.1 h = x.2)).length ≤ 1 := by
    rw [← List.countP_eq_length_filter, h1]; split <;> omega
  have mx : x ∈ (spR R).filter fun x => decide (cutH x.1 h = x.2) := List.mem_filter.2 ⟨hx, decide_eq_true ex⟩
  have my : y ∈ (spR R).filter fun x => decide (cutH x.1 h = x.2) := List.mem_filter.2 ⟨hy, decide_eq_true ey⟩
  generalize (spR R).filter (fun x => decide (cutH x.1 h = x.2)) = F at *
  match F, h2 with
  | [], _ => cases mx
  | [z], _ =>
    rw [List.mem_singleton] at mx my
    rw [mx, my]
  | _ :: _ :: _, h2 => simp at h2
theorem sp_len (R : Ru) : (spR R).length = (stm R.p).length * (stm R.q).length := by
  unfold spR
  rw [List.length_flatMap]
  simp only [List.length_map]
  have : ∀ l : List (Nat × Nat), (l.map fun _ => (stm R.q).length).sum = l.length * (stm R.q).length := fun l => by
    induction l with
    | nil => simp
    | cons a l ih => simp only [List.map_cons, List.sum_cons, ih, List.length_cons, Nat.add_mul]; omega
  exact this _
theorem sp_le (R : Ru) : (spR R).length ≤ 900 := by
  rw [sp_len]
  exact Nat.mul_le_mul (Xp.ofS_len (lo := R.p.1) (hi := R.p.2)) (Xp.ofS_len (lo := R.q.1) (hi := R.q.2))
theorem sp_pos {R : Ru} (hR : okR R = true) (b : BdR R) : 1 ≤ (spR R).length := by
  obtain ⟨_, _, _, h1, h2, _⟩ := (okR_iff R).1 hR
  unfold okI at h1 h2
  rw [decide_eq_true_eq] at h1 h2
  rw [sp_len]
  exact Nat.mul_pos (Xp.ofS_pos h1 b.2.2.2.1) (Xp.ofS_pos h2 b.2.2.2.2.2.1)
/-- The bounds of a spot's parts. -/
def BdT (t : Tp) : Prop := 0 ≤ t.a ∧ t.a ≤ 32 ∧ 0 ≤ t.b ∧ t.b ≤ 32 ∧ t.c ≤ 16 ∧ t.d ≤ 16 ∧ t.m < 256
theorem sp_bd {R : Ru} (hR : okR R = true) (b : BdR R) : ∀ x ∈ spR R, BdT x.1 ∧ Hx.OkH x.2 := fun x hx => by
  obtain ⟨_, c1, c2, _, _, _, _⟩ := (okR_iff R).1 hR
  have l1 : ¬ (R.sl < 0 ∨ 32 < R.sl) := fun e => by unfold Pf.chk at c1; rw [if_pos e] at c1; cases c1
  have l2 : ¬ (R.dl < 0 ∨ 32 < R.dl) := fun e => by unfold Pf.chk at c2; rw [if_pos e] at c2; cases c2
  unfold spR at hx
  obtain ⟨s, hs, hx⟩ := List.mem_flatMap.1 hx
  obtain ⟨t, ht, rfl⟩ := List.mem_map.1 hx
  have h1 := stm_bd hs
  have h2 := stm_bd ht
  obtain ⟨b1, b2, _, _, _, _, b3, b4, _⟩ := b
  exact ⟨⟨by show 0 ≤ R.sl; omega, by show R.sl ≤ 32; omega, by show 0 ≤ R.dl; omega, by show R.dl ≤ 32; omega, h1.2, h2.2, b4⟩, b1, b2, h1.1, h2.1, b3⟩

/-- All that stand in the tables of a list, in the order in which they are put. -/
def allS (l : List Ru) : List ((Tp × Hx.Hd) × Int) := l.flatMap fun R => (spR R).map fun x => (x, R.i)
/-- What stands in the table of a tuple under a header, if A was put. -/
def con (A : List ((Tp × Hx.Hd) × Int)) (t : Tp) (k : Hx.Hd) : List Int := (A.filter fun y => decide (y.1 = (t, k))).map (·.2)
/-- How many entries the table of a tuple has. -/
def ent (A : List ((Tp × Hx.Hd) × Int)) (t : Tp) : Nat := A.countP fun y => decide (y.1.1 = t)
theorem con_snoc (A : List ((Tp × Hx.Hd) × Int)) (y : (Tp × Hx.Hd) × Int) (t : Tp) (k : Hx.Hd) : con (A ++ [y]) t k = if y.1 = (t, k) then con A t k ++ [y.2] else con A t k := by
  unfold con
  rw [List.filter_append, List.map_append]
  by_cases h : y.1 = (t, k)
  · simp [h]
  · simp [h]
theorem ent_snoc (A : List ((Tp × Hx.Hd) × Int)) (y : (Tp × Hx.Hd) × Int) (t : Tp) : ent (A ++ [y]) t = if y.1.1 = t then ent A t + 1 else ent A t := by
  unfold ent
  rw [List.countP_append]
  by_cases h : y.1.1 = t
  · simp [h]
  · simp [h]
theorem ent_le (A : List ((Tp × Hx.Hd) × Int)) (t : Tp) : ent A t ≤ A.length := List.countP_le_length
theorem ent_pos {A : List ((Tp × Hx.Hd) × Int)} {t : Tp} : 0 < ent A t ↔ ∃ y ∈ A, y.1.1 = t := by
  unfold ent
  rw [List.countP_pos_iff]
  constructor
  · rintro ⟨y, h1, h2⟩; exact ⟨y, h1, of_decide_eq_true h2⟩
  · rintro ⟨y, h1, h2⟩; exact ⟨y, h1, decide_eq_true h2⟩
theorem allS_snoc (l : List Ru) (R : Ru) : allS (l ++ [R]) = allS l ++ (spR R).map fun x => (x, R.i) := by
  unfold allS; rw [List.flatMap_append]; simp
theorem allS_len (l : List Ru) : (allS l).length = (l.map fun R => (spR R).length).sum := by
  unfold allS; rw [List.length_flatMap]; simp
theorem allS_le (l : List Ru) : (allS l).length ≤ l.length * 900 := by
  rw [allS_len]
  induction l with
  | nil => simp
  | cons R l ih =>
    have := sp_le R
    simp only [List.map_cons, List.sum_cons, List.length_cons]; omega
theorem allS_ge {l : List Ru} (h : ∀ R ∈ l, okR R = true ∧ BdR R) : l.length ≤ (allS l).length := by
  rw [allS_len]
  induction l with
  | nil => simp
  | cons R l ih =>
    have h1 := sp_pos (h R (by simp)).1 (h R (by simp)).2
    have := ih fun S hS => h S (by simp [hS])
    simp only [List.map_cons, List.sum_cons, List.length_cons]; omega
/-- The tuples of a rule. -/
def tpR (R : Ru) : List Tp := (spR R).map (·.1)
theorem ent_all {l : List Ru} {t : Tp} : 0 < ent (allS l) t ↔ ∃ R ∈ l, t ∈ tpR R := by
  rw [ent_pos]
  unfold allS tpR
  constructor
  · rintro ⟨y, hy, rfl⟩
    obtain ⟨R, hR, hy⟩ := List.mem_flatMap.1 hy
    obtain ⟨x, hx, rfl⟩ := List.mem_map.1 hy
    exact ⟨R, hR, List.mem_map.2 ⟨x, hx, rfl⟩⟩
  · rintro ⟨R, hR, ht⟩
    obtain ⟨x, hx, rfl⟩ := List.mem_map.1 ht
    exact ⟨_, List.mem_flatMap.2 ⟨R, hR, List.mem_map.2 ⟨x, hx, rfl⟩⟩, rfl⟩
theorem con_cons (R : Ru) (l : List Ru) (t : Tp) (k : Hx.Hd) : con (allS (R :: l)) t k = List.replicate ((spR R).countP fun x => decide (x = (t, k))) R.i ++ con (allS l) t k := by
  have e : allS (R :: l) = ((spR R).map fun x => (x, R.i)) ++ allS l := by unfold allS; simp
  have e2 : ∀ X : List (Tp × Hx.Hd), ((X.map fun x => (x, R.i)).filter fun y => decide (y.1 = (t, k))).map (·.2) = List.replicate (X.countP fun x => decide (x = (t, k))) R.i := fun X => by
    induction X with
    | nil => simp
    | cons x X ih =>
      by_cases h : x = (t, k)
      · simp [h, ih, List.replicate_succ]
      · simp [h, ih]
  rw [e]
  unfold con
  rw [List.filter_append, List.map_append, e2]
theorem con_nil {l : List Ru} {t : Tp} {k : Hx.Hd} : con (allS l) t k = [] ↔ ∀ R ∈ l, (t, k) ∉ spR R := by
  induction l with
  | nil => simp [allS, con]
  | cons R l ih =>
    rw [con_cons, List.append_eq_nil_iff, ih]
    simp only [List.mem_cons, forall_eq_or_imp]
    refine and_congr ?_ Iff.rfl
    rw [List.replicate_eq_nil_iff, List.countP_eq_zero]
    constructor
    · intro h hm; exact h _ hm (by simp)
    · intro h x hx e
      rw [decide_eq_true_eq] at e
      exact h (e ▸ hx)
/-- The first of what stands under a header is the rule of the least place there. -/
theorem con_head : ∀ {l : List Ru} {t : Tp} {k : Hx.Hd} {i : Int} {rest : List Int}, con (allS l) t k = i :: rest → ∃ (j : Nat) (hj : j < l.length), (l[j]'hj).i = i ∧ (t, k) ∈ spR (l[j]'hj) ∧ ∀ j' (hj' : j' < l.length), (t, k) ∈ spR (l[j']'hj') → j ≤ j'
  | [], t, k, i, rest, h => by simp [allS, con] at h
  | R :: l, t, k, i, rest, h => by
    rw [con_cons] at h
    by_cases hm : (t, k) ∈ spR R
    · have hp : 0 < (spR R).countP fun x => decide (x = (t, k)) := List.countP_pos_iff.2 ⟨_, hm, by simp⟩
      obtain ⟨n, hn⟩ : ∃ n, (spR R).countP (fun x => decide (x = (t, k))) = n + 1 := ⟨_, (Nat.sub_add_cancel hp).symm⟩
      rw [hn, List.replicate_succ] at h
      injection h with h1 _
      exact ⟨0, by simp, by simpa using h1, by simpa using hm, fun _ _ _ => Nat.zero_le _⟩
    · have h0 : (spR R).countP (fun x => decide (x = (t, k))) = 0 := List.countP_eq_zero.2 fun x hx e => by
        rw [decide_eq_true_eq] at e; exact hm (e ▸ hx)
      rw [h0, List.replicate_zero, List.nil_append] at h
      obtain ⟨j, hj, h1, h2, h3⟩ := con_head h
      refine ⟨j + 1, by simpa using hj, by simpa using h1, by simpa using h2, fun j' hj' hm' => ?_⟩
      cases j' with
      | zero => exact absurd (by simpa using hm') hm
      | succ j' => exact Nat.succ_le_succ (h3 j' (by simpa using hj') (by simpa using hm'))
end Go.Proofs.YtfpmljgmfapoiaaGreat
/-
  Package table: among, isAction, Check, New; placeOf, mayJoin, copyOf.
-/
namespace Go.Proofs.YtfpmljgmfapoiaaGreat
open Go.RowKit
set_option linter.unusedVariables false
set_option linter.unusedSimpArgs false

/-- A configuration: Max, Default, Prune, Grid, Tuple, Binth, Depth. -/
structure Cf where
  m : Int
  a : Int
  p : Int
  g : Int
  t : Int
  b : Int
  d : Int
def BdC (c : Cf) : Prop := I64 c.m ∧ I64 c.a ∧ I64 c.p ∧ I64 c.g ∧ I64 c.t ∧ I64 c.b ∧ I64 c.d
def amg (n a b : Int) : Bool := decide (a ≤ n) && decide (n ≤ b)
theorem amg_iff {n a b : Int} : amg n a b = true ↔ a ≤ n ∧ n ≤ b := by unfold amg; simp
def okC (c : Cf) : Bool := amg c.m 1 64 && amg c.a 1 4 && (amg c.p 0 1048576 && amg c.g 0 1048576 && amg c.t 0 1048576) && (amg c.b 1 16 && amg c.d 0 10)
def errC (c : Cf) : Int := if okC c then 0 else 110
theorem amongC (n a b : Int) (w : World) : Calls Tryz.prog 46 #[.int .i64 n, .int .i64 a, .int .i64 b] w fun e w' => e = .returned (.bool (amg n a b)) ∧ w' = w := by
  unfold amg
  by_cases h : a ≤ n
  · rw [decide_eq_true h, Bool.true_and]
    go_enter Tryz.func46, Tryz.ntmps46
    go_wp2
    go_ret
    exact ⟨rfl, rfl⟩
  · rw [decide_eq_false h, Bool.false_and]
    go_enter Tryz.func46, Tryz.ntmps46
    go_wp2
    go_ret
    exact ⟨ret_same (by simp), rfl⟩
theorem allR_bd (i a : Int) (hi : I64 i) (ha : I64 a) : BdR (allR i a) := by
  unfold BdR allR
  have n1 : (0 : Nat) < 4294967296 := by decide
  have n2 : (0 : Nat) < 65536 := by decide
  have n3 : (65535 : Nat) < 65536 := by decide
  have n4 : (0 : Nat) < 256 := by decide
  have n5 : I64 0 := by unfold I64; decide
  exact ⟨n1, n1, n2, n3, n2, n3, n4, n4, hi, n5, n5, ha⟩
theorem isActionC (a : Int) (ha : I64 a) (w : World) : Calls Tryz.prog 55 #[.int .i64 a] w fun e w' => e = .returned (.bool (amg a 1 4)) ∧ Below w.heap.size w w' := by
  have hA := fun W => allRC 1 a W
  have hC := fun W => checkRC (allR 1 a) W (allR_bd 1 a (by unfold I64; decide) ha)
  have he : amg a 1 4 = decide ((errs (allR 1 a)).1 = 0) := by
    rw [Bool.eq_iff_iff, decide_eq_true_eq, ← okR_err, allR_ok, decide_eq_true_eq, amg_iff]
    omega
  rw [he]
  generalize (errs (allR 1 a)).1 = x at *
  generalize (errs (allR 1 a)).2 = y at *
  clear he
  simp only [allR] at hA hC
  go_enter Tryz.func55, Tryz.ntmps55
  go_wp2_with (fail)
  refine (hA _).mono ?_
  rintro e w1 ⟨rfl, hb1⟩
  go_wp2_with (fail)
  refine (hC _).mono ?_
  rintro e w2 ⟨rfl, hb2⟩
  go_wp2_with (fail)
  go_ret
  exact ⟨ret_same (by first | rfl | simp), hb1.trans (hb2.mono hb1.size)⟩
set_option maxHeartbeats 2000000 in
theorem checkCC (c : Cf) (o : BdC c) (w : World) : Calls Tryz.prog 36 #[.agg #[.int .i64 c.m, .int .i64 c.a, .int .i64 c.p, .int .i64 c.g, .int .i64 c.t, .int .i64 c.b, .int .i64 c.d]] w fun e w' => e = .returned (.int .i64 (errC c)) ∧ Below w.heap.size w w' := by
  have k1 := fun W => amongC c.p 0 1048576 W
  have k2 := fun W => amongC c.g 0 1048576 W
  have k3 := fun W => amongC c.t 0 1048576 W
  have k4 := fun W => amongC c.b 1 16 W
  have k5 := fun W => amongC c.d 0 10 W
  have k6 := fun W => amongC c.m 1 64 W
  have k7 := fun W => isActionC c.a o.2.1 W
  obtain ⟨E, hE⟩ : ∃ E, E = errC c := ⟨_, rfl⟩
  rw [← hE]
  have HE : Hid (E = if (amg c.m 1 64 && amg c.a 1 4 && (amg c.p 0 1048576 && amg c.g 0 1048576 && amg c.t 0 1048576) && (amg c.b 1 16 && amg c.d 0 10)) = true then 0 else 110) := hE
  clear o hE
  generalize amg c.p 0 1048576 = q1 at *
  generalize amg c.g 0 1048576 = q2 at *
  generalize amg c.t 0 1048576 = q3 at *
  generalize amg c.b 1 16 = q4 at *
  generalize amg c.d 0 10 = q5 at *
  generalize amg c.m 1 64 = q6 at *
  generalize amg c.a 1 4 = q7 at *
  go_enter Tryz.func36, Tryz.ntmps36
  go_upto_region 1 with (fail)
  have c0 : (w.alloc (.cells #[.int .i64 c.m, .int .i64 c.a, .int .i64 c.p, .int .i64 c.g, .int .i64 c.t, .int .i64 c.b, .int .i64 c.d] 24)).cell? ⟨w.heap.size, 0, none⟩ = some (.int .i64 c.m) := blk_cell (blk_new w _) rfl
  have c1 : (w.alloc (.cells #[.int .i64 c.m, .int .i64 c.a, .int .i64 c.p, .int .i64 c.g, .int .i64 c.t, .int .i64 c.b, .int .i64 c.d] 24)).cell? ⟨w.heap.size, 1, none⟩ = some (.int .i64 c.a) := blk_cell (blk_new w _) rfl
  have c2 : (w.alloc (.cells #[.int .i64 c.m, .int .i64 c.a, .int .i64 c.p, .int .i64 c.g, .int .i64 c.t, .int .i64 c.b, .int .i64 c.d] 24)).cell? ⟨w.heap.size, 2, none⟩ = some (.int .i64 c.p) := blk_cell (blk_new w _) rfl
  have c3 : (w.alloc (.cells #[.int .i64 c.m, .int .i64 c.a, .int .i64 c.p, .int .i64 c.g, .int .i64 c.t, .int .i64 c.b, .int .i64 c.d] 24)).cell? ⟨w.heap.size, 3, none⟩ = some (.int .i64 c.g) := blk_cell (blk_new w _) rfl
  have c4 : (w.alloc (.cells #[.int .i64 c.m, .int .i64 c.a, .int .i64 c.p, .int .i64 c.g, .int .i64 c.t, .int .i64 c.b, .int .i64 c.d] 24)).cell? ⟨w.heap.size, 4, none⟩ = some (.int .i64 c.t) := blk_cell (blk_new w _) rfl
  have c5 : (w.alloc (.cells #[.int .i64 c.m, .int .i64 c.a, .int .i64 c.p, .int .i64 c.g, .int .i64 c.t, .int .i64 c.b, .int .i64 c.d] 24)).cell? ⟨w.heap.size, 5, none⟩ = some (.int .i64 c.b) := blk_cell (blk_new w _) rfl
  have c6 : (w.alloc (.cells #[.int .i64 c.m, .int .i64 c.a, .int .i64 c.p, .int .i64 c.g, .int .i64 c.t, .int .i64 c.b, .int .i64 c.d] 24)).cell? ⟨w.heap.size, 6, none⟩ = some (.int .i64 c.d) := blk_cell (blk_new w _) rfl
  have HB : Hid (Below w.heap.size w (w.alloc (.cells #[.int .i64 c.m, .int .i64 c.a, .int .i64 c.p, .int .i64 c.g, .int .i64 c.t, .int .i64 c.b, .int .i64 c.d] 24))) := (Below.refl _ _).alloc (Nat.le_refl _) _
  generalize w.alloc (.cells #[.int .i64 c.m, .int .i64 c.a, .int .i64 c.p, .int .i64 c.g, .int .i64 c.t, .int .i64 c.b, .int .i64 c.d] 24) = W at *
  go_cut [3] (fun s wx => s = .bool (q1 && q2 && q3) ∧ Hid (wx = W))
  case first =>
    clear k4 k5 k6 k7
    go_wp2_with (fail)
    refine (k1 _).mono ?_
    rintro e w1 ⟨rfl, hw⟩
    obtain rfl := hw.symm
    clear hw
    cases q1
    · go_wp2_with (fail)
      go_meet
      case rel => exact ⟨by simp, rfl⟩
    · go_wp2_with (fail)
      refine (k2 _).mono ?_
      rintro e w1 ⟨rfl, hw⟩
      obtain rfl := hw.symm
      clear hw
      cases q2
      · go_wp2_with (fail)
        go_meet
        case rel => exact ⟨by simp, rfl⟩
      · go_wp2_with (fail)
        refine (k3 _).mono ?_
        rintro e w1 ⟨rfl, hw⟩
        obtain rfl := hw.symm
        clear hw
        go_wp2_with (fail)
        go_meet
        case rel => exact ⟨by simp, rfl⟩
  case rest =>
    obtain ⟨rfl, hx⟩ := hcut
    obtain rfl := hx.out.symm
    clear hx k1 k2 k3
    generalize (q1 && q2 && q3) = Q1 at *
    go_upto_region 2 with (fail)
    go_cut [4] (fun s wx => s = .bool (q4 && q5) ∧ Hid (wx = W))
    case first =>
      clear k6 k7
      go_wp2_with (fail)
      refine (k4 _).mono ?_
      rintro e w1 ⟨rfl, hw⟩
      obtain rfl := hw.symm
      clear hw
      cases q4
      · go_wp2_with (fail)
        go_meet
        case rel => exact ⟨by simp, rfl⟩
      · go_wp2_with (fail)
        refine (k5 _).mono ?_
        rintro e w1 ⟨rfl, hw⟩
        obtain rfl := hw.symm
        clear hw
        go_wp2_with (fail)
        go_meet
        case rel => exact ⟨by simp, rfl⟩
    case rest =>
      obtain ⟨rfl, hx⟩ := hcut
      obtain rfl := hx.out.symm
      clear hx k4 k5
      generalize (q4 && q5) = Q2 at *
      go_wp2_with (fail)
      refine (k6 _).mono ?_
      rintro e w1 ⟨rfl, hw⟩
      obtain rfl := hw.symm
      clear hw
      cases q6
      · go_wp2_with (fail)
        go_ret
        exact ⟨ret_int (by rw [HE.out]; rfl), HB.out⟩
      · go_wp2_with (fail)
        refine (k7 _).mono ?_
        rintro e w1 ⟨rfl, hb1⟩
        have HB1 : Hid (Below w.heap.size w w1) := HB.out.trans (hb1.mono HB.out.size)
        clear hb1
        cases q7 <;> cases Q1 <;> cases Q2
        all_goals
          go_wp2_with (fail)
          go_ret
          exact ⟨ret_int (by rw [HE.out]; rfl), HB1.out⟩
set_option maxRecDepth 20000 in
set_option maxHeartbeats 2000000 in
theorem isIdC (id : Int) (R : Ru) (B : Nat) (w : World) (hB : w.cell? ⟨B, 0, none⟩ = some (.int .i64 id)) :
    Calls Tryz.prog 70 #[.agg #[.int .i64 R.i, .int .u32 R.s, .int .i64 R.sl, .int .u32 R.d, .int .i64 R.dl, .int .u16 R.p.1, .int .u16 R.p.2, .int .u16 R.q.1, .int .u16 R.q.2, .int .u8 R.m.1, .int .u8 R.m.2, .int .i64 R.act], .pointer (some ⟨B, 0, none⟩)] w fun e w' => e = .returned (.bool (decide (R.i = id))) ∧ Below w.heap.size w w' := by
  have hlt := World.block_lt_of_cell? w _ hB
  have hne : ¬ B = w.heap.size := by have : B < w.heap.size := hlt; omega
  have hB1 : (w.alloc (.cells #[.int .i64 R.i, .int .u32 R.s, .int .i64 R.sl, .int .u32 R.d, .int .i64 R.dl, .int .u16 R.p.1, .int .u16 R.p.2, .int .u16 R.q.1, .int .u16 R.q.2, .int .u8 R.m.1, .int .u8 R.m.2, .int .i64 R.act] 52)).cell? ⟨B, 0, none⟩ = some (.int .i64 id) := cell_on1 ((Below.refl _ _).alloc (Nat.le_refl _) _) hB
  go_enter Tryz.func70, Tryz.ntmps70
  go_wp2_with (fail)
  go_ret
  exact ⟨ret_same (by first | rfl | (rw [Bool.eq_iff_iff]; simp)), by (repeat (first | assumption | exact Below.refl _ _ | refine Below.drew ?_ | refine bel_drewN ?_ _ | refine Below.setCell ?_ (by first | omega | (simp; done) | (simp; omega)) _ | refine Below.alloc ?_ (by first | omega | (simp; done) | (simp; omega)) _ | refine bel_of ?_ (by assumption)))⟩
end Go.Proofs.YtfpmljgmfapoiaaGreat
