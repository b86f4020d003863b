/-
  nest's Grid, Prune and Tuple. Written by tools/mkNsV.py.
-/
import Derived.Test.YtcjpjofoddpfhaaGreatNsT
import Derived.Test.YtcjpjofoddpfhaaGreatExG
namespace Go.Proofs.YtcjpjofoddpfhaaGreat
open Go.RowKit
set_option linter.unusedVariables false
set_option linter.unusedSimpArgs false


def grdL (l : List Ru) : Nat := if setE l 64 = 0 then grdN witX (l.map pr) else 0
def prnL (l : List Ru) : Nat := if setE l 64 = 0 then prnN witX (l.map pr) else 0
/-- How many stems a span has. -/
def cS (s : Nat × Nat) : Nat := (Xp.tl (Xp.hasB s) 16 0).length
theorem cS_le (s : Nat × Nat) : cS s ≤ 30 := Xp.ofS_len
theorem cS_pos {s : Nat × Nat} (h : s.1 ≤ s.2) (h2 : s.2 < 65536) : 1 ≤ cS s := Xp.ofS_pos h h2
theorem cSC (s : Nat × Nat) (w : World) (h : s.1 ≤ s.2) (h2 : s.2 < 65536) : Calls Tryz.prog 43 #[.agg #[.int .u16 (s.1), .int .u16 (s.2)]] w fun e w' => e = .returned (.tuple #[.int .i64 (cS s : Nat), .int .i64 0]) ∧ Below w.heap.size w w' := Xp.cntC s.1 s.2 w h h2
def tupN (l : List Ru) : Nat := (l.map fun R => cS R.p * cS R.q).sum
def tupL (l : List Ru) : Nat := if setE l 64 = 0 then tupN l else 0
theorem tup_step {l : List Ru} {k : Nat} (hk : k < l.length) : tupN (l.take (k + 1)) = tupN (l.take k) + cS l[k].p * cS l[k].q := by
  unfold tupN; rw [take_at hk, List.map_append, List.sum_append]; simp
theorem tup_le (l : List Ru) : tupN l ≤ l.length * 900 := by
  unfold tupN
  induction l with
  | nil => simp
  | cons R l ih =>
    rw [List.map_cons, List.sum_cons, List.length_cons, Nat.succ_mul]
    have := Nat.mul_le_mul (cS_le R.p) (cS_le R.q)
    omega
theorem map_sr (l : List Ru) : (l.map pr).map (·.1) = l.map sr := by simp [pr]
set_option maxHeartbeats 2000000 in
theorem gridC (l : List Ru) (v : Value) (w : World) (hs : SrcU w v l) (hl : l.length ≤ 16777216) (hb : ∀ R ∈ l, BdR R) :
    Calls Tryz.prog 19 #[v] w fun e w' => e = .returned (.tuple #[.int .i64 (grdL l : Nat), .int .i64 (setE l 64)]) ∧ Below w.heap.size w w' := by
  have hC := checkLC l v w hs hl hb
  have HS : Hid (SrcU w v l) := hs
  have HOk : Hid (setE l 64 = 0 → l.length ≤ 64 ∧ ∀ R ∈ l, BdR R ∧ okR R = true) := fun h0 => by
    have o := setE_ok h0
    refine ⟨?_, fun R hR => ⟨hb R hR, ?_⟩⟩
    · rcases o.few with e | e
      · rw [e]; simp
      · omega
    · obtain ⟨k, hk, rfl⟩ := List.mem_iff_getElem.1 hR
      exact o.may k hk
  clear hs hb
  by_cases h0 : setE l 64 = 0
  · obtain ⟨o1, o2⟩ := HOk.out h0
    have HG : Hid (grdL l = hel witX (l.map sr)) := by
      show grdL l = _
      unfold grdL grdN; rw [if_pos h0, map_sr]
    have HX : Hid (∀ x ∈ l.map sr, x.1 < 4294967296) := fun x hx => by
      obtain ⟨R, hR, rfl⟩ := List.mem_map.1 hx
      exact (o2 R hR).1.1
    have HL : Hid ((l.map sr).length ≤ 64) := by show (l.map sr).length ≤ 64; rw [List.length_map]; exact o1
    generalize grdL l = G at *
    rw [h0] at hC ⊢
    go_enter Tryz.func19, Tryz.ntmps19
    go_wp2_with (fail)
    refine hC.mono ?_
    rintro e w1 ⟨rfl, hb1⟩
    have HB1 : Hid (Below w.heap.size w w1) := hb1
    have hS := sourcesC l v w1 (HS.out.keep hb1) o1 o2
    clear hC hb1 o1 o2 h0
    go_wp2_with (go_at_call 37; fail)
    refine hS.mono ?_
    rintro e w2 ⟨v2, rfl, hr2, hb2⟩
    have hH := heldC (l.map sr) v2 w2 hr2.src HL.out HX.out
    rw [← HG.out] at hH
    have HB2 : Hid (Below w.heap.size w w2) := bel_of HB1.out hb2 HB1.out.size
    clear hr2 hb2 hS
    go_wp2_with (go_at_call 38; fail)
    refine hH.mono ?_
    rintro e w3 ⟨rfl, hb3⟩
    have HB3 : Hid (Below w.heap.size w w3) := bel_of HB2.out hb3 HB2.out.size
    clear hb3 hH
    go_wp2
    go_ret2
    exact ⟨rfl, HB3.out⟩
  · have hG : grdL l = 0 := if_neg h0
    rw [hG]
    have h0' : (setE l 64 != 0) = true := by simpa using h0
    clear HOk hG
    generalize setE l 64 = E at *
    go_enter Tryz.func19, Tryz.ntmps19
    go_wp2_with (fail)
    refine hC.mono ?_
    rintro e w1 ⟨rfl, hb1⟩
    have HB1 : Hid (Below w.heap.size w w1) := hb1
    clear hC hb1
    go_wp2
    go_ret2
    exact ⟨rfl, HB1.out⟩
set_option maxRecDepth 20000 in
set_option maxHeartbeats 4000000 in
theorem pruneC (l : List Ru) (v : Value) (w : World) (hs : SrcU w v l) (hl : l.length ≤ 16777216) (hb : ∀ R ∈ l, BdR R) :
    Calls Tryz.prog 17 #[v] w fun e w' => e = .returned (.tuple #[.int .i64 (prnL l : Nat), .int .i64 (setE l 64)]) ∧ Below w.heap.size w w' := by
  have hC := checkLC l v w hs hl hb
  have HS : Hid (SrcU w v l) := hs
  have HOk : Hid (setE l 64 = 0 → l.length ≤ 64 ∧ ∀ R ∈ l, BdR R ∧ okR R = true) := fun h0 => by
    have o := setE_ok h0
    refine ⟨?_, fun R hR => ⟨hb R hR, ?_⟩⟩
    · rcases o.few with e | e
      · rw [e]; simp
      · omega
    · obtain ⟨k, hk, rfl⟩ := List.mem_iff_getElem.1 hR
      exact o.may k hk
  clear hs hb
  by_cases h0 : setE l 64 = 0
  · obtain ⟨o1, o2⟩ := HOk.out h0
    have HG : Hid (prnL l = prnN witX (l.map pr)) := if_pos h0
    have HX : Hid (∀ x ∈ l.map sr, x.1 < 4294967296) := fun x hx => by
      obtain ⟨R, hR, rfl⟩ := List.mem_map.1 hx
      exact (o2 R hR).1.1
    have HD : Hid (∀ s, ∀ x ∈ tgs witX (l.map pr) s, x.1 < 4294967296) := fun s x hx => by
      unfold tgs at hx
      obtain ⟨r, hr, rfl⟩ := List.mem_map.1 hx
      obtain ⟨R, hR, rfl⟩ := List.mem_map.1 (List.mem_filter.1 hr).1
      exact (o2 R hR).1.2.1
    have HTL : Hid (∀ s, (tgs witX (l.map pr) s).length ≤ 64) := fun s => by
      unfold tgs; rw [List.length_map]
      exact Nat.le_trans (List.length_filter_le _ _) (by rw [List.length_map]; exact o1)
    have HL : Hid ((l.map sr).length ≤ 64) := by show (l.map sr).length ≤ 64; rw [List.length_map]; exact o1
    have HO1 : Hid (l.length ≤ 64) := o1
    have HO2 : Hid (∀ R ∈ l, BdR R ∧ okR R = true) := o2
    generalize prnL l = G at *
    rw [h0] at hC ⊢
    go_enter Tryz.func17, Tryz.ntmps17
    go_wp2_with (fail)
    refine hC.mono ?_
    rintro e w1 ⟨rfl, hb1⟩
    have HB1 : Hid (Below w.heap.size w w1) := hb1
    have hS := sourcesC l v w1 (HS.out.keep hb1) o1 o2
    clear hC hb1 o1 o2 h0
    go_wp2_with (go_at_call 37; fail)
    refine hS.mono ?_
    rintro e w2 ⟨v2, rfl, hr2, hb2⟩
    have hU := unlX (l.map sr) v2 w2 hr2.src (by have := HL.out; omega)
    have HB2 : Hid (Below w.heap.size w w2) := bel_of HB1.out hb2 HB1.out.size
    clear hr2 hb2 hS
    go_wp2_with (go_at_call 36; fail)
    refine hU.mono ?_
    rintro e w3 ⟨v3, u, rfl, hm, hp, hr3, hb3⟩
    have hnd : u.Nodup := List.Pairwise.imp (S := fun a b => a ≠ b) (fun {a b} hab e => by subst e; unfold ltX at hab; omega) hp
    have hul : u.length ≤ 64 := by
      have : u.length ≤ (l.map sr).length := List.Nodup.length_le_of_subset hnd (fun x hx => (hm x).1 hx)
      have := HL.out; omega
    have HE : Hid (sumF (fun s => hel witX (tgs witX (l.map pr) s)) u = G) := by
      show sumF (fun s => hel witX (tgs witX (l.map pr) s)) u = G
      rw [HG.out]; exact prn_of hnd (fun x => by rw [map_sr]; exact hm x)
    have HM : Hid (∀ x ∈ u, x.1 < 4294967296) := fun x hx => HX.out x ((hm x).1 hx)
    have HR3 : Hid (SrcX w3 v3 u) := hr3.src
    have HB3 : Hid (Below w.heap.size w w3) := bel_of HB2.out hb3 HB2.out.size
    obtain ⟨au, cu, rfl, _, _⟩ := hr3.form
    obtain ⟨m, hmm⟩ : ∃ m, m = u.length := ⟨_, rfl⟩
    rw [← hmm] at HR3 hul ⊢
    have Hm : Hid (m = u.length) := hmm
    clear hU hm hp hr3 hb3 hnd hmm HG HX
    go_wp2_with (fail)
    go_loopw [5, 17] (fun vs vi wr => ∃ i : Nat, i ≤ m ∧ vs = .int .i64 ((sumF (fun s => hel witX (tgs witX (l.map pr) s)) (u.take i) : Nat) : Int) ∧ vi = .int .i64 (i : Int) ∧ Hid (Below w3.heap.size w3 wr)) (fun _ vi _ => m - (intOf vi).toNat)
    case atStart => exact ⟨0, Nat.zero_le _, rfl, rfl, Below.refl _ _⟩
    case round =>
      obtain ⟨i, hi, rfl, rfl, HB⟩ := hrel
      by_cases hlt : i < m
      · have hlt' : i < u.length := by rw [← Hm.out]; exact hlt
        have hlti : (i : Int) < (m : Int) := by omega
        obtain ⟨g, off, rfl, c0, c1⟩ := (srcX_at HR3.out).2 HB.out i hlt'
        have hst := sum_step (f := fun s => hel witX (tgs witX (l.map pr) s)) hlt'
        have hbo := sumF_bound (f := fun s => hel witX (tgs witX (l.map pr) s)) (l := u.take i) (k := 64 * 64) (fun x _ => Nat.le_trans (hel_le _) (Nat.mul_le_mul (HTL.out x) (HTL.out x)))
        have hbo2 : sumF (fun s => hel witX (tgs witX (l.map pr) s)) (u.take i) ≤ 64 * (64 * 64) := Nat.le_trans hbo (by rw [List.length_take]; exact Nat.mul_le_mul_right _ (by omega))
        obtain ⟨p, hp⟩ : ∃ p, p = u[i] := ⟨_, rfl⟩
        rw [← hp] at c0 c1 hst
        have hpl : p.1 < 4294967296 := HM.out p (by rw [hp]; exact List.getElem_mem _)
        have hhb : hel witX (tgs witX (l.map pr) p) ≤ 64 * 64 := Nat.le_trans (hel_le _) (Nat.mul_le_mul (HTL.out p) (HTL.out p))
        obtain ⟨W1, hW1⟩ : ∃ W1, W1 = wr.alloc (.cells #[.int .u32 (p.1 : Int), .int .i64 (p.2 : Int)] 50) := ⟨_, rfl⟩
        have hbW : Below wr.heap.size wr W1 := by rw [hW1]; exact (Below.refl _ _).alloc (Nat.le_refl _) _
        have HBW : Hid (Below w3.heap.size w3 W1) := HB.out.trans (hbW.mono HB.out.size)
        have hT := targetsC l p v W1 (HS.out.keep (bel_of HB3.out HBW.out HB3.out.size)) HO1.out HO2.out hpl
        have Hst : Hid _ := hst
        clear hst hbo hp hbW HB
        generalize sumF (fun s => hel witX (tgs witX (l.map pr) s)) (u.take i) = S0 at *
        subst hW1
        go_wp2_with (go_at_call 39; fail)
        refine hT.mono ?_
        rintro e w5 ⟨v5, rfl, hr5, hb5⟩
        have hH := heldC (tgs witX (l.map pr) p) v5 w5 hr5.src (HTL.out p) (HD.out p)
        have HB5 : Hid (Below w3.heap.size w3 w5) := bel_of HBW.out hb5 HBW.out.size
        clear hr5 hb5 hT HBW c0 c1
        generalize hel witX (tgs witX (l.map pr) p) = H1 at *
        go_wp2_with (go_at_call 38; fail)
        refine hH.mono ?_
        rintro e w6 ⟨rfl, hb6⟩
        have HB6 : Hid (Below w3.heap.size w3 w6) := bel_of HB5.out hb6 HB5.out.size
        clear hb6 hH HB5
        go_wp2
        go_roundw
        case rel => exact ⟨i + 1, by omega, by rw [Hst.out]; go_num, by go_num, HB6.out⟩
        case measure => simp [intOf]; omega
      · obtain rfl : i = m := by omega
        have hni : ¬ (i : Int) < (i : Int) := by omega
        have et : sumF (fun s => hel witX (tgs witX (l.map pr) s)) (u.take i) = G := by rw [Hm.out, List.take_length]; exact HE.out
        rw [et]
        clear et
        go_wp2
        go_ret2
        exact ⟨rfl, bel_of HB3.out HB.out HB3.out.size⟩
  · have hG : prnL l = 0 := if_neg h0
    rw [hG]
    have h0' : (setE l 64 != 0) = true := by simpa using h0
    clear HOk hG
    generalize setE l 64 = E at *
    go_enter Tryz.func17, Tryz.ntmps17
    go_wp2_with (fail)
    refine hC.mono ?_
    rintro e w1 ⟨rfl, hb1⟩
    have HB1 : Hid (Below w.heap.size w w1) := hb1
    clear hC hb1
    go_wp2
    go_ret2
    exact ⟨rfl, HB1.out⟩
set_option maxRecDepth 20000 in
set_option maxHeartbeats 4000000 in
theorem tupleC (l : List Ru) (v : Value) (w : World) (hs : SrcU w v l) (hl : l.length ≤ 16777216) (hb : ∀ R ∈ l, BdR R) :
    Calls Tryz.prog 21 #[v] w fun e w' => e = .returned (.tuple #[.int .i64 (tupL l : Nat), .int .i64 (setE l 64)]) ∧ Below w.heap.size w w' := by
  have hC := checkLC l v w hs hl hb
  have HS : Hid (SrcU w v l) := hs
  have HOk : Hid (setE l 64 = 0 → l.length ≤ 64 ∧ ∀ R ∈ l, BdR R ∧ okR R = true) := fun h0 => by
    have o := setE_ok h0
    refine ⟨?_, fun R hR => ⟨hb R hR, ?_⟩⟩
    · rcases o.few with e | e
      · rw [e]; simp
      · omega
    · obtain ⟨k, hk, rfl⟩ := List.mem_iff_getElem.1 hR
      exact o.may k hk
  clear hs hb
  obtain ⟨ad, cap, rfl, _, _⟩ := HS.out
  obtain ⟨n, hn⟩ : ∃ n, n = l.length := ⟨_, rfl⟩
  rw [← hn] at HS hl hC ⊢
  have Hn : Hid (n = l.length) := hn
  clear hn
  by_cases h0 : setE l 64 = 0
  · obtain ⟨o1, o2⟩ := HOk.out h0
    have HG : Hid (tupL l = tupN l) := if_pos h0
    have hn64 : n ≤ 64 := by rw [Hn.out]; exact o1
    have HO2 : Hid (∀ R ∈ l, BdR R ∧ okR R = true) := o2
    generalize tupL l = G at *
    rw [h0] at hC ⊢
    clear o1 o2 h0
    go_enter Tryz.func21, Tryz.ntmps21
    go_wp2_with (fail)
    refine hC.mono ?_
    rintro e w1 ⟨rfl, hb1⟩
    have HB1 : Hid (Below w.heap.size w w1) := hb1
    clear hC hb1
    go_wp2_with (fail)
    go_loopw [5, 19] (fun vs vi wr => ∃ k : Nat, k ≤ n ∧ vs = .int .i64 ((tupN (l.take k) : Nat) : Int) ∧ vi = .int .i64 (k : Int) ∧ Hid (Below w1.heap.size w1 wr)) (fun _ vi _ => n - (intOf vi).toNat)
    case atStart => exact ⟨0, Nat.zero_le _, rfl, rfl, Below.refl _ _⟩
    case round =>
      obtain ⟨k, hk, rfl, rfl, HB⟩ := hrel
      by_cases hlt : k < n
      · have hlt' : k < l.length := by rw [← Hn.out]; exact hlt
        have hlti : (k : Int) < (n : Int) := by omega
        have HBw : Hid (Below w.heap.size w wr) := bel_of HB1.out HB.out HB1.out.size
        obtain ⟨g, off, rfl, hrg⟩ := (rngU HS.out).2 wr HBw.out k hlt'
        have hst := tup_step hlt'
        have hbd := HO2.out _ (List.getElem_mem hlt')
        have htl := tup_le (l.take k)
        rw [List.length_take] at htl
        have htl2 : tupN (l.take k) ≤ 57600 := by
          have : min k l.length * 900 ≤ 64 * 900 := Nat.mul_le_mul_right _ (by omega)
          omega
        obtain ⟨p, hp⟩ : ∃ p, p = l[k] := ⟨_, rfl⟩
        rw [← hp] at hrg hst hbd
        obtain ⟨_, _, _, hp1, hp2, _⟩ := (okR_iff p).1 hbd.2
        have hp1' : p.p.1 ≤ p.p.2 := by unfold okI at hp1; simpa using hp1
        have hp2' : p.q.1 ≤ p.q.2 := by unfold okI at hp2; simpa using hp2
        have hc1 := fun W => cSC p.p W hp1' hbd.1.2.2.2.1
        have hc2 := fun W => cSC p.q W hp2' hbd.1.2.2.2.2.2.1
        have l1 := cS_le p.p
        have l2 := cS_le p.q
        have hmul : cS p.p * cS p.q ≤ 900 := Nat.mul_le_mul l1 l2
        have x0 : wr.cell? ⟨g, off + k * 12, none⟩ = some (.int .i64 p.i) := hrg 0 _ rfl
        have x1 : wr.cell? ⟨g, off + k * 12 + 1, none⟩ = some (.int .u32 (p.s : Int)) := hrg 1 _ rfl
        have x2 : wr.cell? ⟨g, off + k * 12 + 2, none⟩ = some (.int .i64 p.sl) := hrg 2 _ rfl
        have x3 : wr.cell? ⟨g, off + k * 12 + 3, none⟩ = some (.int .u32 (p.d : Int)) := hrg 3 _ rfl
        have x4 : wr.cell? ⟨g, off + k * 12 + 4, none⟩ = some (.int .i64 p.dl) := hrg 4 _ rfl
        have x5 : wr.cell? ⟨g, off + k * 12 + 5, none⟩ = some (.int .u16 (p.p.1 : Int)) := hrg 5 _ rfl
        have x6 : wr.cell? ⟨g, off + k * 12 + 6, none⟩ = some (.int .u16 (p.p.2 : Int)) := hrg 6 _ rfl
        have x7 : wr.cell? ⟨g, off + k * 12 + 7, none⟩ = some (.int .u16 (p.q.1 : Int)) := hrg 7 _ rfl
        have x8 : wr.cell? ⟨g, off + k * 12 + 8, none⟩ = some (.int .u16 (p.q.2 : Int)) := hrg 8 _ rfl
        have x9 : wr.cell? ⟨g, off + k * 12 + 9, none⟩ = some (.int .u8 (p.m.1 : Int)) := hrg 9 _ rfl
        have x10 : wr.cell? ⟨g, off + k * 12 + 10, none⟩ = some (.int .u8 (p.m.2 : Int)) := hrg 10 _ rfl
        have x11 : wr.cell? ⟨g, off + k * 12 + 11, none⟩ = some (.int .i64 p.act) := hrg 11 _ rfl
        obtain ⟨W1, hW1⟩ : ∃ W1, W1 = wr.alloc (.cells #[.int .i64 p.i, .int .u32 (p.s : Int), .int .i64 p.sl, .int .u32 (p.d : Int), .int .i64 p.dl, .int .u16 (p.p.1 : Int), .int .u16 (p.p.2 : Int), .int .u16 (p.q.1 : Int), .int .u16 (p.q.2 : Int), .int .u8 (p.m.1 : Int), .int .u8 (p.m.2 : Int), .int .i64 p.act] 54) := ⟨_, rfl⟩
        have hbW : Below wr.heap.size wr W1 := by rw [hW1]; exact (Below.refl _ _).alloc (Nat.le_refl _) _
        have HBW : Hid (Below w1.heap.size w1 W1) := HB.out.trans (hbW.mono HB.out.size)
        have HX : Hid (W1.heap[wr.heap.size]? = some (.cells #[.int .i64 p.i, .int .u32 (p.s : Int), .int .i64 p.sl, .int .u32 (p.d : Int), .int .i64 p.dl, .int .u16 (p.p.1 : Int), .int .u16 (p.p.2 : Int), .int .u16 (p.q.1 : Int), .int .u16 (p.q.2 : Int), .int .u8 (p.m.1 : Int), .int .u8 (p.m.2 : Int), .int .i64 p.act] 54 (0, 0))) := by rw [hW1]; exact blk_new wr _
        have y5 : W1.cell? ⟨wr.heap.size, 5, none⟩ = some (.int .u16 (p.p.1 : Int)) := blk_cell HX.out rfl
        have y6 : W1.cell? ⟨wr.heap.size, 6, none⟩ = some (.int .u16 (p.p.2 : Int)) := blk_cell HX.out rfl
        have Hst : Hid _ := hst
        have Hmul : Hid _ := hmul
        clear hrg hbd hp hst hbW HB hp1 hp2 hp1' hp2' htl hmul
        generalize tupN (l.take k) = S0 at *
        subst hW1
        go_wp2_with (go_at_call 43; fail)
        clear x0 x1 x2 x3 x4 x5 x6 x7 x8 x9 x10 x11
        refine (hc1 _).mono ?_
        rintro e w4 ⟨rfl, hb4⟩
        have HX4 : Hid (w4.heap[wr.heap.size]? = some (.cells #[.int .i64 p.i, .int .u32 (p.s : Int), .int .i64 p.sl, .int .u32 (p.d : Int), .int .i64 p.dl, .int .u16 (p.p.1 : Int), .int .u16 (p.p.2 : Int), .int .u16 (p.q.1 : Int), .int .u16 (p.q.2 : Int), .int .u8 (p.m.1 : Int), .int .u8 (p.m.2 : Int), .int .i64 p.act] 54 (0, 0))) := blk_on HX.out hb4
        have y7 : w4.cell? ⟨wr.heap.size, 7, none⟩ = some (.int .u16 (p.q.1 : Int)) := blk_cell HX4.out rfl
        have y8 : w4.cell? ⟨wr.heap.size, 8, none⟩ = some (.int .u16 (p.q.2 : Int)) := blk_cell HX4.out rfl
        have HB4 : Hid (Below w1.heap.size w1 w4) := bel_of HBW.out hb4 HBW.out.size
        clear hb4 y5 y6 hc1 HX HBW
        go_wp2_with (go_at_call 43; fail)
        refine (hc2 _).mono ?_
        rintro e w5 ⟨rfl, hb5⟩
        have HB5 : Hid (Below w1.heap.size w1 w5) := bel_of HB4.out hb5 HB4.out.size
        clear hb5 y7 y8 hc2 HB4 HX4
        generalize cS p.p = a1 at *
        generalize cS p.q = a2 at *
        have hm1 : (a1 : Int) * (a2 : Int) = ((a1 * a2 : Nat) : Int) := by simp
        have hm2 : IntKind.i64.wrap ((a1 : Int) * (a2 : Int)) = ((a1 * a2 : Nat) : Int) := by rw [hm1]; exact wrap64_nat' (by have := Hmul.out; omega)
        have hm3 : wrap64 ((a1 : Int) * (a2 : Int)) = ((a1 * a2 : Nat) : Int) := by rw [hm1]; have := Hmul.out; unfold wrap64; omega
        clear hm1
        obtain ⟨M, hM⟩ : ∃ M, M = a1 * a2 := ⟨_, rfl⟩
        rw [← hM] at hm2 hm3 Hst Hmul
        have hMb : M ≤ 900 := Hmul.out
        clear hM
        go_wp2
        go_roundw
        case rel => exact ⟨k + 1, by omega, by rw [Hst.out]; go_num, by go_num, HB5.out⟩
        case measure => simp [intOf]; omega
      · obtain rfl : k = n := by omega
        have hni : ¬ (k : Int) < (k : Int) := by omega
        have et : tupN (l.take k) = G := by rw [Hn.out, List.take_length, HG.out]
        rw [et]
        clear et
        go_wp2
        go_ret2
        exact ⟨rfl, bel_of HB1.out HB.out HB1.out.size⟩
  · have hG : tupL l = 0 := if_neg h0
    rw [hG]
    have h0' : (setE l 64 != 0) = true := by simpa using h0
    clear HOk hG
    generalize setE l 64 = E at *
    go_enter Tryz.func21, Tryz.ntmps21
    go_wp2_with (fail)
    refine hC.mono ?_
    rintro e w1 ⟨rfl, hb1⟩
    have HB1 : Hid (Below w.heap.size w w1) := hb1
    clear hC hb1
    go_wp2
    go_ret2
    exact ⟨rfl, HB1.out⟩
end Go.Proofs.YtcjpjofoddpfhaaGreat
