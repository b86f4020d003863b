/-
  A table that holds a map: Get, Delete, Len, Slots, Probes. Written by tools/mkHhP.py.
-/
import Derived.Test.YthfjdoenofkghaaHhL
namespace Go.Proofs.Ythfjdoenofkghaa
open Go.RowKit
set_option linter.unusedVariables false
set_option linter.unusedSimpArgs false

/-- The table in block t holds the map m: M entries there may be, c are, P were at most. -/
def Tb (w : World) (t : Nat) (v : Value) (M c P : Nat) (m : Hd → Option Int) : Prop :=
  ∃ (sp : Nat) (l : List SlI), Tab w t v M c sp l ∧ Inv way l c sp ∧ Holds l m ∧ (∀ k v, m k = some v → OkH k) ∧ l.length ≤ 8 + 4 * P ∧ c ≤ P ∧ P ≤ M ∧ M ≤ 65536
theorem Tb.on {w w1 : World} {t : Nat} {v : Value} {M c P : Nat} {m : Hd → Option Int} (h : Tb w t v M c P m) (hb : Below w.heap.size w w1) : Tb w1 t v M c P m := by
  obtain ⟨sp, l, h1, h2⟩ := h
  exact ⟨sp, l, h1.on hb, h2⟩
theorem Tb.lt {w : World} {t : Nat} {v : Value} {M c P : Nat} {m : Hd → Option Int} (h : Tb w t v M c P m) : t < w.heap.size := by
  obtain ⟨sp, l, h1, h2⟩ := h
  exact h1.lt
theorem Tb.own {w : World} {t : Nat} {v : Value} {M c P : Nat} {m : Hd → Option Int} (h : Tb w t v M c P m) : ∀ k, v.ownBlock = some k → k < w.heap.size := by
  obtain ⟨sp, l, h1, h2⟩ := h
  exact fun k e => h1.own e
/-- What a search of a table says of the map. -/
theorem found_map {l : List SlI} {c sp x p : Nat} {b : Bool} {k : Hd} {m : Hd → Option Int} (hi : Inv way l c sp) (hh : Holds l m) (hf : Found l k x b p) : b = (m k).isSome ∧ (b = true → ∃ s, l[x]? = some s ∧ s.st = 1 ∧ s.k = k ∧ m k = some s.v) ∧ (b = false → m k = none ∧ May way l k x) := by
  cases b with
  | true =>
    obtain ⟨s, h1, h2, h3⟩ := hf.2.2.2.1 rfl
    have h4 := (hh k s.v).1 ⟨x, s, h1, h2, h3, rfl⟩
    exact ⟨by rw [h4]; rfl, fun _ => ⟨s, h1, h2, h3, h4⟩, fun e => by cases e⟩
  | false =>
    have h1 := hf.2.2.2.2 rfl
    have h2 := hh.none h1.1
    exact ⟨by rw [h2]; rfl, fun e => (by cases e), fun _ => ⟨h2, h1⟩⟩
set_option maxHeartbeats 1000000 in
theorem lenC (t : Nat) (v : Value) (M c P : Nat) (m : Hd → Option Int) (w : World) (h : Tb w t v M c P m) :
    Calls Try.prog 19 #[.pointer (some ⟨t, 0, none⟩)] w fun e w' => e = .returned (.int .i64 (c : Int)) ∧ Below w.heap.size w w' := by
  obtain ⟨sp, l, h1, h2⟩ := h
  obtain ⟨c0, c1, c2, c3⟩ := blk4 h1.1
  clear h1 h2
  go_enter Try.func19, Try.ntmps19
  go_wp2
  go_ret
  exact ⟨rfl, Below.refl _ _⟩
set_option maxHeartbeats 1000000 in
theorem slotsC (t : Nat) (v : Value) (M c P : Nat) (m : Hd → Option Int) (w : World) (h : Tb w t v M c P m) :
    Calls Try.prog 20 #[.pointer (some ⟨t, 0, none⟩)] w fun e w' => ∃ n : Nat, e = .returned (.int .i64 (n : Int)) ∧ c + 2 ≤ n ∧ n ≤ 8 + 4 * P ∧ (∀ k W, OkH k → Tb W t v M c P m → (∃ sp l, l.length = n ∧ Tab W t v M c sp l ∧ Inv way l c sp)) ∧ Below w.heap.size w w' := by
  obtain ⟨sp, l, h1, h2, h3, h4, h5, h6⟩ := h
  have HR : Hid (c + 2 ≤ l.length) := h2.room
  have H5 : Hid (l.length ≤ 8 + 4 * P) := h5
  obtain ⟨c0, c1, c2, c3⟩ := blk4 h1.1
  obtain ⟨ad, cap, rfl, hcap, hat⟩ := h1.2.1.form
  have HV : Hid (∀ W, Tb W t (.slice ad l.length cap) M c P m → (∃ sp l', l'.length = l.length ∧ Tab W t (.slice ad l.length cap) M c sp l' ∧ Inv way l' c sp)) := fun W hW => by
    obtain ⟨sp', l', g1, g2, _⟩ := hW
    obtain ⟨ad', cap', e, _, _⟩ := g1.2.1.form
    injection e with _ e _
    exact ⟨sp', l', e.symm, g1, g2⟩
  obtain ⟨n, hn⟩ : ∃ n, n = l.length := ⟨_, rfl⟩
  rw [← hn] at c3 HR H5 HV ⊢
  clear h1 h2 h3 h4 h5 h6 hat hn hcap
  go_enter Try.func20, Try.ntmps20
  go_wp2
  go_ret
  exact ⟨n, rfl, HR.out, H5.out, fun _ W _ hW => HV.out W hW, Below.refl _ _⟩
theorem spot2 (x p : Int) (b : Bool) (w : World) : Sem.run Try.prog (Instr.field 68 (.agg #[.int .i64 x, .bool b, .int .i64 p]) 2) w = .ok (.int .i64 p) w := by
  simp [Instr.field, part, run_underlying Try.underlying68, run_underlying Try.underlying3, asAgg, go_sem]
set_option maxHeartbeats 1000000 in
theorem probesC (t : Nat) (v : Value) (M c sp : Nat) (l : List SlI) (k : Hd) (w : World) (h : Tab w t v M c sp l) (hi : Inv way l c sp) (hl : l.length ≤ 4294967296) (o : OkH k) :
    Calls Try.prog 21 #[.pointer (some ⟨t, 0, none⟩), .agg #[.int .u32 (k.s : Int), .int .u32 (k.d : Int), .int .u16 (k.p : Int), .int .u16 (k.q : Int), .int .u8 (k.r : Int)]] w fun e w' => ∃ p : Nat, e = .returned (.int .i64 (p : Int)) ∧ 1 ≤ p ∧ p < l.length ∧ Below w.heap.size w w' := by
  have hs := seekC t v M c sp l k _ (h.on ((Below.refl _ _).alloc (Nat.le_refl _) (.cells #[.int .u32 (k.s : Int), .int .u32 (k.d : Int), .int .u16 (k.p : Int), .int .u16 (k.q : Int), .int .u8 (k.r : Int)] 36))) hi hl o
  clear h hi hl o
  go_enter Try.func21, Try.ntmps21
  go_wp2_with (fail)
  refine hs.mono ?_
  rintro e w1 ⟨x, b, p, rfl, hf, hb⟩
  have HF : Hid (Found l k x b p) := hf
  have HB : Hid (Below w.heap.size w w1) := ((Below.refl _ _).alloc (Nat.le_refl _) _).trans (hb.mono (by simp))
  clear hf hb hs
  have hsp := fun W => spot2 x p b W
  go_wp2
  go_ret
  exact ⟨p, rfl, HF.out.2.1, HF.out.2.2.1, HB.out⟩
set_option maxHeartbeats 4000000 in
set_option maxRecDepth 20000 in
theorem getC (t : Nat) (v : Value) (M c P : Nat) (m : Hd → Option Int) (k : Hd) (w : World) (ht : Tb w t v M c P m) (o : OkH k) :
    Calls Try.prog 12 #[.pointer (some ⟨t, 0, none⟩), .agg #[.int .u32 (k.s : Int), .int .u32 (k.d : Int), .int .u16 (k.p : Int), .int .u16 (k.q : Int), .int .u8 (k.r : Int)]] w fun e w' => e = .returned (.tuple #[.int .i64 ((m k).getD 0), .bool (m k).isSome]) ∧ Below w.heap.size w w' := by
  obtain ⟨sp, l, h, hi, hh, hok, hl, hcP, hPM, hM⟩ := ht
  have h1 := h.on ((Below.refl _ _).alloc (Nat.le_refl _) (.cells #[.int .u32 (k.s : Int), .int .u32 (k.d : Int), .int .u16 (k.p : Int), .int .u16 (k.q : Int), .int .u8 (k.r : Int)] 36))
  have hlt := h.lt
  have hs := seekC t v M c sp l k _ h1 hi (by omega) o
  have HK1 : Hid (Kb (w.alloc (.cells #[.int .u32 (k.s : Int), .int .u32 (k.d : Int), .int .u16 (k.p : Int), .int .u16 (k.q : Int), .int .u8 (k.r : Int)] 36)) t v w.heap.size (.cells #[.int .u32 (k.s : Int), .int .u32 (k.d : Int), .int .u16 (k.p : Int), .int .u16 (k.q : Int), .int .u8 (k.r : Int)] 36)) := ⟨blk_new w _, by omega, fun e => by have := h.own e; omega⟩
  have HT1 : Hid (Tab (w.alloc (.cells #[.int .u32 (k.s : Int), .int .u32 (k.d : Int), .int .u16 (k.p : Int), .int .u16 (k.q : Int), .int .u8 (k.r : Int)] 36)) t v M c sp l) := h1
  have HM1 : Hid (Moved w (w.alloc (.cells #[.int .u32 (k.s : Int), .int .u32 (k.d : Int), .int .u16 (k.p : Int), .int .u16 (k.q : Int), .int .u8 (k.r : Int)] 36)) t v v) := Moved.of_below ((Below.refl _ _).alloc (Nat.le_refl _) _)
  have HB1 : Hid (Below w.heap.size w (w.alloc (.cells #[.int .u32 (k.s : Int), .int .u32 (k.d : Int), .int .u16 (k.p : Int), .int .u16 (k.q : Int), .int .u8 (k.r : Int)] 36))) := (Below.refl _ _).alloc (Nat.le_refl _) _
  have HI : Hid (Inv way l c sp) := hi
  have HH : Hid (Holds l m) := hh
  obtain ⟨k0, k1, k2, k3, k4⟩ := blk5 HK1.out.1
  have hW1 : w.heap.size < (w.alloc (.cells #[.int .u32 (k.s : Int), .int .u32 (k.d : Int), .int .u16 (k.p : Int), .int .u16 (k.q : Int), .int .u8 (k.r : Int)] 36)).heap.size := by simp
  clear h h1 hi hh
  go_enter Try.func12, Try.ntmps12
  go_upto_region 4 with (fail)
  generalize w.alloc (.cells #[.int .u32 (k.s : Int), .int .u32 (k.d : Int), .int .u16 (k.p : Int), .int .u16 (k.q : Int), .int .u8 (k.r : Int)] 36) = W1 at *
  go_wp2_with (fail)
  refine hs.mono ?_
  rintro e w2 ⟨x, b, p, rfl, hf, hb2⟩
  have hz2 := hb2.size
  have HMAP : Hid _ := found_map HI.out HH.out hf
  have hxl := hf.1
  clear k0 k1 k2 k3 k4 hs
  go_upto_region 5 with (fail)
  have hw3 := blk_new w2 (.cells #[.int .i64 (x : Int), .bool b, .int .i64 (p : Int)] 68)
  have b3 : Below W1.heap.size W1 (w2.alloc (.cells #[.int .i64 (x : Int), .bool b, .int .i64 (p : Int)] 68)) := hb2.trans ((Below.refl _ _).alloc hz2 _)
  generalize w2.alloc (.cells #[.int .i64 (x : Int), .bool b, .int .i64 (p : Int)] 68) = w3 at *
  have HT3 : Hid (Tab w3 t v M c sp l) := HT1.out.on b3
  have HK3 : Hid (Kb w3 t v w.heap.size (.cells #[.int .u32 (k.s : Int), .int .u32 (k.d : Int), .int .u16 (k.p : Int), .int .u16 (k.q : Int), .int .u8 (k.r : Int)] 36)) := HK1.out.on b3
  have HM3 : Hid (Moved w w3 t v v) := HM1.out.trans (Moved.of_below b3)
  have HB3 : Hid (Below w.heap.size w w3) := HB1.out.trans (b3.mono (by omega))
  have HS3 : Hid (Kb w3 t v w2.heap.size (.cells #[.int .i64 (x : Int), .bool b, .int .i64 (p : Int)] 68)) := ⟨hw3, by have := HT1.out.lt; omega, fun e => by have := HT1.out.own e; omega⟩
  obtain ⟨s0, s1, s2⟩ := blk3 HS3.out.1
  clear hw3 hb2 b3 HT1 HK1 HM1 HB1 hf
  obtain ⟨hb, hm1, hm2⟩ := HMAP.out
  clear HMAP hb
  cases b with
  | false =>
    obtain ⟨hno, _⟩ := hm2 rfl
    have Hno : Hid (m k = none) := hno
    clear hm1 hm2 hno
    go_wp2_with (fail)
    go_ret2
    rw [Hno.out]
    exact ⟨rfl, HB3.out⟩
  | true =>
    obtain ⟨s, hs1, hs2, hs3, hs4⟩ := hm1 rfl
    have Hs4 : Hid (m k = some s.v) := hs4
    obtain ⟨g, cap, hv, hcap, hg⟩ := HT3.out.filled (by omega)
    subst hv
    obtain ⟨c0, c1, c2, c3⟩ := blk4 HT3.out.1
    obtain ⟨_, _, _, _, _, _, d6⟩ := rowL_at HT3.out.2.1 hs1
    obtain ⟨n, hn⟩ : ∃ n, n = l.length := ⟨_, rfl⟩
    rw [← hn] at c3 hxl hcap hl
    have hn0 : (n : Int) ≤ 300000 := by omega
    have hix : (x : Int) < (n : Int) := by omega
    have hix2 : ¬ n ≤ x := by omega
    clear hm1 hm2 hn HT3 hs1 hs2 hs3 hs4 HS3 HM3 HK3
    go_upto_region 7 with (fail)
    go_quiet (fail)
    go_wp2
    go_ret2
    rw [Hs4.out]
    exact ⟨rfl, bel_drewN HB3.out _⟩
def slD : SlI := ⟨2, ⟨0, 0, 0, 0, 0⟩, 0⟩
/-- How many entries there are when one may be gone. -/
def delN (m : Hd → Option Int) (c : Nat) (k : Hd) : Nat := if (m k).isSome then c - 1 else c
set_option maxHeartbeats 4000000 in
set_option maxRecDepth 20000 in
theorem delC (t : Nat) (v : Value) (M c P : Nat) (m : Hd → Option Int) (k : Hd) (w : World) (ht : Tb w t v M c P m) (o : OkH k) :
    Calls Try.prog 14 #[.pointer (some ⟨t, 0, none⟩), .agg #[.int .u32 (k.s : Int), .int .u32 (k.d : Int), .int .u16 (k.p : Int), .int .u16 (k.q : Int), .int .u8 (k.r : Int)]] w fun e w' => e = .returned (.bool (m k).isSome) ∧ Tb w' t v M (delN m c k) P (upd m k none) ∧ ((m k).isSome = true → 1 ≤ c) ∧ Moved w w' t v v := by
  obtain ⟨sp, l, h, hi, hh, hok, hl, hcP, hPM, hM⟩ := ht
  have h1 := h.on ((Below.refl _ _).alloc (Nat.le_refl _) (.cells #[.int .u32 (k.s : Int), .int .u32 (k.d : Int), .int .u16 (k.p : Int), .int .u16 (k.q : Int), .int .u8 (k.r : Int)] 36))
  have hlt := h.lt
  have hs := seekC t v M c sp l k _ h1 hi (by omega) o
  have HK1 : Hid (Kb (w.alloc (.cells #[.int .u32 (k.s : Int), .int .u32 (k.d : Int), .int .u16 (k.p : Int), .int .u16 (k.q : Int), .int .u8 (k.r : Int)] 36)) t v w.heap.size (.cells #[.int .u32 (k.s : Int), .int .u32 (k.d : Int), .int .u16 (k.p : Int), .int .u16 (k.q : Int), .int .u8 (k.r : Int)] 36)) := ⟨blk_new w _, by omega, fun e => by have := h.own e; omega⟩
  have HT1 : Hid (Tab (w.alloc (.cells #[.int .u32 (k.s : Int), .int .u32 (k.d : Int), .int .u16 (k.p : Int), .int .u16 (k.q : Int), .int .u8 (k.r : Int)] 36)) t v M c sp l) := h1
  have HM1 : Hid (Moved w (w.alloc (.cells #[.int .u32 (k.s : Int), .int .u32 (k.d : Int), .int .u16 (k.p : Int), .int .u16 (k.q : Int), .int .u8 (k.r : Int)] 36)) t v v) := Moved.of_below ((Below.refl _ _).alloc (Nat.le_refl _) _)
  have HB1 : Hid (Below w.heap.size w (w.alloc (.cells #[.int .u32 (k.s : Int), .int .u32 (k.d : Int), .int .u16 (k.p : Int), .int .u16 (k.q : Int), .int .u8 (k.r : Int)] 36))) := (Below.refl _ _).alloc (Nat.le_refl _) _
  have HI : Hid (Inv way l c sp) := hi
  have HH : Hid (Holds l m) := hh
  obtain ⟨k0, k1, k2, k3, k4⟩ := blk5 HK1.out.1
  have hW1 : w.heap.size < (w.alloc (.cells #[.int .u32 (k.s : Int), .int .u32 (k.d : Int), .int .u16 (k.p : Int), .int .u16 (k.q : Int), .int .u8 (k.r : Int)] 36)).heap.size := by simp
  clear h h1 hi hh
  go_enter Try.func14, Try.ntmps14
  go_upto_region 3 with (fail)
  generalize w.alloc (.cells #[.int .u32 (k.s : Int), .int .u32 (k.d : Int), .int .u16 (k.p : Int), .int .u16 (k.q : Int), .int .u8 (k.r : Int)] 36) = W1 at *
  go_wp2_with (fail)
  refine hs.mono ?_
  rintro e w2 ⟨x, b, p, rfl, hf, hb2⟩
  have hz2 := hb2.size
  have HMAP : Hid _ := found_map HI.out HH.out hf
  have hxl := hf.1
  clear k0 k1 k2 k3 k4 hs
  go_upto_region 4 with (fail)
  have hw3 := blk_new w2 (.cells #[.int .i64 (x : Int), .bool b, .int .i64 (p : Int)] 68)
  have b3 : Below W1.heap.size W1 (w2.alloc (.cells #[.int .i64 (x : Int), .bool b, .int .i64 (p : Int)] 68)) := hb2.trans ((Below.refl _ _).alloc hz2 _)
  generalize w2.alloc (.cells #[.int .i64 (x : Int), .bool b, .int .i64 (p : Int)] 68) = w3 at *
  have HT3 : Hid (Tab w3 t v M c sp l) := HT1.out.on b3
  have HK3 : Hid (Kb w3 t v w.heap.size (.cells #[.int .u32 (k.s : Int), .int .u32 (k.d : Int), .int .u16 (k.p : Int), .int .u16 (k.q : Int), .int .u8 (k.r : Int)] 36)) := HK1.out.on b3
  have HM3 : Hid (Moved w w3 t v v) := HM1.out.trans (Moved.of_below b3)
  have HB3 : Hid (Below w.heap.size w w3) := HB1.out.trans (b3.mono (by omega))
  have HS3 : Hid (Kb w3 t v w2.heap.size (.cells #[.int .i64 (x : Int), .bool b, .int .i64 (p : Int)] 68)) := ⟨hw3, by have := HT1.out.lt; omega, fun e => by have := HT1.out.own e; omega⟩
  obtain ⟨s0, s1, s2⟩ := blk3 HS3.out.1
  clear hw3 hb2 b3 HT1 HK1 HM1 HB1 hf
  obtain ⟨hb, hm1, hm2⟩ := HMAP.out
  clear HMAP hb
  cases b with
  | false =>
    obtain ⟨hno, _⟩ := hm2 rfl
    have Hno : Hid (m k = none) := hno
    have HX : Hid (Tb w3 t v M c P (upd m k none)) := by show Tb _ _ _ _ _ _ _; rw [upd_id m k hno]; exact ⟨sp, l, HT3.out, HI.out, HH.out, hok, hl, hcP, hPM, hM⟩
    clear hm1 hm2 hno hok
    go_wp2_with (fail)
    go_ret
    unfold delN
    rw [Hno.out]
    exact ⟨rfl, HX.out, (by simp), HM3.out⟩
  | true =>
    obtain ⟨s, hs1, hs2, hs3, hs4⟩ := hm1 rfl
    have Hs4 : Hid (m k = some s.v) := hs4
    obtain ⟨hd1, hd2⟩ := HI.out.del (z := slD) hs1 hs2 rfl
    have hd3 := HH.out.del (z := slD) HI.out hs1 hs2 rfl
    rw [hs3] at hd3
    have HD : Hid (Inv way (l.set x slD) (c - 1) sp ∧ 1 ≤ c ∧ Holds (l.set x slD) (upd m k none)) := ⟨hd1, hd2, hd3⟩
    have HOk : Hid (∀ k' v, upd m k none k' = some v → OkH k') := fun k' v e => by
      unfold upd at e
      split at e
      · cases e
      · exact hok k' v e
    have HLb : Hid (l.length ≤ 8 + 4 * P ∧ c ≤ P ∧ P ≤ M ∧ M ≤ 65536) := ⟨hl, hcP, hPM, hM⟩
    obtain ⟨g, cap, hv, hcap, hg⟩ := HT3.out.filled (by omega)
    subst hv
    have HSet : Hid (l.take x ++ [slD] ++ l.drop (x + [slD].length) = l.set x slD) := take_set l x _ hxl
    obtain ⟨n, hn⟩ : ∃ n, n = l.length := ⟨_, rfl⟩
    have Hn : Hid (n = l.length) := hn
    simp only [← hn] at hxl hcap hl HT3 HM3 HK3 HS3
    have hn0 : (n : Int) ≤ 300000 := by omega
    have hix : (x : Int) < (n : Int) := by omega
    have hix2 : ¬ n ≤ x := by omega
    clear hm1 hm2 hn hs1 hs2 hs3 hs4 hok hd1 hd3
    go_upto_region 5 with (fail)
    refine wp_region_held_drew (S := fun w' => w'.cell? ⟨t, 3, none⟩ = some (.slice (some ⟨g, 0, none⟩) n cap) ∧ w'.heap[w2.heap.size]? = some (.cells #[.int .i64 (x : Int), .bool true, .int .i64 (p : Int)] 68)) (by kernel_rfl) ⟨(blk4 HT3.out.1).2.2.2, HS3.out.1⟩ (fun hS1 => ?_)
    show wpAnyH _ _ _ _ _ 9 _ _ _
    refine wpAnyH_take (i := 0) (v := .pointer (some ⟨t, 0, none⟩)) rfl (by kernel_rfl) (by kernel_rfl) (by kernel_rfl) (fun _ _ _ h => h) (.inl ⟨rfl, fun _ _ => by simp [execOp, go_sem]⟩) hS1 ?_
    simp only [List.getElem_toArray, List.getElem_cons_succ, List.getElem_cons_zero, Act.put, List.setIfInBounds_toArray, List.set_cons_zero, List.set_cons_succ]
    refine wpAnyH_take (i := 1) (v := .pointer (some ⟨t, 0, none⟩)) rfl (by kernel_rfl) (by kernel_rfl) (by kernel_rfl) (fun _ _ _ h => h) (.inl ⟨rfl, fun _ _ => by simp [execOp, go_sem]⟩) hS1 ?_
    simp only [List.getElem_toArray, List.getElem_cons_succ, List.getElem_cons_zero, Act.put, List.setIfInBounds_toArray, List.set_cons_zero, List.set_cons_succ]
    refine wpAnyH_take (i := 2) (v := .pointer (some ⟨t, 3, none⟩)) rfl (by kernel_rfl) (by kernel_rfl) (by kernel_rfl) (fun _ _ _ h => h) (.inl ⟨rfl, fun _ _ => by simp [execOp, go_sem]⟩) hS1 ?_
    simp only [List.getElem_toArray, List.getElem_cons_succ, List.getElem_cons_zero, Act.put, List.setIfInBounds_toArray, List.set_cons_zero, List.set_cons_succ]
    refine wpAnyH_take (i := 3) (v := .slice (some ⟨g, 0, none⟩) n cap) rfl (by kernel_rfl) (by kernel_rfl) (by kernel_rfl) (fun _ _ _ h => h) (.inl ⟨rfl, fun w' hw' => by have hcc := hw'.1; simp [execOp, go_sem, hcc]⟩) hS1 ?_
    simp only [List.getElem_toArray, List.getElem_cons_succ, List.getElem_cons_zero, Act.put, List.setIfInBounds_toArray, List.set_cons_zero, List.set_cons_succ]
    refine wpAnyH_take (i := 4) (v := .pointer (some ⟨w2.heap.size, 0, none⟩)) rfl (by kernel_rfl) (by kernel_rfl) (by kernel_rfl) (fun _ _ _ h => h) (.inl ⟨rfl, fun _ _ => by simp [execOp, go_sem]⟩) hS1 ?_
    simp only [List.getElem_toArray, List.getElem_cons_succ, List.getElem_cons_zero, Act.put, List.setIfInBounds_toArray, List.set_cons_zero, List.set_cons_succ]
    refine wpAnyH_take (i := 5) (v := .int .i64 (x : Int)) rfl (by kernel_rfl) (by kernel_rfl) (by kernel_rfl) (fun _ _ _ h => h) (.inl ⟨rfl, fun w' hw' => by have hcc := blk_cell (j := 0) hw'.2 rfl; simp [execOp, go_sem, hcc]⟩) hS1 ?_
    simp only [List.getElem_toArray, List.getElem_cons_succ, List.getElem_cons_zero, Act.put, List.setIfInBounds_toArray, List.set_cons_zero, List.set_cons_succ]
    refine wpAnyH_take (i := 6) (v := .agg #[.int .i64 2, .int .u32 0, .int .u32 0, .int .u16 0, .int .u16 0, .int .u8 0, .int .i64 0]) rfl (by kernel_rfl) (by kernel_rfl) (by kernel_rfl) (fun _ _ _ h => h) (.inl ⟨rfl, fun _ _ => by simp [execOp, go_sem]⟩) hS1 ?_
    simp only [List.getElem_toArray, List.getElem_cons_succ, List.getElem_cons_zero, Act.put, List.setIfInBounds_toArray, List.set_cons_zero, List.set_cons_succ]
    refine wpAnyH_take (i := 7) (v := .pointer (some ⟨g, x * 7, none⟩)) rfl (by kernel_rfl) (by kernel_rfl) (by kernel_rfl) (fun _ _ _ h => h) (yieldsIf_index rfl 60 (.tmp 16) (.tmp 18) rfl _ (fun w => by simp [Instr.indexAt, go_sem, hix, hix2])) hS1 ?_
    simp only [List.getElem_toArray, List.getElem_cons_succ, List.getElem_cons_zero, Act.put, List.setIfInBounds_toArray, List.set_cons_zero, List.set_cons_succ]
    refine wpAnyH_all (rs := [8]) (by kernel_rfl) (by simp) ?_
    intro i hi
    simp only [List.mem_cons, List.not_mem_nil, or_false] at hi
    subst hi
    refine wpOp_of_wp rfl rfl (fun K' hK' => ?_)
    refine wp_storeL (.tmp 20) (.tmp 19) rfl 0 g n cap l HT3.out.2.1 x hxl slD rfl rfl (fun w6 hr6 hg6 => hK' _ _ ⟨?_, ?_⟩)
    · obtain ⟨q1, q2⟩ := Tab.over rfl HT3.out.drew hr6 hg6
      exact ⟨(blk4 q1.1).2.2.2, (HS3.out.moved q2.undrew).1⟩
    · refine wpAnyH_done (by kernel_rfl) ?_ _
      rw [HSet.out] at hr6
      obtain ⟨q1, q2⟩ := Tab.over rfl HT3.out.drew hr6 hg6
      have HS6 : Hid (Kb w6 t (.slice (some ⟨g, 0, none⟩) n cap) w2.heap.size (.cells #[.int .i64 (x : Int), .bool true, .int .i64 (p : Int)] 68)) := HS3.out.moved q2.undrew
      have q3 := q1.set1 (c - 1)
      rw [show ((c - 1 : Nat) : Int) = (c : Int) - 1 by omega] at q3
      have HT7 : Hid (Tab (w6.setCell ⟨t, 1, none⟩ (.int .i64 ((c : Int) - 1))) t (.slice (some ⟨g, 0, none⟩) n cap) M (c - 1) sp (l.set x slD)) := q3.1
      have HM7 : Hid (Moved w (w6.setCell ⟨t, 1, none⟩ (.int .i64 ((c : Int) - 1))) t (.slice (some ⟨g, 0, none⟩) n cap) (.slice (some ⟨g, 0, none⟩) n cap)) := (HM3.out.trans q2.undrew).trans q3.2
      have HS7 := HS6.out.moved q3.2
      obtain ⟨t0, t1, t2⟩ := blk3 HS7.1
      obtain ⟨u0, u1, u2⟩ := blk3 HS6.out.1
      obtain ⟨c0, c1, c2, c3⟩ := blk4 q1.1
      have f1 := blk_free q1.1 1
      have hc1 : (1 : Int) ≤ (c : Int) := by have := HD.out.2.1; omega
      have hc2 : (c : Int) ≤ 65536 := by have := HLb.out; omega
      have hnt : ¬ w2.heap.size = t := HS6.out.2.1
      clear q1 q2 q3 hr6 hg6 hS1 HT3 HM3 HK3 HS3 HS7 s0 s1 s2
      simp only [List.getElem_toArray, List.getElem_cons_succ, List.getElem_cons_zero, Act.put, List.setIfInBounds_toArray, List.set_cons_zero, List.set_cons_succ]
      go_wp2_with (fail)
      go_ret
      unfold delN
      rw [Hs4.out, ← Hn.out]
      refine ⟨rfl, ?_, fun _ => HD.out.2.1, HM7.out⟩
      show Tb _ t _ M (c - 1) P _
      exact ⟨sp, _, HT7.out, HD.out.1, HD.out.2.2, HOk.out, by rw [List.length_set]; exact HLb.out.1, by have := HLb.out; omega, HLb.out.2.2.1, HLb.out.2.2.2⟩
end Go.Proofs.Ythfjdoenofkghaa
