/-
  PkAK: TbB TbT, one behind the other (tools/pack.py).
-/
import Derived.Test.YtgokmkholjfhbaaGreatPkAJ
import Derived.Laws.MakeOwn
import Derived.Test.YtgokmkholjfhbaaGreatPkAE
set_option linter.unusedVariables false
set_option linter.unusedSimpArgs false
namespace Go.Proofs.YtgokmkholjfhbaaGreat
open Go.RowKit
set_option maxRecDepth 20000 in
set_option maxHeartbeats 8000000 in
theorem indexC (v : Value) (l : List Ru) (x : Int) (B : Nat) (w : World) (hs : SrcU w v l) (hB : w.cell? ⟨B, 0, none⟩ = some (.int .i64 x)) (hl : l.length ≤ 200000) :
  Calls Tryz.prog 97 #[v, .func (.func 98) #[] #[.pointer (some ⟨B, 0, none⟩)]] w fun e w' => e = .returned (.int .i64 (fnd l x)) ∧ Below w.heap.size w w' := by
 obtain ⟨ad, cap, rfl, hcap, hat⟩ := hs
 obtain ⟨A, hA⟩ : ∃ A, A = fnd l x := ⟨_, rfl⟩
 rw [← hA]
 have HA : Hid (A = fndK x (l.drop 0) 0) := hA
 clear hA
 obtain ⟨n, hn⟩ : ∃ n, n = l.length := ⟨_, rfl⟩
 have Hn : Hid (n = l.length) := hn
 have HAt : Hid (∀ (W : World), Below w.heap.size w W → ∀ k (hk : k < l.length), ∃ g off, ad = some ⟨g, off, none⟩ ∧ g < W.heap.size ∧ ∀ j, j < 12 → W.cell? ⟨g, off + (k * 12 + j), none⟩ = (encU (l[k]'hk))[j]?) := fun W hb k hk => by
  obtain ⟨g, off, e, h3⟩ := hat (by omega)
  have h0 := h3 k hk 0 (by decide)
  have hg : g < w.heap.size := World.block_lt_of_cell? w _ (h0.trans rfl)
  exact ⟨g, off, e, by have := hb.size; omega, fun j hj => by
   have := h3 k hk j hj
   obtain ⟨u, hu⟩ := encU_some (l[k]'hk) hj
   rw [hb.cell (p := ⟨g, off + (k * 12 + j), none⟩) hg]; exact this⟩
 have HI : Hid (∀ (W : World) (R : Ru), Below w.heap.size w W → Calls Tryz.prog 98 #[.agg #[.int .i64 R.i, .int .u32 R.s, .int .i64 R.sl, .int .u32 R.d, .int .i64 R.dl, .int .u16 R.p.1, .int .u16 R.p.2, .int .u16 R.q.1, .int .u16 R.q.2, .int .u8 R.m.1, .int .u8 R.m.2, .int .i64 R.act], .pointer (some ⟨B, 0, none⟩)] W fun e w' => e = .returned (.bool (decide (R.i = x))) ∧ Below W.heap.size W w') := fun W R hb => isIdC x R B W (cell_on1 hb hB)
 rw [← hn] at hl hcap ⊢
 have hn0 : (n : Int) ≤ 200000 := by omega
 clear hn hat hB
 go_enter Tryz.func97, Tryz.ntmps97
 go_wp2_with (fail)
 go_loopw [8] (fun i wr => ∃ k : Nat, k ≤ n ∧ i = .int .i64 k ∧ Hid (Below w.heap.size w wr) ∧ Hid (A = fndK x (l.drop k) k)) (fun i _ => n - (intOf i).toNat)
 case atStart => exact ⟨0, Nat.zero_le _, rfl, Below.refl _ _, HA.out⟩
 case round =>
  obtain ⟨k, hk, rfl, HB, HK⟩ := hrel
  by_cases hlt : k < n
  ·have hkl : k < l.length := by rw [← Hn.out]; exact hlt
   obtain ⟨g, off, rfl, hg, hc⟩ := HAt.out wr HB.out k hkl
   obtain ⟨p, hp⟩ : ∃ p, p = l[k]'hkl := ⟨_, rfl⟩
   rw [← hp] at hc
   have x0 : wr.cell? ⟨g, off + k * 12, none⟩ = some (.int .i64 p.i) := hc 0 (by decide)
   have x1 : wr.cell? ⟨g, off + k * 12 + 1, none⟩ = some (.int .u32 p.s) := hc 1 (by decide)
   have x2 : wr.cell? ⟨g, off + k * 12 + 2, none⟩ = some (.int .i64 p.sl) := hc 2 (by decide)
   have x3 : wr.cell? ⟨g, off + k * 12 + 3, none⟩ = some (.int .u32 p.d) := hc 3 (by decide)
   have x4 : wr.cell? ⟨g, off + k * 12 + 4, none⟩ = some (.int .i64 p.dl) := hc 4 (by decide)
   have x5 : wr.cell? ⟨g, off + k * 12 + 5, none⟩ = some (.int .u16 p.p.1) := hc 5 (by decide)
   have x6 : wr.cell? ⟨g, off + k * 12 + 6, none⟩ = some (.int .u16 p.p.2) := hc 6 (by decide)
   have x7 : wr.cell? ⟨g, off + k * 12 + 7, none⟩ = some (.int .u16 p.q.1) := hc 7 (by decide)
   have x8 : wr.cell? ⟨g, off + k * 12 + 8, none⟩ = some (.int .u16 p.q.2) := hc 8 (by decide)
   have x9 : wr.cell? ⟨g, off + k * 12 + 9, none⟩ = some (.int .u8 p.m.1) := hc 9 (by decide)
   have x10 : wr.cell? ⟨g, off + k * 12 + 10, none⟩ = some (.int .u8 p.m.2) := hc 10 (by decide)
   have x11 : wr.cell? ⟨g, off + k * 12 + 11, none⟩ = some (.int .i64 p.act) := hc 11 (by decide)
   have hlt' : (k : Int) < (n : Int) := by omega
   have hI := HI.out wr p HB.out
   clear hc HI
   by_cases hx : p.i = x
   ·have HV : Hid (A = (k : Int)) := HK.out.trans (fndK_hit hkl (by rw [← hp]; exact hx))
    rw [decide_eq_true hx] at hI
    clear hp hx HK HA HAt
    go_wp2_with (fail)
    refine hI.mono ?_
    rintro e w1 ⟨rfl, hb1⟩
    have HB1 : Hid (Below w.heap.size w w1) := HB.out.trans (hb1.mono HB.out.size)
    clear hb1 x0 x1 x2 x3 x4 x5 x6 x7 x8 x9 x10 x11
    go_wp2_with (fail)
    go_ret
    exact ⟨ret_int HV.out.symm, HB1.out⟩
   ·have HK2 : Hid (A = fndK x (l.drop (k + 1)) (k + 1)) := HK.out.trans (fndK_no hkl (by rw [← hp]; exact hx))
    rw [decide_eq_false hx] at hI
    clear hp hx HK HA HAt hkl
    go_wp2_with (fail)
    refine hI.mono ?_
    rintro e w1 ⟨rfl, hb1⟩
    have HB1 : Hid (Below w.heap.size w w1) := HB.out.trans (hb1.mono HB.out.size)
    clear hb1 x0 x1 x2 x3 x4 x5 x6 x7 x8 x9 x10 x11
    go_wp2_with (fail)
    go_roundw
    case rel => exact ⟨k + 1, by omega, by go_num, HB1.out, HK2.out⟩
    case measure => simp [intOf]; omega
  ·obtain rfl : k = n := by omega
   have HV : Hid (A = -1) := HK.out.trans (fndK_end (by rw [← Hn.out]; exact Nat.le_refl _))
   clear HK HA HAt HI
   go_wp2_with (fail)
   go_ret
   exact ⟨ret_int HV.out.symm, HB.out⟩
theorem placeOfC (v : Value) (l : List Ru) (x : Int) (w : World) (hs : SrcU w v l) (hl : l.length ≤ 200000) :
  Calls Tryz.prog 65 #[v, .int .i64 x] w fun e w' => e = .returned (.int .i64 (fnd l x)) ∧ Below w.heap.size w w' := by
 have hI := indexC v l x w.heap.size (w.alloc (.cells #[.int .i64 x] 3)) (hs.keep ((Below.refl _ _).alloc (Nat.le_refl _) _)) (blk_cell (blk_new w _) rfl) hl
 generalize fnd l x = A at *
 obtain ⟨ad, cap, rfl, hcap, hat⟩ := hs
 clear hat
 generalize l.length = n at *
 go_enter Tryz.func65, Tryz.ntmps65
 go_wp2_with (fail)
 refine hI.mono ?_
 rintro e w1 ⟨rfl, hb1⟩
 have HB1 : Hid (Below w.heap.size w w1) := ((Below.refl _ _).alloc (Nat.le_refl _) _).trans (hb1.mono (by simp))
 clear hb1 hI
 go_wp2_with (fail)
 go_ret
 exact ⟨rfl, HB1.out⟩
set_option maxRecDepth 20000 in
set_option maxHeartbeats 2000000 in
theorem mayJoinC (v : Value) (l : List Ru) (R : Ru) (w : World) (b : BdR R) (hs : SrcU w v l) (hl : l.length ≤ 200000) :
  Calls Tryz.prog 48 #[v, .agg #[.int .i64 R.i, .int .u32 R.s, .int .i64 R.sl, .int .u32 R.d, .int .i64 R.dl, .int .u16 R.p.1, .int .u16 R.p.2, .int .u16 R.q.1, .int .u16 R.q.2, .int .u8 R.m.1, .int .u8 R.m.2, .int .i64 R.act]] w fun e w' => e = .returned (.int .i64 (joinE l R)) ∧ Below w.heap.size w w' := by
 have hC := checkRC R (w.alloc (.cells #[.int .i64 R.i, .int .u32 R.s, .int .i64 R.sl, .int .u32 R.d, .int .i64 R.dl, .int .u16 R.p.1, .int .u16 R.p.2, .int .u16 R.q.1, .int .u16 R.q.2, .int .u8 R.m.1, .int .u8 R.m.2, .int .i64 R.act] 64)) b
 have HP : Hid (∀ W, Below w.heap.size w W → Calls Tryz.prog 65 #[v, .int .i64 R.i] W fun e w' => e = .returned (.int .i64 (fnd l R.i)) ∧ Below W.heap.size W w') := fun W hb => placeOfC v l R.i W (hs.keep hb) hl
 have hr := fnd_range l R.i
 obtain ⟨E, hE⟩ : ∃ E, E = joinE l R := ⟨_, rfl⟩
 rw [← hE]
 have HE : Hid (E = if (errs R).1 = 0 then (if 0 ≤ fnd l R.i then 111 else 0) else (errs R).1) := hE
 clear hE
 generalize (errs R).1 = c at *
 generalize (errs R).2 = d at *
 generalize fnd l R.i = A at *
 obtain ⟨ad, cap, rfl, hcap, hat⟩ := hs
 clear hat b
 generalize l.length = n at *
 by_cases hc : c = 0
 ·subst hc
  go_enter Tryz.func48, Tryz.ntmps48
  go_wp2_with (fail)
  refine hC.mono ?_
  rintro e w1 ⟨rfl, hb1⟩
  have HB1 : Hid (Below w.heap.size w w1) := ((Below.refl _ _).alloc (Nat.le_refl _) _).trans (hb1.mono (by simp))
  have x0 : w1.cell? ⟨w.heap.size, 0, none⟩ = some (.int .i64 R.i) := cell_on1 hb1 (blk_cell (blk_new w _) rfl)
  have hP := HP.out w1 HB1.out
  clear hb1 hC HP
  go_wp2_with (fail)
  refine hP.mono ?_
  rintro e w2 ⟨rfl, hb2⟩
  have HB2 : Hid (Below w.heap.size w w2) := HB1.out.trans (hb2.mono HB1.out.size)
  clear hb2 x0 hP
  by_cases hA : 0 ≤ A
  ·have HV : Hid (E = 111) := by show _ = _; rw [HE.out]; simp [hA]
   clear hr HE
   go_wp2_with (fail)
   go_ret
   exact ⟨ret_int HV.out.symm, HB2.out⟩
  ·have HV : Hid (E = 0) := by show _ = _; rw [HE.out]; simp [hA]
   clear hr HE
   go_wp2_with (fail)
   go_ret
   exact ⟨ret_int HV.out.symm, HB2.out⟩
 ·have HV : Hid (E = c) := by show _ = _; rw [HE.out, if_neg hc]
  clear HE
  have hc' : (c != 0) = true := by simpa using hc
  go_enter Tryz.func48, Tryz.ntmps48
  go_wp2_with (fail)
  refine hC.mono ?_
  rintro e w1 ⟨rfl, hb1⟩
  have HB1 : Hid (Below w.heap.size w w1) := ((Below.refl _ _).alloc (Nat.le_refl _) _).trans (hb1.mono (by simp))
  clear hb1 hC HP hr
  go_wp2_with (fail)
  go_ret
  exact ⟨ret_int HV.out.symm, HB1.out⟩
theorem run_fillU (w : World) (ty : TypeId) (u : Value) (k : List Ru) (hs : SrcU w u k) (hl : k.length ≤ 200000) (z : Array Value) :
  ∃ w', (Builtin.copy_ #[56, 56] ty #[.slice (some ⟨w.heap.size, 0, none⟩) k.length k.length, u]).run Tryz.prog (w.alloc (.cells (madeCells z (k.length * 12)) 64)) = .ok (goInt k.length) w' ∧
   RowU w' w.heap.size (.slice (some ⟨w.heap.size, 0, none⟩) k.length k.length) k ∧ Below w.heap.size w w' := by
 obtain ⟨i0, hi, hz0, hz1, hz2⟩ := info_parts infoU
 have hsu := hs.keep ((Below.refl _ _).alloc (Nat.le_refl _) (.cells (madeCells z (k.length * 12)) 64))
 have hg := blk_new w (.cells (madeCells z (k.length * 12)) 64)
 have hbW : Below w.heap.size w (w.alloc (.cells (madeCells z (k.length * 12)) 64)) := (Below.refl _ _).alloc (Nat.le_refl _) _
 have hsz := size_madeCells z (k.length * 12)
 generalize madeCells z (k.length * 12) = cur at *
 generalize w.alloc (.cells cur 64) = W at *
 clear hs
 obtain ⟨ad, c, rfl, hc, h2⟩ := id hsu
 by_cases h0 : 0 < k.length
 ·obtain ⟨g2, off, rfl, h3⟩ := h2 h0
  have hl2 := run_loadCells_list (P := Tryz.prog) W ⟨g2, off, none⟩ (flatU k) hsu.flat
  rw [flatU_length] at hl2
  have hst := run_storeCells_at Tryz.prog w.heap.size 0 64 (flatU k) 0 cur W hg (by rw [flatU_length]; omega) (flatU_one k)
  refine ⟨W.setRow w.heap.size (cur.toList.take (0 + 0) ++ flatU k ++ cur.toList.drop (0 + 0 + (flatU k).length)).toArray, ?_, ?_, ?_⟩
  ·simp [Builtin.copy_, Tryz.runUnderlying56, Builtin.lenOf, Builtin.firstCells, sizeOf, typeInfo, hi, hz1, hl2]
   simp at hst
   rw [hst]
   simp [Result.andThen]
  ·have e : cur.toList.drop (0 + 0 + (flatU k).length) = [] := List.drop_eq_nil_of_le (by rw [flatU_length, Array.length_toList]; omega)
   rw [e, List.append_nil]
   have := setRow_heap W w.heap.size cur (cur.toList.take (0 + 0) ++ flatU k).toArray _ _ hg
   exact ⟨flatU_length k, .inr ⟨w.heap.size, k.length, _, rfl, Nat.le_refl _, this, Nat.le_refl _, by unfold maxLen; omega, by simp [flatU_length], by rw [← flatU_length]; simp⟩⟩
  ·exact hbW.trans ⟨rfl, rfl, rfl, by simp, fun x hx => setRow_other W w.heap.size x _ (by omega)⟩
 ·obtain rfl : k = [] := List.eq_nil_of_length_eq_zero (by omega)
  refine ⟨W, ?_, ⟨rfl, .inr ⟨w.heap.size, 0, cur, rfl, Nat.le_refl _, hg, Nat.le_refl _, by unfold maxLen; omega, by simpa using hsz, by simp [flatU]⟩⟩, hbW⟩
  have hl : ∀ (x : Addr), (loadCells x 0).run Tryz.prog W = .ok #[] W := fun x => by simpa using run_loadCells_list (P := Tryz.prog) W x [] (by simp)
  cases ad <;> simp [Builtin.copy_, Tryz.runUnderlying56, Builtin.lenOf, Builtin.firstCells, sizeOf, typeInfo, hi, hz1, storeCells, hl]
set_option maxHeartbeats 1000000 in
theorem copyOfC (v : Value) (l : List Ru) (w : World) (hs : SrcU w v l) (hl : l.length ≤ 200000) :
  Calls Tryz.prog 64 #[v] w fun e w' => ∃ v' : Value, e = .returned v' ∧ RowU w' w.heap.size v' l ∧ Below w.heap.size w w' := by
 obtain ⟨i0, hi, hz0, hz1, hz2⟩ := info_parts infoU
 have hmk := fun W => run_make (P := Tryz.prog) W 56 64 i0 _ Tryz.underlying56 hi hz0 .i64 .i64 l.length l.length (by omega) (Int.le_refl _) (by rw [hz2]; omega) (by omega)
 simp only [hz1, Int.toNat_natCast] at hmk
 obtain ⟨w1, hr, HR, HB⟩ := run_fillU w 3 v l hs hl #[.int .i64 0, .int .u32 0, .int .i64 0, .int .u32 0, .int .i64 0, .int .u16 0, .int .u16 0, .int .u16 0, .int .u16 0, .int .u8 0, .int .u8 0, .int .i64 0]
 have HR1 : Hid (RowU w1 w.heap.size (.slice (some ⟨w.heap.size, 0, none⟩) l.length l.length) l) := HR
 have HB1 : Hid (Below w.heap.size w w1) := HB
 obtain ⟨ad, cap, rfl, hcap, hat⟩ := hs
 clear hat HR HB hi hz0 hz1 hz2
 go_enter Tryz.func64, Tryz.ntmps64
 go_wp2_with (fail)
 go_ret
 exact ⟨_, rfl, HR1.out, HB1.out⟩
def Tab (w : World) (t : Nat) (v : Value) (M A : Int) (l : List Ru) : Prop :=
 w.heap[t]? = some (.cells #[.int .i64 M, .int .i64 A, v] 104 (0, 0)) ∧ RowU w 0 v l ∧ v.ownBlock ≠ some t
theorem Tab.on {w w1 : World} {t : Nat} {v : Value} {M A : Int} {l : List Ru} (h : Tab w t v M A l) (hb : Below w.heap.size w w1) : Tab w1 t v M A l :=
 ⟨blk_on h.1 hb, h.2.1.on hb, h.2.2⟩
theorem Tab.lt {w : World} {t : Nat} {v : Value} {M A : Int} {l : List Ru} (h : Tab w t v M A l) : t < w.heap.size := blk_lt h.1
theorem Tab.own {w : World} {t : Nat} {v : Value} {M A : Int} {l : List Ru} (h : Tab w t v M A l) {k : Nat} (e : v.ownBlock = some k) : k < w.heap.size := (h.2.1.lt k e).2
structure Moved (w w' : World) (t : Nat) (v v' : Value) : Prop where
 os : w'.os = w.os
 tape : w'.tape = w.tape
 output : w'.output = w.output
 size : w.heap.size ≤ w'.heap.size
 block : ∀ k, k < w.heap.size → k ≠ t → v.ownBlock ≠ some k → w'.heap[k]? = w.heap[k]?
 own : ∀ k, v'.ownBlock = some k → v.ownBlock = some k ∨ w.heap.size ≤ k
theorem Moved.of_below {w w' : World} {t : Nat} {v : Value} (h : Below w.heap.size w w') : Moved w w' t v v :=
 ⟨h.os, h.tape, h.output, h.size, fun k hk _ _ => h.block k hk, fun k e => .inl e⟩
theorem Moved.below {w w' : World} {t B : Nat} {v v' : Value} (h : Moved w w' t v v') (hB : B ≤ w.heap.size) (ht : B ≤ t) (hv : ∀ k, v.ownBlock = some k → B ≤ k) : Below B w w' :=
 ⟨h.os, h.tape, h.output, h.size, fun k hk => h.block k (by omega) (by omega) (fun e => by have := hv k e; omega)⟩
theorem Moved.trans {w w1 w2 : World} {t : Nat} {v v1 v2 : Value} (h : Moved w w1 t v v1) (g : Moved w1 w2 t v1 v2) : Moved w w2 t v v2 :=
 ⟨g.os.trans h.os, g.tape.trans h.tape, g.output.trans h.output, Nat.le_trans h.size g.size, fun k hk ht hv => by
  rw [g.block k (Nat.lt_of_lt_of_le hk h.size) ht (fun e => by rcases h.own k e with h1 | h1
                                                               ·exact hv h1
                                                               ·omega), h.block k hk ht hv], fun k e => by
  rcases g.own k e with h1 | h1
  ·exact h.own k h1
  ·exact .inr (Nat.le_trans h.size h1)⟩
def Kb (w : World) (t : Nat) (v : Value) (B : Nat) (o : Obj) : Prop := w.heap[B]? = some o ∧ B ≠ t ∧ v.ownBlock ≠ some B
theorem Kb.lt {w : World} {t : Nat} {v : Value} {B : Nat} {o : Obj} (h : Kb w t v B o) : B < w.heap.size := blk_lt h.1
theorem Kb.moved {w w' : World} {t : Nat} {v v' : Value} {B : Nat} {o : Obj} (h : Kb w t v B o) (m : Moved w w' t v v') : Kb w' t v' B o := by
 refine ⟨by rw [m.block B h.lt h.2.1 h.2.2]; exact h.1, h.2.1, fun e => ?_⟩
 rcases m.own B e with h1 | h1
 ·exact h.2.2 h1
 ·have := h.lt; omega
theorem Kb.on {w w1 : World} {t : Nat} {v : Value} {B : Nat} {o : Obj} (h : Kb w t v B o) (hb : Below w.heap.size w w1) : Kb w1 t v B o := ⟨blk_on h.1 hb, h.2.1, h.2.2⟩
def Ks (w : World) (t : Nat) (v : Value) (u : Value) (l : List Ru) : Prop := SrcU w u l ∧ ∀ k, u.ownBlock = some k → k < w.heap.size → k ≠ t ∧ v.ownBlock ≠ some k
theorem Ks.moved {w w' : World} {t : Nat} {v v' u : Value} {l : List Ru} (h : Ks w t v u l) (m : Moved w w' t v v') (hz : ∀ k, u.ownBlock = some k → k < w.heap.size) : Ks w' t v' u l :=
 ⟨h.1.stay (fun k e hk => m.block k hk (h.2 k e hk).1 (h.2 k e hk).2), fun k e _ => ⟨(h.2 k e (hz k e)).1, fun e' => by
  rcases m.own k e' with h1 | h1
  ·exact (h.2 k e (hz k e)).2 h1
  ·have := hz k e; omega⟩⟩
set_option maxHeartbeats 1000000 in
theorem newOk (c : Cf) (o : BdC c) (h : okC c = true) (w : World) : Calls Tryz.prog 15 #[.agg #[.int .i64 c.m, .int .i64 c.a, .int .i64 c.p, .int .i64 c.g, .int .i64 c.t, .int .i64 c.b, .int .i64 c.d]] w fun e w' =>
  ∃ t : Nat, e = .returned (.tuple #[.pointer (some ⟨t, 0, none⟩), .int .i64 0]) ∧ Tab w' t (.slice none 0 0) c.m c.a [] ∧ w.heap.size ≤ t ∧ Below w.heap.size w w' := by
 have hC := checkCC c o (w.alloc (.cells #[.int .i64 c.m, .int .i64 c.a, .int .i64 c.p, .int .i64 c.g, .int .i64 c.t, .int .i64 c.b, .int .i64 c.d] 24))
 rw [show errC c = 0 by unfold errC; rw [h]; rfl] at hC
 clear h o
 go_enter Tryz.func15, Tryz.ntmps15
 go_wp2_with (fail)
 refine hC.mono ?_
 rintro e w1 ⟨rfl, hb1⟩
 have HB1 : Hid (Below w.heap.size w w1) := ((Below.refl _ _).alloc (Nat.le_refl _) _).trans (hb1.mono (by simp))
 have x0 : w1.cell? ⟨w.heap.size, 0, none⟩ = some (.int .i64 c.m) := cell_on1 hb1 (blk_cell (blk_new w _) rfl)
 have x1 : w1.cell? ⟨w.heap.size, 1, none⟩ = some (.int .i64 c.a) := cell_on1 hb1 (blk_cell (blk_new w _) rfl)
 clear hb1 hC
 go_wp2_with (fail)
 refine bodyPost_ret (v := .tuple #[.pointer (some ⟨w1.heap.size, 0, none⟩), .int .i64 0]) (by simp [results, Tryz.results15, go_sem]) rfl ?_
 exact ⟨_, rfl, ⟨blk_new w1 _, RowU.nil _ _, by simp [Value.ownBlock]⟩, HB1.out.size, HB1.out.alloc HB1.out.size _⟩
theorem newBad (c : Cf) (o : BdC c) (h : okC c = false) (w : World) : Calls Tryz.prog 15 #[.agg #[.int .i64 c.m, .int .i64 c.a, .int .i64 c.p, .int .i64 c.g, .int .i64 c.t, .int .i64 c.b, .int .i64 c.d]] w fun e w' =>
  e = .returned (.tuple #[.pointer none, .int .i64 110]) ∧ Below w.heap.size w w' := by
 have hC := checkCC c o (w.alloc (.cells #[.int .i64 c.m, .int .i64 c.a, .int .i64 c.p, .int .i64 c.g, .int .i64 c.t, .int .i64 c.b, .int .i64 c.d] 24))
 rw [show errC c = 110 by unfold errC; rw [h]; rfl] at hC
 clear h o
 go_enter Tryz.func15, Tryz.ntmps15
 go_wp2_with (fail)
 refine hC.mono ?_
 rintro e w1 ⟨rfl, hb1⟩
 have HB1 : Hid (Below w.heap.size w w1) := ((Below.refl _ _).alloc (Nat.le_refl _) _).trans (hb1.mono (by simp))
 clear hb1 hC
 go_wp2_with (fail)
 refine bodyPost_ret (v := .tuple #[.pointer none, .int .i64 110]) (by simp [results, Tryz.results15, go_sem]) rfl ?_
 exact ⟨rfl, HB1.out⟩
theorem blk3 {w : World} {B : Nat} {v0 v1 v2 : Value} {t : TypeId} {fr : Nat × Nat} (h : w.heap[B]? = some (.cells #[v0, v1, v2] t fr)) : w.cell? ⟨B, 0, none⟩ = some v0 ∧ w.cell? ⟨B, 1, none⟩ = some v1 ∧ w.cell? ⟨B, 2, none⟩ = some v2 := ⟨blk_cell h rfl, blk_cell h rfl, blk_cell h rfl⟩
theorem findC (t : Nat) (v : Value) (M A : Int) (l : List Ru) (x : Int) (w : World) (h : Tab w t v M A l) (hl : l.length ≤ 200000) :
  Calls Tryz.prog 210 #[.pointer (some ⟨t, 0, none⟩), .int .i64 x] w fun e w' => e = .returned (.int .i64 (fnd l x)) ∧ Below w.heap.size w w' := by
 have hP := placeOfC v l x w h.2.1.src hl
 obtain ⟨c0, c1, c2⟩ := blk3 h.1
 generalize fnd l x = F at *
 obtain ⟨ad, cap, rfl, hcap, hat⟩ := h.2.1.src
 clear hat h
 generalize l.length = n at *
 go_enter Tryz.func210, Tryz.ntmps210
 go_wp2_with (fail)
 refine hP.mono ?_
 rintro e w1 ⟨rfl, hb1⟩
 have HB1 : Hid (Below w.heap.size w w1) := hb1
 clear hb1 hP c0 c1 c2
 go_wp2_with (fail)
 go_ret
 exact ⟨rfl, HB1.out⟩
theorem rulesC (t : Nat) (v : Value) (M A : Int) (l : List Ru) (w : World) (h : Tab w t v M A l) (hl : l.length ≤ 200000) :
  Calls Tryz.prog 47 #[.pointer (some ⟨t, 0, none⟩)] w fun e w' => ∃ v' : Value, e = .returned v' ∧ RowU w' w.heap.size v' l ∧ Below w.heap.size w w' := by
 have hP := copyOfC v l w h.2.1.src hl
 obtain ⟨c0, c1, c2⟩ := blk3 h.1
 obtain ⟨ad, cap, rfl, hcap, hat⟩ := h.2.1.src
 obtain ⟨n, hn⟩ : ∃ n, n = l.length := ⟨_, rfl⟩
 rw [← hn] at hP c2
 clear hat h hn
 go_enter Tryz.func47, Tryz.ntmps47
 go_wp2_with (fail)
 refine hP.mono ?_
 rintro e w1 ⟨v', rfl, hr1, hb1⟩
 have HB1 : Hid (Below w.heap.size w w1) := hb1
 have HR1 : Hid (RowU w1 w.heap.size v' l) := hr1
 clear hb1 hr1 hP c0 c1 c2
 go_wp2_with (fail)
 go_ret
 exact ⟨_, rfl, HR1.out, HB1.out⟩
set_option maxRecDepth 20000 in
set_option maxHeartbeats 2000000 in
theorem at_in (t : Nat) (v : Value) (M A : Int) (l : List Ru) (k : Nat) (w : World) (h : Tab w t v M A l) (hl : l.length ≤ 200000) (hk : k < l.length) (p : Ru) (hp : p = l[k]'hk) :
  Calls Tryz.prog 37 #[.pointer (some ⟨t, 0, none⟩), .int .i64 k] w fun e w' => e = .returned (.tuple #[.agg #[.int .i64 p.i, .int .u32 p.s, .int .i64 p.sl, .int .u32 p.d, .int .i64 p.dl, .int .u16 p.p.1, .int .u16 p.p.2, .int .u16 p.q.1, .int .u16 p.q.2, .int .u8 p.m.1, .int .u8 p.m.2, .int .i64 p.act], .int .i64 0]) ∧ Below w.heap.size w w' := by
 have hA := fun W => amongC (k : Int) 0 ((l.length : Int) - 1) W
 rw [show amg (k : Int) 0 ((l.length : Int) - 1) = true from amg_iff.2 (by omega)] at hA
 have h1 := h.on ((Below.refl _ _).alloc (Nat.le_refl _) (.cells #[.int .i64 0, .int .u32 0, .int .i64 0, .int .u32 0, .int .i64 0, .int .u16 0, .int .u16 0, .int .u16 0, .int .u16 0, .int .u8 0, .int .u8 0, .int .i64 0] 64))
 obtain ⟨c0, c1, c2⟩ := blk3 h1.1
 have hlt := h.lt
 have hne : ¬ t = w.heap.size := by omega
 obtain ⟨ad, cap, rfl, hcap, hat⟩ := h1.2.1.form
 obtain ⟨g, rfl, _, hg, hc⟩ := hat (by omega)
 have hc1 := hc k hk
 rw [← hp] at hc1
 clear hc hat
 obtain ⟨n, hn⟩ : ∃ n, n = l.length := ⟨_, rfl⟩
 rw [← hn] at hA c2 hcap hl hk
 have hlt' : (k : Int) < (n : Int) := by omega
 have hn0 : (n : Int) ≤ 200000 := by omega
 have x0 : (w.alloc (.cells #[.int .i64 0, .int .u32 0, .int .i64 0, .int .u32 0, .int .i64 0, .int .u16 0, .int .u16 0, .int .u16 0, .int .u16 0, .int .u8 0, .int .u8 0, .int .i64 0] 64)).cell? ⟨g, k * 12, none⟩ = some (.int .i64 p.i) := hc1 0 (by decide)
 have x1 : (w.alloc (.cells #[.int .i64 0, .int .u32 0, .int .i64 0, .int .u32 0, .int .i64 0, .int .u16 0, .int .u16 0, .int .u16 0, .int .u16 0, .int .u8 0, .int .u8 0, .int .i64 0] 64)).cell? ⟨g, k * 12 + 1, none⟩ = some (.int .u32 p.s) := hc1 1 (by decide)
 have x2 : (w.alloc (.cells #[.int .i64 0, .int .u32 0, .int .i64 0, .int .u32 0, .int .i64 0, .int .u16 0, .int .u16 0, .int .u16 0, .int .u16 0, .int .u8 0, .int .u8 0, .int .i64 0] 64)).cell? ⟨g, k * 12 + 2, none⟩ = some (.int .i64 p.sl) := hc1 2 (by decide)
 have x3 : (w.alloc (.cells #[.int .i64 0, .int .u32 0, .int .i64 0, .int .u32 0, .int .i64 0, .int .u16 0, .int .u16 0, .int .u16 0, .int .u16 0, .int .u8 0, .int .u8 0, .int .i64 0] 64)).cell? ⟨g, k * 12 + 3, none⟩ = some (.int .u32 p.d) := hc1 3 (by decide)
 have x4 : (w.alloc (.cells #[.int .i64 0, .int .u32 0, .int .i64 0, .int .u32 0, .int .i64 0, .int .u16 0, .int .u16 0, .int .u16 0, .int .u16 0, .int .u8 0, .int .u8 0, .int .i64 0] 64)).cell? ⟨g, k * 12 + 4, none⟩ = some (.int .i64 p.dl) := hc1 4 (by decide)
 have x5 : (w.alloc (.cells #[.int .i64 0, .int .u32 0, .int .i64 0, .int .u32 0, .int .i64 0, .int .u16 0, .int .u16 0, .int .u16 0, .int .u16 0, .int .u8 0, .int .u8 0, .int .i64 0] 64)).cell? ⟨g, k * 12 + 5, none⟩ = some (.int .u16 p.p.1) := hc1 5 (by decide)
 have x6 : (w.alloc (.cells #[.int .i64 0, .int .u32 0, .int .i64 0, .int .u32 0, .int .i64 0, .int .u16 0, .int .u16 0, .int .u16 0, .int .u16 0, .int .u8 0, .int .u8 0, .int .i64 0] 64)).cell? ⟨g, k * 12 + 6, none⟩ = some (.int .u16 p.p.2) := hc1 6 (by decide)
 have x7 : (w.alloc (.cells #[.int .i64 0, .int .u32 0, .int .i64 0, .int .u32 0, .int .i64 0, .int .u16 0, .int .u16 0, .int .u16 0, .int .u16 0, .int .u8 0, .int .u8 0, .int .i64 0] 64)).cell? ⟨g, k * 12 + 7, none⟩ = some (.int .u16 p.q.1) := hc1 7 (by decide)
 have x8 : (w.alloc (.cells #[.int .i64 0, .int .u32 0, .int .i64 0, .int .u32 0, .int .i64 0, .int .u16 0, .int .u16 0, .int .u16 0, .int .u16 0, .int .u8 0, .int .u8 0, .int .i64 0] 64)).cell? ⟨g, k * 12 + 8, none⟩ = some (.int .u16 p.q.2) := hc1 8 (by decide)
 have x9 : (w.alloc (.cells #[.int .i64 0, .int .u32 0, .int .i64 0, .int .u32 0, .int .i64 0, .int .u16 0, .int .u16 0, .int .u16 0, .int .u16 0, .int .u8 0, .int .u8 0, .int .i64 0] 64)).cell? ⟨g, k * 12 + 9, none⟩ = some (.int .u8 p.m.1) := hc1 9 (by decide)
 have x10 : (w.alloc (.cells #[.int .i64 0, .int .u32 0, .int .i64 0, .int .u32 0, .int .i64 0, .int .u16 0, .int .u16 0, .int .u16 0, .int .u16 0, .int .u8 0, .int .u8 0, .int .i64 0] 64)).cell? ⟨g, k * 12 + 10, none⟩ = some (.int .u8 p.m.2) := hc1 10 (by decide)
 have x11 : (w.alloc (.cells #[.int .i64 0, .int .u32 0, .int .i64 0, .int .u32 0, .int .i64 0, .int .u16 0, .int .u16 0, .int .u16 0, .int .u16 0, .int .u8 0, .int .u8 0, .int .i64 0] 64)).cell? ⟨g, k * 12 + 11, none⟩ = some (.int .i64 p.act) := hc1 11 (by decide)
 clear hp hc1 h h1 hn
 have hZZ := blk_new w (.cells #[.int .i64 0, .int .u32 0, .int .i64 0, .int .u32 0, .int .i64 0, .int .u16 0, .int .u16 0, .int .u16 0, .int .u16 0, .int .u8 0, .int .u8 0, .int .i64 0] 64)
 have HB0 : Hid (Below w.heap.size w (w.alloc (.cells #[.int .i64 0, .int .u32 0, .int .i64 0, .int .u32 0, .int .i64 0, .int .u16 0, .int .u16 0, .int .u16 0, .int .u16 0, .int .u8 0, .int .u8 0, .int .i64 0] 64))) := (Below.refl _ _).alloc (Nat.le_refl _) _
 go_enter Tryz.func37, Tryz.ntmps37
 go_upto_region 1 with (fail)
 generalize w.alloc (.cells #[.int .i64 0, .int .u32 0, .int .i64 0, .int .u32 0, .int .i64 0, .int .u16 0, .int .u16 0, .int .u16 0, .int .u16 0, .int .u8 0, .int .u8 0, .int .i64 0] 64) = W0 at *
 go_wp2_with (fail)
 refine (hA _).mono ?_
 rintro e w1 ⟨rfl, hw⟩
 obtain rfl := hw.symm
 clear hw
 go_wp2_with (refine wpList_store_blk rfl 64 (.tmp 4) (.tmp 25) rfl w.heap.size 0 #[.int .i64 p.i, .int .u32 p.s, .int .i64 p.sl, .int .u32 p.d, .int .i64 p.dl, .int .u16 p.p.1, .int .u16 p.p.2, .int .u16 p.q.1, .int .u16 p.q.2, .int .u8 p.m.1, .int .u8 p.m.2, .int .i64 p.act] #[.int .i64 p.i, .int .u32 p.s, .int .i64 p.sl, .int .u32 p.d, .int .i64 p.dl, .int .u16 p.p.1, .int .u16 p.p.2, .int .u16 p.q.1, .int .u16 p.q.2, .int .u8 p.m.1, .int .u8 p.m.2, .int .i64 p.act] rfl rfl 64 _ hZZ (Nat.le_of_ble_eq_true rfl) rfl (by kernel_rfl) rfl ?_; intro w8 hw8 how8)
 exact bodyPost_ret (results_blk2 Tryz.results37 rfl hw8 Tryz.underlying64 rfl (by kernel_rfl)) rfl ⟨rfl, HB0.out.trans (how8.below (Nat.le_refl _))⟩
end Go.Proofs.YtgokmkholjfhbaaGreat

