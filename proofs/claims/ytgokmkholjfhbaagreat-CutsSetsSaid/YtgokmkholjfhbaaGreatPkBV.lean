/-
  PkBV: CqK CqLd CqLe, one behind the other (tools/pack.py).
-/
import Derived.Test.YtgokmkholjfhbaaGreatPkBO
import Derived.Test.YtgokmkholjfhbaaGreatPkAE
set_option linter.unusedVariables false
set_option linter.unusedSimpArgs false
namespace Go.Proofs.YtgokmkholjfhbaaGreat
open Go.RowKit
theorem wpQuiet_load_mid {P : Program} {ops : Array Oper} {C : World → Prop} {Q : Act → Prop} {rest : List Oper} {op : Oper} {a : Act} (hgd : op.guard = none) (ty : TypeId) (x : Operand) (ho : op.op = .load ty x)
  (B o : Nat) (cs : Array Value) (hx : a.eval x = .pointer (some ⟨B, o, none⟩)) (h : ∀ w, C w → w.rangeAt B o cs.toList) {d : TypeDesc} (hu : P.underlying ty = some d) (hd : d.isRow = true) (hi : (P.info? ty).map (·.size) = some cs.size)
  (hk : wpQuiet P ops C Q rest (a.put op.dst (.agg cs))) : wpQuiet P ops C Q (op :: rest) a := by
 have hw : Region.wanted op (yielded ops a.tmps) = true := by unfold Region.wanted; rw [hgd]
 unfold wpQuiet
 rw [if_pos hw]
 refine ⟨_, fun w hw => ?_, hk⟩
 have hl := run_loadVar_mid (P := P) w B o ty cs.toList d (h w hw) hu hd (by simpa using hi)
 unfold Oper.quietAt execOp
 simp only [ho, hx, Instr.loadAt, Instr.sureAddr, Sem.run_bind, Sem.run_pure, Result.andThen_ok, hl]
 exact ⟨rfl, rfl⟩
theorem range_on {w w1 : World} (hb : Below w.heap.size w w1) {B o : Nat} {cs : List Value} (h : w.rangeAt B o cs) : w1.rangeAt B o cs := fun j v hv => cell_on1 hb (h j v hv)
theorem range_kin {W : World} {B o : Nat} {cs : List Value} (h : W.rangeAt B o cs) : ∀ w', (∃ x : Kin W, w' = x.val) → w'.rangeAt B o cs := fun w' ⟨x, hx⟩ => by rw [hx]; exact range_on x.is h
theorem SrcU.rng {w : World} {ad : Option Addr} {n cap : Nat} {l : List Ru} (h : SrcU w (.slice ad n cap) l) : n = l.length ∧ (∀ W, Below w.heap.size w W → ∀ k (hk : k < l.length), ∃ g off, ad = some ⟨g, off, none⟩ ∧ W.rangeAt g (off + k * 12) (encU (l[k]'hk))) := by
 obtain ⟨ad', cap', e, hc, h2⟩ := h
 obtain ⟨rfl, e2, rfl⟩ : ad = ad' ∧ n = l.length ∧ cap = cap' := by cases e; exact ⟨rfl, rfl, rfl⟩
 refine ⟨e2, fun W hb k hk => ?_⟩
 obtain ⟨g, off, e, h3⟩ := h2 (by omega)
 refine ⟨g, off, e, fun j u hu => ?_⟩
 have hj : j < 12 := by
  have := (List.getElem?_eq_some_iff.1 hu).1
  simpa [encU] using this
 have := h3 k hk j hj
 rw [show off + k * 12 + j = off + (k * 12 + j) by omega]
 exact cell_on1 hb (this.trans hu)
theorem infoXU : (Tryz.prog.info? 64).map (·.size) = some 12 := by kernel_rfl
set_option maxRecDepth 20000 in
set_option maxHeartbeats 8000000 in
theorem keepSame (v u : Value) (l : List Ru) (w : World) (hv : SrcU w v l) (hu : SrcU w u l) (hl : l.length ≤ 16777216) :
  Calls Tryz.prog 42 #[v, u] w fun e w' => e = .returned (.bool true) ∧ Below w.heap.size w w' := by
 obtain ⟨ad, cap, rfl, hc1, _⟩ := id hv
 obtain ⟨ad2, cap2, rfl, hc2, _⟩ := id hu
 obtain ⟨_, r1⟩ := hv.rng
 obtain ⟨_, r2⟩ := hu.rng
 have HR1 : Hid _ := r1
 have HR2 : Hid _ := r2
 obtain ⟨n, hn⟩ : ∃ n, n = l.length := ⟨_, rfl⟩
 have Hn : Hid (n = l.length) := hn
 rw [← hn] at hl hc1 hc2 ⊢
 have hn0 : (n : Int) ≤ 16777216 := by omega
 clear hv hu r1 r2 hn
 go_enter Tryz.func42, Tryz.ntmps42
 go_upto_region 4 with (fail)
 go_loopw [5] (fun i wr => ∃ k : Nat, k ≤ n ∧ i = .int .i64 k ∧ Hid (Below w.heap.size w wr)) (fun i _ => n - (intOf i).toNat)
 case atStart => exact ⟨0, Nat.zero_le _, rfl, Below.refl _ _⟩
 case round =>
  obtain ⟨k, hk, rfl, HB⟩ := hrel
  by_cases hlt : k < n
  ·have hkl : k < l.length := by rw [← Hn.out]; exact hlt
   obtain ⟨g, off, rfl, hg⟩ := HR1.out wr HB.out k hkl
   obtain ⟨g2, off2, rfl, hg2⟩ := HR2.out wr HB.out k hkl
   have hlt' : (k : Int) < (n : Int) := by omega
   have hE : ∀ W : World, Sem.run Tryz.prog (binOp .neq 64 (.agg (encU (l[k]'hkl)).toArray) (.agg (encU (l[k]'hkl)).toArray)) W = .ok (.bool false) W := fun W => by
    exact neR_self (l[k]'hkl) W
   have hi : (Tryz.prog.info? 64).map (·.size) = some (encU (l[k]'hkl)).toArray.size := infoXU
   have hg' : wr.rangeAt g (off + k * 12) (encU (l[k]'hkl)).toArray.toList := hg
   have hg2' : wr.rangeAt g2 (off2 + k * 12) (encU (l[k]'hkl)).toArray.toList := hg2
   clear hg hg2
   generalize (encU (l[k]'hkl)).toArray = A at *
   have H1 : Hid _ := hg'
   have H2 : Hid _ := hg2'
   have Hi : Hid _ := hi
   clear hg' hg2' hi
   go_upto_region 6 with (fail)
   have kne : Nonempty (Kin wr) := ⟨⟨_, Below.refl _ _⟩⟩
   refine wp_region_kin wr (Below.refl _ _) (by kernel_rfl) (by kernel_rfl) ?_
   iterate 3 (go_big_quiet_step (fail))
   refine wpQuiet_load_mid rfl 64 (.tmp 19) rfl g (off + k * 12) A rfl (range_kin H1.out) Tryz.underlying64 rfl Hi.out ?_
   simp only [nrm]
   iterate 3 (go_big_quiet_step (fail))
   refine wpQuiet_load_mid rfl 64 (.tmp 23) rfl g2 (off2 + k * 12) A rfl (range_kin H2.out) Tryz.underlying64 rfl Hi.out ?_
   simp only [nrm]
   go_big_quiet_step (fail)
   refine wpQuiet_nil ?_
   rintro wq ⟨⟨xq, hxq⟩, hyq⟩
   have HQ : Hid (Below w.heap.size w wq) := by show Below _ _ _; rw [hyq]; exact HB.out.trans (hxq.mono HB.out.size)
   clear hyq hxq xq kne HB hE H1 H2 Hi
   go_wp2_with (fail)
   go_roundw
   case rel => exact ⟨k + 1, by omega, by go_num, HQ.out⟩
   case measure => simp [intOf]; omega
  ·obtain rfl : k = n := by omega
   go_wp2_with (fail)
   go_ret
   exact ⟨rfl, HB.out⟩
def mkR (k : Nat) : Ru := ⟨-7 - (k : Int), 0, 0, 0, 0, (0, 0), (0, 0), (0, 0), 77⟩
theorem markC (k : Nat) (hk : k ≤ 100) (w : World) : Calls Tryz.prog 41 #[.int .i64 k] w fun e w' => e = .returned (.agg #[.int .i64 (mkR k).i, .int .u32 ((mkR k).s : Int), .int .i64 (mkR k).sl, .int .u32 ((mkR k).d : Int), .int .i64 (mkR k).dl, .int .u16 ((mkR k).p.1 : Int), .int .u16 ((mkR k).p.2 : Int), .int .u16 ((mkR k).q.1 : Int), .int .u16 ((mkR k).q.2 : Int), .int .u8 ((mkR k).m.1 : Int), .int .u8 ((mkR k).m.2 : Int), .int .i64 (mkR k).act]) ∧ Below w.heap.size w w' := by
 have hk0 : (k : Int) ≤ 100 := by omega
 have hw : IntKind.i64.wrap (-7 - (k : Int)) = -7 - (k : Int) := by rw [IntKind.wrap_i64]; omega
 go_enter Tryz.func41, Tryz.ntmps41
 go_wp2_with (fail)
 exact bodyPost_ret (results_blk Tryz.results41 rfl (blk_new w _) Tryz.underlying64 rfl (by kernel_rfl)) rfl ⟨rfl, (Below.refl _ _).alloc (Nat.le_refl _) _⟩
theorem wpList_storeU {ops : Array Oper} {rest : List Oper} {o : Oper} {a : Act} {w : World} {Q : Exit → Act → World → Prop} (hgd : o.guard = none) (x y : Operand) (ho : o.op = .store 64 x y)
  (b g n cap : Nat) (l : List Ru) (hr : RowU w b (.slice (some ⟨g, 0, none⟩) n cap) l) (p : Nat) (hp : p < n) (R : Ru) (hx : a.eval x = .pointer (some ⟨g, p * 12, none⟩)) (hy : a.eval y = .agg #[.int .i64 R.i, .int .u32 R.s, .int .i64 R.sl, .int .u32 R.d, .int .i64 R.dl, .int .u16 R.p.1, .int .u16 R.p.2, .int .u16 R.q.1, .int .u16 R.q.2, .int .u8 R.m.1, .int .u8 R.m.2, .int .i64 R.act])
  (hK : ∀ w', RowU w' b (.slice (some ⟨g, 0, none⟩) n cap) (l.take p ++ [R] ++ l.drop (p + [R].length)) → w.grownBy w' (some g) → wpList Tryz.prog ops Q rest (a.put o.dst undef) w') : wpList Tryz.prog ops Q (o :: rest) a w :=
 wpList_plain hgd fun K hK' => wp_storeU x y ho b g n cap l hr p hp R hx hy fun w' h1 h2 => hK' _ _ (hK w' h1 h2)
theorem grown_on {w w1 w2 : World} {g : Nat} (hg : w.grownBy w1 (some g)) (hb : Below w1.heap.size w1 w2) : w.grownBy w2 (some g) :=
 ⟨hb.os.trans hg.os, hb.tape.trans hg.tape, hb.output.trans hg.output, Nat.le_trans hg.size hb.size, fun k hk hne => by rw [hb.block k (Nat.lt_of_lt_of_le hk hg.size), hg.block k hk hne]⟩
theorem grown_trans {w w1 w2 : World} {g : Nat} (h1 : w.grownBy w1 (some g)) (h2 : w1.grownBy w2 (some g)) : w.grownBy w2 (some g) := World.grownBy.trans h1 h2
theorem made_rowU (w : World) (m : Nat) (hm : m ≤ 300000) : RowU (w.alloc (.cells (madeCells #[.int .i64 0, .int .u32 0, .int .i64 0, .int .u32 0, .int .i64 0, .int .u16 0, .int .u16 0, .int .u16 0, .int .u16 0, .int .u8 0, .int .u8 0, .int .i64 0] (m * 12)) 64)) w.heap.size (.slice (some ⟨w.heap.size, 0, none⟩) m m) (List.replicate m ruZ) := by
 have hl : (List.replicate m ruZ).length = m := List.length_replicate
 refine ⟨flatU_length _, .inr ⟨w.heap.size, m, _, by rw [hl], Nat.le_refl _, blk_new w _, by rw [hl]; exact Nat.le_refl _, by unfold maxLen; omega, size_madeCells _ _, ?_⟩⟩
 rw [hl]
 apply List.ext_getElem?
 intro i
 by_cases hi : i < m * 12
 ·have h1 : i / 12 < (List.replicate m ruZ).length := by rw [hl]; omega
  have h2 := flatU_at (List.replicate m ruZ) (i / 12) h1 (i % 12) (Nat.mod_lt _ (by decide))
  rw [show i / 12 * 12 + i % 12 = i by omega, List.getElem_replicate] at h2
  rw [h2, List.getElem?_take, if_pos hi]
  have hj : i % 12 < 12 := Nat.mod_lt _ (by decide)
  simp only [madeCells, Array.toList_map, Array.toList_range, List.getElem?_map, List.getElem?_range hi, Option.map_some]
  show some ((#[.int .i64 0, .int .u32 0, .int .i64 0, .int .u32 0, .int .i64 0, .int .u16 0, .int .u16 0, .int .u16 0, .int .u16 0, .int .u8 0, .int .u8 0, .int .i64 0] : Array Value)[i % 12]!) = _
  generalize i % 12 = j at hj
  match j, hj with
  | 0, _ => rfl
  | 1, _ => rfl
  | 2, _ => rfl
  | 3, _ => rfl
  | 4, _ => rfl
  | 5, _ => rfl
  | 6, _ => rfl
  | 7, _ => rfl
  | 8, _ => rfl
  | 9, _ => rfl
  | 10, _ => rfl
  | 11, _ => rfl
 ·rw [List.getElem?_eq_none (by rw [List.length_take]; omega), List.getElem?_eq_none (by rw [flatU_length, hl]; omega)]
def Lent (w : World) (x : Value) (l : List Ru) (g : Nat) : Prop := x = .slice (some ⟨g, 0, none⟩) l.length (l.length + 2) ∧ RowU w 0 (.slice (some ⟨g, 0, none⟩) (l.length + 2) (l.length + 2)) (l ++ [mkR 0, mkR 1])
theorem Lent.src {w : World} {x : Value} {l : List Ru} {g : Nat} (h : Lent w x l g) : SrcU w x l := by
 have h1 := h.2.src.cut 0 l.length (Nat.zero_le _) (by simp)
 rw [cutU_zero, List.drop_zero, List.take_left] at h1
 rw [h.1]; exact h1
set_option maxRecDepth 20000 in
set_option maxHeartbeats 4000000 in
theorem lendC (u : Value) (l : List Ru) (w : World) (hs : SrcU w u l) (hl : l.length ≤ 200000) :
  Calls Tryz.prog 28 #[u] w fun e w' => ∃ x g, e = .returned x ∧ Lent w' x l g ∧ w.heap.size ≤ g ∧ g < w'.heap.size ∧ Below w.heap.size w w' := by
 have hM0 : ∀ W, Calls Tryz.prog 41 #[.int .i64 0] W fun e w' => e = .returned (.agg #[.int .i64 (mkR 0).i, .int .u32 ((mkR 0).s : Int), .int .i64 (mkR 0).sl, .int .u32 ((mkR 0).d : Int), .int .i64 (mkR 0).dl, .int .u16 ((mkR 0).p.1 : Int), .int .u16 ((mkR 0).p.2 : Int), .int .u16 ((mkR 0).q.1 : Int), .int .u16 ((mkR 0).q.2 : Int), .int .u8 ((mkR 0).m.1 : Int), .int .u8 ((mkR 0).m.2 : Int), .int .i64 (mkR 0).act]) ∧ Below W.heap.size W w' := fun W => markC 0 (by decide) W
 have hM1 : ∀ W, Calls Tryz.prog 41 #[.int .i64 1] W fun e w' => e = .returned (.agg #[.int .i64 (mkR 1).i, .int .u32 ((mkR 1).s : Int), .int .i64 (mkR 1).sl, .int .u32 ((mkR 1).d : Int), .int .i64 (mkR 1).dl, .int .u16 ((mkR 1).p.1 : Int), .int .u16 ((mkR 1).p.2 : Int), .int .u16 ((mkR 1).q.1 : Int), .int .u16 ((mkR 1).q.2 : Int), .int .u8 ((mkR 1).m.1 : Int), .int .u8 ((mkR 1).m.2 : Int), .int .i64 (mkR 1).act]) ∧ Below W.heap.size W w' := fun W => markC 1 (by decide) W
 obtain ⟨i0, hi, hz0, hz1, hz2⟩ := info_parts infoU
 have hmk := fun W => run_make (P := Tryz.prog) W 56 64 i0 _ Tryz.underlying56 hi hz0 .i64 .i64 ((l.length : Int) + 2) ((l.length : Int) + 2) (by omega) (Int.le_refl _) (by rw [hz2]; omega) (by omega)
 simp only [hz1, show ((l.length : Int) + 2).toNat = l.length + 2 by omega] at hmk
 have hrow := made_rowU w (l.length + 2) (by omega)
 have hs1 := hs.keep ((Below.refl _ _).alloc (Nat.le_refl _) (.cells (madeCells #[.int .i64 0, .int .u32 0, .int .i64 0, .int .u32 0, .int .i64 0, .int .u16 0, .int .u16 0, .int .u16 0, .int .u16 0, .int .u8 0, .int .u8 0, .int .i64 0] ((l.length + 2) * 12)) 64))
 obtain ⟨w1, hr, hrow1, hgr1⟩ := run_copyU _ 3 0 w.heap.size (l.length + 2) (l.length + 2) _ (hrow.base (Nat.zero_le _)) 0 (Nat.zero_le _) u l hs1
 have el : (List.replicate (l.length + 2) ruZ).take 0 ++ l.take (l.length + 2 - 0) ++ (List.replicate (l.length + 2) ruZ).drop (0 + (l.take (l.length + 2 - 0)).length) = l ++ [ruZ, ruZ] := by
  rw [List.take_of_length_le (l := l) (by omega), Nat.zero_add, List.drop_replicate, show l.length + 2 - l.length = 2 by omega]
  rfl
 rw [el] at hrow1
 rw [cutU_zero, show Nat.min l.length (l.length + 2 - 0) = l.length from Nat.min_eq_left (by omega)] at hr
 have HB1 : Hid (Below w.heap.size w w1) := ((Below.refl _ _).alloc (Nat.le_refl _) _).grown hgr1 (by simp) (fun k hk => by simp at hk; omega)
 have HR1 : Hid (RowU w1 0 (.slice (some ⟨w.heap.size, 0, none⟩) (l.length + 2) (l.length + 2)) (l ++ [ruZ, ruZ])) := hrow1
 have Hlt : Hid (w.heap.size < w1.heap.size) := (hrow1.lt w.heap.size rfl).2
 have HL3 : Hid ((l ++ [ruZ, ruZ]).take l.length ++ [mkR 0] ++ (l ++ [ruZ, ruZ]).drop (l.length + [mkR 0].length) = l ++ [mkR 0, ruZ]) := by
  show _ = _
  rw [List.take_left, show l.length + [mkR 0].length = l.length + 1 from rfl, List.drop_append, List.drop_eq_nil_of_le (by omega)]
  simp
 have HL4 : Hid ((l ++ [mkR 0, ruZ]).take (l.length + 1) ++ [mkR 1] ++ (l ++ [mkR 0, ruZ]).drop (l.length + 1 + [mkR 1].length) = l ++ [mkR 0, mkR 1]) := by
  show _ = _
  have hdn : (l ++ [mkR 0, ruZ]).drop (l.length + 2) = [] := List.drop_eq_nil_of_le (by simp)
  rw [show l.length + 1 + [mkR 1].length = l.length + 2 from rfl, List.take_append, List.take_of_length_le (l := l) (by omega), hdn]
  simp
 have HF : Hid (∀ w', RowU w' 0 (.slice (some ⟨w.heap.size, 0, none⟩) (l.length + 2) (l.length + 2)) (l ++ [mkR 0, mkR 1]) → Lent w' (.slice (some ⟨w.heap.size, 0, none⟩) l.length (l.length + 2)) l w.heap.size) := fun w' h => ⟨rfl, h⟩
 obtain ⟨ad, cap, rfl, hcap, hat⟩ := hs
 obtain ⟨n, hn⟩ : ∃ n, n = l.length := ⟨_, rfl⟩
 have Hn : Hid (n = l.length) := hn
 rw [← hn] at hl hcap hmk hr HR1 HL3 HL4 HF
 have hcz : ∀ W, (Instr.sliceAt 56 (.slice (some ⟨w.heap.size, 0, none⟩) (n + 2) (n + 2)) none (some (.int .i64 n)) none).run Tryz.prog W = .ok (.slice (some ⟨w.heap.size, 0, none⟩) n (n + 2)) W := fun W => cut_h' W _ (n + 2) (n + 2) n _ rfl (by omega)
 rw [← hn]
 clear hat hrow hs1 hrow1 hgr1 el hi hz0 hz1 hz2 hn
 generalize mkR 0 = M0 at *
 generalize mkR 1 = M1 at *
 have hn0 : (n : Int) ≤ 200000 := by omega
 have hw2 : IntKind.i64.wrap ((n : Int) + 2) = (n : Int) + 2 := by rw [IntKind.wrap_i64]; omega
 have hw1 : IntKind.i64.wrap ((n : Int) + 1) = (n : Int) + 1 := by rw [IntKind.wrap_i64]; omega
 go_enter Tryz.func28, Tryz.ntmps28
 go_wp2_with (fail)
 refine (hM0 _).mono ?_
 rintro e W1 ⟨rfl, hb⟩
 have HB2 : Hid (Below w.heap.size w W1) := HB1.out.trans (hb.mono HB1.out.size)
 have HR2 : Hid (RowU W1 0 (.slice (some ⟨w.heap.size, 0, none⟩) (n + 2) (n + 2)) (l ++ [ruZ, ruZ])) := HR1.out.on hb
 have Hlt2 : Hid (w.heap.size < W1.heap.size) := Nat.lt_of_lt_of_le Hlt.out hb.size
 clear hb HB1 HR1 Hlt
 go_wp2_with (refine wpList_storeU rfl (.tmp 15) (.tmp 14) rfl 0 w.heap.size (n + 2) (n + 2) _ HR2.out n (by omega) M0 rfl rfl ?_; intro w3 hr3 hg3)
 rw [HL3.out] at hr3
 have HR3 : Hid (RowU w3 0 (.slice (some ⟨w.heap.size, 0, none⟩) (n + 2) (n + 2)) (l ++ [M0, ruZ])) := hr3
 have HB3 : Hid (Below w.heap.size w w3) := HB2.out.grown hg3 (by have := HB2.out.size; omega) (fun k hk => by simp at hk; omega)
 have Hlt3 : Hid (w.heap.size < w3.heap.size) := Nat.lt_of_lt_of_le Hlt2.out hg3.size
 clear hr3 hg3 HB2 HR2 Hlt2 HL3
 refine (hM1 _).mono ?_
 rintro e W4 ⟨rfl, hb⟩
 have HB4 : Hid (Below w.heap.size w W4) := HB3.out.trans (hb.mono HB3.out.size)
 have HR4 : Hid (RowU W4 0 (.slice (some ⟨w.heap.size, 0, none⟩) (n + 2) (n + 2)) (l ++ [M0, ruZ])) := HR3.out.on hb
 have Hlt4 : Hid (w.heap.size < W4.heap.size) := Nat.lt_of_lt_of_le Hlt3.out hb.size
 clear hb HB3 HR3 Hlt3
 go_wp2_with (refine wpList_storeU rfl (.tmp 21) (.tmp 20) rfl 0 w.heap.size (n + 2) (n + 2) _ HR4.out (n + 1) (by omega) M1 rfl rfl ?_; intro w5 hr5 hg5)
 rw [HL4.out] at hr5
 have HR5 : Hid (RowU w5 0 (.slice (some ⟨w.heap.size, 0, none⟩) (n + 2) (n + 2)) (l ++ [M0, M1])) := hr5
 have HB5 : Hid (Below w.heap.size w w5) := HB4.out.grown hg5 (by have := HB4.out.size; omega) (fun k hk => by simp at hk; omega)
 have Hlt5 : Hid (w.heap.size < w5.heap.size) := Nat.lt_of_lt_of_le Hlt4.out hg5.size
 clear hr5 hg5 HB4 HR4 Hlt4 HL4
 refine bodyPost_ret (v := .slice (some ⟨w.heap.size, 0, none⟩) n (n + 2)) (by simp [results, Tryz.results28, go_sem]) rfl ?_
 exact ⟨_, _, rfl, HF.out _ HR5.out, Nat.le_refl _, Hlt5.out, HB5.out⟩
theorem rowU_rng {w : World} {b g n cap : Nat} {l : List Ru} (h : RowU w b (.slice (some ⟨g, 0, none⟩) n cap) l) (k : Nat) (hk : k < l.length) : w.rangeAt g (k * 12) (encU (l[k]'hk)) := by
 obtain ⟨_, r⟩ := h.src.rng
 obtain ⟨g', off, e, hr⟩ := r w (Below.refl _ _) k hk
 cases e
 simpa using hr
theorem wpQuiet_load_midG {P : Program} {ops : Array Oper} {C : World → Prop} {Q : Act → Prop} {rest : List Oper} {op : Oper} {a : Act} (hw : Region.wanted op (yielded ops a.tmps) = true) (ty : TypeId) (x : Operand) (ho : op.op = .load ty x)
  (B o : Nat) (cs : Array Value) (hx : a.eval x = .pointer (some ⟨B, o, none⟩)) (h : ∀ w, C w → w.rangeAt B o cs.toList) {d : TypeDesc} (hu : P.underlying ty = some d) (hd : d.isRow = true) (hi : (P.info? ty).map (·.size) = some cs.size)
  (hk : wpQuiet P ops C Q rest (a.put op.dst (.agg cs))) : wpQuiet P ops C Q (op :: rest) a := by
 unfold wpQuiet
 rw [if_pos hw]
 refine ⟨_, fun w hw => ?_, hk⟩
 have hl := run_loadVar_mid (P := P) w B o ty cs.toList d (h w hw) hu hd (by simpa using hi)
 unfold Oper.quietAt execOp
 simp only [ho, hx, Instr.loadAt, Instr.sureAddr, Sem.run_bind, Sem.run_pure, Result.andThen_ok, hl]
 exact ⟨rfl, rfl⟩
set_option maxRecDepth 20000 in
set_option maxHeartbeats 8000000 in
theorem backC (u x : Value) (l : List Ru) (g : Nat) (w : World) (hx : Lent w x l g) (hu : SrcU w u l) (hl : l.length ≤ 200000) :
  Calls Tryz.prog 29 #[x, u] w fun e w' => e = .returned (.bool true) ∧ w.grownBy w' (some g) := by
 have hM0 : ∀ W, Calls Tryz.prog 41 #[.int .i64 0] W fun e w' => e = .returned (.agg (encU (mkR 0)).toArray) ∧ Below W.heap.size W w' := fun W => markC 0 (by decide) W
 have hM1 : ∀ W, Calls Tryz.prog 41 #[.int .i64 1] W fun e w' => e = .returned (.agg (encU (mkR 1)).toArray) ∧ Below W.heap.size W w' := fun W => markC 1 (by decide) W
 have hM : ∀ W, Calls Tryz.prog 41 #[.int .i64 5] W fun e w' => e = .returned (.agg #[.int .i64 (mkR 5).i, .int .u32 ((mkR 5).s : Int), .int .i64 (mkR 5).sl, .int .u32 ((mkR 5).d : Int), .int .i64 (mkR 5).dl, .int .u16 ((mkR 5).p.1 : Int), .int .u16 ((mkR 5).p.2 : Int), .int .u16 ((mkR 5).q.1 : Int), .int .u16 ((mkR 5).q.2 : Int), .int .u8 ((mkR 5).m.1 : Int), .int .u8 ((mkR 5).m.2 : Int), .int .i64 (mkR 5).act]) ∧ Below W.heap.size W w' := fun W => markC 5 (by decide) W
 have hS : ∀ W, Below w.heap.size w W → Calls Tryz.prog 42 #[x, u] W fun e w' => e = .returned (.bool true) ∧ Below W.heap.size W w' := fun W hb => keepSame x u l W (hx.src.keep hb) (hu.keep hb) (by omega)
 obtain ⟨rfl, hr⟩ := hx
 have hr0 := rowU_rng hr l.length (by simp)
 have hr1 := rowU_rng hr (l.length + 1) (by simp)
 simp only [List.getElem_append_right (Nat.le_refl l.length), Nat.sub_self, List.getElem_cons_zero] at hr0
 have e1 : (l ++ [mkR 0, mkR 1])[l.length + 1]'(by simp) = mkR 1 := by simp
 rw [e1] at hr1
 have hE0 : ∀ W : World, Sem.run Tryz.prog (binOp .eql 64 (.agg (encU (mkR 0)).toArray) (.agg (encU (mkR 0)).toArray)) W = .ok (.bool true) W := fun W => eqR_self (mkR 0) W
 have hE1 : ∀ W : World, Sem.run Tryz.prog (binOp .eql 64 (.agg (encU (mkR 1)).toArray) (.agg (encU (mkR 1)).toArray)) W = .ok (.bool true) W := fun W => eqR_self (mkR 1) W
 have hi0 : (Tryz.prog.info? 64).map (·.size) = some (encU (mkR 0)).toArray.size := infoXU
 have hi1 : (Tryz.prog.info? 64).map (·.size) = some (encU (mkR 1)).toArray.size := infoXU
 have hr0' : w.rangeAt g (l.length * 12) (encU (mkR 0)).toArray.toList := hr0
 have hr1' : w.rangeAt g ((l.length + 1) * 12) (encU (mkR 1)).toArray.toList := hr1
 clear hr0 hr1 e1
 obtain ⟨L, hL⟩ : ∃ L, L = l ++ [mkR 0, mkR 1] := ⟨_, rfl⟩
 rw [← hL] at hr
 clear hL
 generalize (encU (mkR 0)).toArray = A0 at *
 generalize (encU (mkR 1)).toArray = A1 at *
 generalize mkR 5 = R at *
 obtain ⟨ad, cap, rfl, hcap, hat⟩ := hu
 clear hat
 generalize l.length = n at *
 have HR : Hid (RowU w 0 (.slice (some ⟨g, 0, none⟩) (n + 2) (n + 2)) L) := hr
 have H1 : Hid _ := hr0'
 have H2 : Hid _ := hr1'
 have Hi0 : Hid _ := hi0
 have Hi1 : Hid _ := hi1
 have hn0 : (n : Int) ≤ 200000 := by omega
 have hw2 : IntKind.i64.wrap ((n : Int) + 2) = (n : Int) + 2 := by rw [IntKind.wrap_i64]; omega
 have hw1 : IntKind.i64.wrap ((n : Int) + 1) = (n : Int) + 1 := by rw [IntKind.wrap_i64]; omega
 clear hr hr0' hr1' hi0 hi1
 have hcz : ∀ W, (Instr.sliceAt 56 (.slice (some ⟨g, 0, none⟩) n (n + 2)) none (some (.int .i64 ((n : Int) + 2))) none).run Tryz.prog W = .ok (.slice (some ⟨g, 0, none⟩) (n + 2) (n + 2)) W := fun W => cut_h' W _ n (n + 2) (n + 2) _ (by omega) (Nat.le_refl _)
 go_enter Tryz.func29, Tryz.ntmps29
 go_upto_region 2 with (fail)
 clear hcz
 have kne : Nonempty (Kin w) := ⟨⟨_, Below.refl _ _⟩⟩
 refine wp_region_kin w (Below.refl _ _) (by kernel_rfl) (by kernel_rfl) ?_
 iterate 4 (go_big_quiet_step (fail))
 refine wpQuiet_load_mid rfl 64 (.tmp 16) rfl g (n * 12) A0 rfl (range_kin H1.out) Tryz.underlying64 rfl Hi0.out ?_
 simp only [nrm]
 go_big_quiet_step (first | (go_at_call 41; exact kin_call (hM0 _)))
 iterate 7 (go_big_quiet_step (fail))
 refine wpQuiet_load_midG (by rfl) 64 (.tmp 25) rfl g ((n + 1) * 12) A1 rfl (range_kin H2.out) Tryz.underlying64 rfl Hi1.out ?_
 simp only [nrm]
 go_big_quiet_step (first | (go_at_call 41; exact kin_call (hM1 _)))
 iterate 5 (go_big_quiet_step (fail))
 go_big_quiet_step (first | (go_at_call 42; exact kin_call (hS _ (Kin.is _))))
 iterate 2 (go_big_quiet_step (fail))
 refine wpQuiet_nil ?_
 rintro wq ⟨⟨xq, hxq⟩, hyq⟩
 have hq : Below w.heap.size w wq := by rw [hyq]; exact hxq
 have HRq : Hid (RowU wq 0 (.slice (some ⟨g, 0, none⟩) (n + 2) (n + 2)) L) := HR.out.on hq
 have HGq : Hid (w.grownBy wq (some g)) := grown_on (w := w) ⟨rfl, rfl, rfl, Nat.le_refl _, fun _ _ _ => rfl⟩ hq
 clear hyq hxq xq kne hE0 hE1 hM0 hM1 hS H1 H2 Hi0 Hi1 HR hq
 go_upto_region 4 with (fail)
 go_loopw [7] (fun i wr => ∃ (k : Nat) (L : List Ru), k ≤ n + 2 ∧ i = .int .i64 k ∧ Hid (RowU wr 0 (.slice (some ⟨g, 0, none⟩) (n + 2) (n + 2)) L) ∧ Hid (w.grownBy wr (some g))) (fun i _ => n + 2 - (intOf i).toNat)
 case atStart => exact ⟨0, L, Nat.zero_le _, rfl, HRq.out, HGq.out⟩
 case round =>
  clear HRq HGq
  obtain ⟨k, L, hk, rfl, HRr, HG⟩ := hrel
  by_cases hlt : k < n + 2
  ·have hlt' : (k : Int) < (n : Int) + 2 := by omega
   go_wp2_with (fail)
   refine (hM _).mono ?_
   rintro e W1 ⟨rfl, hb⟩
   have HR1 : Hid (RowU W1 0 (.slice (some ⟨g, 0, none⟩) (n + 2) (n + 2)) L) := HRr.out.on hb
   have HG1 : Hid (w.grownBy W1 (some g)) := grown_on HG.out hb
   clear hb HRr HG
   go_wp2_with (refine wpList_storeU rfl (.tmp 44) (.tmp 43) rfl 0 g (n + 2) (n + 2) L HR1.out k hlt R rfl rfl ?_; intro w3 hr3 hg3)
   have HR3 : Hid (RowU w3 0 (.slice (some ⟨g, 0, none⟩) (n + 2) (n + 2)) (L.take k ++ [R] ++ L.drop (k + [R].length))) := hr3
   have HG3 : Hid (w.grownBy w3 (some g)) := grown_trans HG1.out hg3
   clear hr3 hg3
   go_roundw
   case rel => exact ⟨k + 1, _, by omega, by go_num, HR3.out, HG3.out⟩
   case measure => simp [intOf]; omega
  ·obtain rfl : k = n + 2 := by omega
   go_wp2_with (fail)
   refine bodyPost_ret (v := .bool true) (by simp [results, Tryz.results29, go_sem]) rfl ?_
   exact ⟨rfl, HG.out⟩
end Go.Proofs.YtgokmkholjfhbaaGreat

