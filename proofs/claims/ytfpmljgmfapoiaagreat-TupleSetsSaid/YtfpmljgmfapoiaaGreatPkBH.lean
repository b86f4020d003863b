/-
  PkBH: TqLd TqLe TpFr TpFo, one behind the other (tools/pack.py).
-/
import Derived.Test.YtfpmljgmfapoiaaGreatPkBG
import Derived.Test.YtfpmljgmfapoiaaGreatPkAD
import Derived.Test.YtfpmljgmfapoiaaGreatRows
import Derived.ProofKit
import Derived.OpenShut
import Derived.Lib.SmallJoins
import Derived.ChangeSlices
import Derived.Deep.Slices
import Derived.ChangeMaps5
import Derived.Carry
import Derived.Test.YtfpmljgmfapoiaaGreatPkAZ
/-
  quintetkeep: mark, Spoil, Lend, Back; Rules with its capacity.
-/
namespace Go.Proofs.YtfpmljgmfapoiaaGreat
open Go.RowKit
set_option linter.unusedVariables false
set_option linter.unusedSimpArgs false

def mkR (k : Nat) : Ru := ⟨-7 - (k : Int), 0, 0, 0, 0, (0, 0), (0, 0), (0, 0), 77⟩
theorem markC (k : Nat) (hk : k ≤ 100) (w : World) : Calls Tryz.prog 40 #[.int .i64 k] w fun e w' => e = .returned (.agg #[.int .i64 (mkR k).i, .int .u32 ((mkR k).s : Int), .int .i64 (mkR k).sl, .int .u32 ((mkR k).d : Int), .int .i64 (mkR k).dl, .int .u16 ((mkR k).p.1 : Int), .int .u16 ((mkR k).p.2 : Int), .int .u16 ((mkR k).q.1 : Int), .int .u16 ((mkR k).q.2 : Int), .int .u8 ((mkR k).m.1 : Int), .int .u8 ((mkR k).m.2 : Int), .int .i64 (mkR k).act]) ∧ Below w.heap.size w w' := by
  have hk0 : (k : Int) ≤ 100 := by omega
  have hw : IntKind.i64.wrap (-7 - (k : Int)) = -7 - (k : Int) := by rw [IntKind.wrap_i64]; omega
  go_enter Tryz.func40, Tryz.ntmps40
  go_wp2_with (fail)
  exact bodyPost_ret (results_blk Tryz.results40 rfl (blk_new w _) Tryz.underlying52 rfl (by kernel_rfl)) rfl ⟨rfl, (Below.refl _ _).alloc (Nat.le_refl _) _⟩
theorem wpList_storeU {ops : Array Oper} {rest : List Oper} {o : Oper} {a : Act} {w : World} {Q : Exit → Act → World → Prop} (hgd : o.guard = none) (x y : Operand) (ho : o.op = .store 52 x y)
    (b g n cap : Nat) (l : List Ru) (hr : RowU w b (.slice (some ⟨g, 0, none⟩) n cap) l) (p : Nat) (hp : p < n) (R : Ru) (hx : a.eval x = .pointer (some ⟨g, p * 12, none⟩)) (hy : a.eval y = .agg #[.int .i64 R.i, .int .u32 R.s, .int .i64 R.sl, .int .u32 R.d, .int .i64 R.dl, .int .u16 R.p.1, .int .u16 R.p.2, .int .u16 R.q.1, .int .u16 R.q.2, .int .u8 R.m.1, .int .u8 R.m.2, .int .i64 R.act])
    (hK : ∀ w', RowU w' b (.slice (some ⟨g, 0, none⟩) n cap) (l.take p ++ [R] ++ l.drop (p + [R].length)) → w.grownBy w' (some g) → wpList Tryz.prog ops Q rest (a.put o.dst undef) w') : wpList Tryz.prog ops Q (o :: rest) a w :=
  wpList_plain hgd fun K hK' => wp_storeU x y ho b g n cap l hr p hp R hx hy fun w' h1 h2 => hK' _ _ (hK w' h1 h2)
theorem grown_on {w w1 w2 : World} {g : Nat} (hg : w.grownBy w1 (some g)) (hb : Below w1.heap.size w1 w2) : w.grownBy w2 (some g) :=
  ⟨hb.os.trans hg.os, hb.tape.trans hg.tape, hb.output.trans hg.output, Nat.le_trans hg.size hb.size, fun k hk hne => by rw [hb.block k (Nat.lt_of_lt_of_le hk hg.size), hg.block k hk hne]⟩
theorem grown_trans {w w1 w2 : World} {g : Nat} (h1 : w.grownBy w1 (some g)) (h2 : w1.grownBy w2 (some g)) : w.grownBy w2 (some g) := World.grownBy.trans h1 h2
/-- A row that was just made. -/
theorem made_rowU (w : World) (m : Nat) (hm : m ≤ 300000) : RowU (w.alloc (.cells (madeCells #[.int .i64 0, .int .u32 0, .int .i64 0, .int .u32 0, .int .i64 0, .int .u16 0, .int .u16 0, .int .u16 0, .int .u16 0, .int .u8 0, .int .u8 0, .int .i64 0] (m * 12)) 52)) w.heap.size (.slice (some ⟨w.heap.size, 0, none⟩) m m) (List.replicate m ruZ) := by
  have hl : (List.replicate m ruZ).length = m := List.length_replicate
  refine ⟨flatU_length _, .inr ⟨w.heap.size, m, _, by rw [hl], Nat.le_refl _, blk_new w _, by rw [hl]; exact Nat.le_refl _, by unfold maxLen; omega, size_madeCells _ _, ?_⟩⟩
  rw [hl]
  apply List.ext_getElem?
  intro i
  by_cases hi : i < m * 12
  · have h1 : i / 12 < (List.replicate m ruZ).length := by rw [hl]; omega
    have h2 := flatU_at (List.replicate m ruZ) (i / 12) h1 (i % 12) (Nat.mod_lt _ (by decide))
    rw [show i / 12 * 12 + i % 12 = i by omega, List.getElem_replicate] at h2
    rw [h2, List.getElem?_take, if_pos hi]
    have hj : i % 12 < 12 := Nat.mod_lt _ (by decide)
    simp only [madeCells, Array.toList_map, Array.toList_range, List.getElem?_map, List.getElem?_range hi, Option.map_some]
    show some ((#[.int .i64 0, .int .u32 0, .int .i64 0, .int .u32 0, .int .i64 0, .int .u16 0, .int .u16 0, .int .u16 0, .int .u16 0, .int .u8 0, .int .u8 0, .int .i64 0] : Array Value)[i % 12]!) = _
    generalize i % 12 = j at hj
    match j, hj with
    | 0, _ => rfl
    | 1, _ => rfl
    | 2, _ => rfl
    | 3, _ => rfl
    | 4, _ => rfl
    | 5, _ => rfl
    | 6, _ => rfl
    | 7, _ => rfl
    | 8, _ => rfl
    | 9, _ => rfl
    | 10, _ => rfl
    | 11, _ => rfl
  · rw [List.getElem?_eq_none (by rw [List.length_take]; omega), List.getElem?_eq_none (by rw [flatU_length, hl]; omega)]
/-- A list lent: its own row, two marks behind. -/
def Lent (w : World) (x : Value) (l : List Ru) (g : Nat) : Prop := x = .slice (some ⟨g, 0, none⟩) l.length (l.length + 2) ∧ RowU w 0 (.slice (some ⟨g, 0, none⟩) (l.length + 2) (l.length + 2)) (l ++ [mkR 0, mkR 1])
theorem Lent.src {w : World} {x : Value} {l : List Ru} {g : Nat} (h : Lent w x l g) : SrcU w x l := by
  have h1 := h.2.src.cut 0 l.length (Nat.zero_le _) (by simp)
  rw [cutU_zero, List.drop_zero, List.take_left] at h1
  rw [h.1]; exact h1
set_option maxRecDepth 20000 in
set_option maxHeartbeats 4000000 in
theorem lendC (u : Value) (l : List Ru) (w : World) (hs : SrcU w u l) (hl : l.length ≤ 200000) :
    Calls Tryz.prog 23 #[u] w fun e w' => ∃ x g, e = .returned x ∧ Lent w' x l g ∧ w.heap.size ≤ g ∧ g < w'.heap.size ∧ Below w.heap.size w w' := by
  have hM0 : ∀ W, Calls Tryz.prog 40 #[.int .i64 0] W fun e w' => e = .returned (.agg #[.int .i64 (mkR 0).i, .int .u32 ((mkR 0).s : Int), .int .i64 (mkR 0).sl, .int .u32 ((mkR 0).d : Int), .int .i64 (mkR 0).dl, .int .u16 ((mkR 0).p.1 : Int), .int .u16 ((mkR 0).p.2 : Int), .int .u16 ((mkR 0).q.1 : Int), .int .u16 ((mkR 0).q.2 : Int), .int .u8 ((mkR 0).m.1 : Int), .int .u8 ((mkR 0).m.2 : Int), .int .i64 (mkR 0).act]) ∧ Below W.heap.size W w' := fun W => markC 0 (by decide) W
  have hM1 : ∀ W, Calls Tryz.prog 40 #[.int .i64 1] W fun e w' => e = .returned (.agg #[.int .i64 (mkR 1).i, .int .u32 ((mkR 1).s : Int), .int .i64 (mkR 1).sl, .int .u32 ((mkR 1).d : Int), .int .i64 (mkR 1).dl, .int .u16 ((mkR 1).p.1 : Int), .int .u16 ((mkR 1).p.2 : Int), .int .u16 ((mkR 1).q.1 : Int), .int .u16 ((mkR 1).q.2 : Int), .int .u8 ((mkR 1).m.1 : Int), .int .u8 ((mkR 1).m.2 : Int), .int .i64 (mkR 1).act]) ∧ Below W.heap.size W w' := fun W => markC 1 (by decide) W
  obtain ⟨i0, hi, hz0, hz1, hz2⟩ := info_parts infoU
  have hmk := fun W => run_make (P := Tryz.prog) W 42 52 i0 _ Tryz.underlying42 hi hz0 .i64 .i64 ((l.length : Int) + 2) ((l.length : Int) + 2) (by omega) (Int.le_refl _) (by rw [hz2]; omega) (by omega)
  simp only [hz1, show ((l.length : Int) + 2).toNat = l.length + 2 by omega] at hmk
  have hrow := made_rowU w (l.length + 2) (by omega)
  have hs1 := hs.keep ((Below.refl _ _).alloc (Nat.le_refl _) (.cells (madeCells #[.int .i64 0, .int .u32 0, .int .i64 0, .int .u32 0, .int .i64 0, .int .u16 0, .int .u16 0, .int .u16 0, .int .u16 0, .int .u8 0, .int .u8 0, .int .i64 0] ((l.length + 2) * 12)) 52))
  obtain ⟨w1, hr, hrow1, hgr1⟩ := run_copyU _ 3 0 w.heap.size (l.length + 2) (l.length + 2) _ (hrow.base (Nat.zero_le _)) 0 (Nat.zero_le _) u l hs1
  have el : (List.replicate (l.length + 2) ruZ).take 0 ++ l.take (l.length + 2 - 0) ++ (List.replicate (l.length + 2) ruZ).drop (0 + (l.take (l.length + 2 - 0)).length) = l ++ [ruZ, ruZ] := by
    rw [List.take_of_length_le (l := l) (by omega), Nat.zero_add, List.drop_replicate, show l.length + 2 - l.length = 2 by omega]
    rfl
  rw [el] at hrow1
  rw [cutU_zero, show Nat.min l.length (l.length + 2 - 0) = l.length from Nat.min_eq_left (by omega)] at hr
  have HB1 : Hid (Below w.heap.size w w1) := ((Below.refl _ _).alloc (Nat.le_refl _) _).grown hgr1 (by simp) (fun k hk => by simp at hk; omega)
  have HR1 : Hid (RowU w1 0 (.slice (some ⟨w.heap.size, 0, none⟩) (l.length + 2) (l.length + 2)) (l ++ [ruZ, ruZ])) := hrow1
  have Hlt : Hid (w.heap.size < w1.heap.size) := (hrow1.lt w.heap.size rfl).2
  have HL3 : Hid ((l ++ [ruZ, ruZ]).take l.length ++ [mkR 0] ++ (l ++ [ruZ, ruZ]).drop (l.length + [mkR 0].length) = l ++ [mkR 0, ruZ]) := by
    show _ = _
    rw [List.take_left, show l.length + [mkR 0].length = l.length + 1 from rfl, List.drop_append, List.drop_eq_nil_of_le (by omega)]
    simp
  have HL4 : Hid ((l ++ [mkR 0, ruZ]).take (l.length + 1) ++ [mkR 1] ++ (l ++ [mkR 0, ruZ]).drop (l.length + 1 + [mkR 1].length) = l ++ [mkR 0, mkR 1]) := by
    show _ = _
    have hdn : (l ++ [mkR 0, ruZ]).drop (l.length + 2) = [] := List.drop_eq_nil_of_le (by simp)
    rw [show l.length + 1 + [mkR 1].length = l.length + 2 from rfl, List.take_append, List.take_of_length_le (l := l) (by omega), hdn]
    simp
  have HF : Hid (∀ w', RowU w' 0 (.slice (some ⟨w.heap.size, 0, none⟩) (l.length + 2) (l.length + 2)) (l ++ [mkR 0, mkR 1]) → Lent w' (.slice (some ⟨w.heap.size, 0, none⟩) l.length (l.length + 2)) l w.heap.size) := fun w' h => ⟨rfl, h⟩
  obtain ⟨ad, cap, rfl, hcap, hat⟩ := hs
  obtain ⟨n, hn⟩ : ∃ n, n = l.length := ⟨_, rfl⟩
  have Hn : Hid (n = l.length) := hn
  rw [← hn] at hl hcap hmk hr HR1 HL3 HL4 HF
  have hcz : ∀ W, (Instr.sliceAt 42 (.slice (some ⟨w.heap.size, 0, none⟩) (n + 2) (n + 2)) none (some (.int .i64 n)) none).run Tryz.prog W = .ok (.slice (some ⟨w.heap.size, 0, none⟩) n (n + 2)) W := fun W => cut_h' W _ (n + 2) (n + 2) n _ rfl (by omega)
  rw [← hn]
  clear hat hrow hs1 hrow1 hgr1 el hi hz0 hz1 hz2 hn
  generalize mkR 0 = M0 at *
  generalize mkR 1 = M1 at *
  have hn0 : (n : Int) ≤ 200000 := by omega
  have hw2 : IntKind.i64.wrap ((n : Int) + 2) = (n : Int) + 2 := by rw [IntKind.wrap_i64]; omega
  have hw1 : IntKind.i64.wrap ((n : Int) + 1) = (n : Int) + 1 := by rw [IntKind.wrap_i64]; omega
  go_enter Tryz.func23, Tryz.ntmps23
  go_wp2_with (fail)
  refine (hM0 _).mono ?_
  rintro e W1 ⟨rfl, hb⟩
  have HB2 : Hid (Below w.heap.size w W1) := HB1.out.trans (hb.mono HB1.out.size)
  have HR2 : Hid (RowU W1 0 (.slice (some ⟨w.heap.size, 0, none⟩) (n + 2) (n + 2)) (l ++ [ruZ, ruZ])) := HR1.out.on hb
  have Hlt2 : Hid (w.heap.size < W1.heap.size) := Nat.lt_of_lt_of_le Hlt.out hb.size
  clear hb HB1 HR1 Hlt
  go_wp2_with (refine wpList_storeU rfl (.tmp 15) (.tmp 14) rfl 0 w.heap.size (n + 2) (n + 2) _ HR2.out n (by omega) M0 rfl rfl ?_; intro w3 hr3 hg3)
  rw [HL3.out] at hr3
  have HR3 : Hid (RowU w3 0 (.slice (some ⟨w.heap.size, 0, none⟩) (n + 2) (n + 2)) (l ++ [M0, ruZ])) := hr3
  have HB3 : Hid (Below w.heap.size w w3) := HB2.out.grown hg3 (by have := HB2.out.size; omega) (fun k hk => by simp at hk; omega)
  have Hlt3 : Hid (w.heap.size < w3.heap.size) := Nat.lt_of_lt_of_le Hlt2.out hg3.size
  clear hr3 hg3 HB2 HR2 Hlt2 HL3
  refine (hM1 _).mono ?_
  rintro e W4 ⟨rfl, hb⟩
  have HB4 : Hid (Below w.heap.size w W4) := HB3.out.trans (hb.mono HB3.out.size)
  have HR4 : Hid (RowU W4 0 (.slice (some ⟨w.heap.size, 0, none⟩) (n + 2) (n + 2)) (l ++ [M0, ruZ])) := HR3.out.on hb
  have Hlt4 : Hid (w.heap.size < W4.heap.size) := Nat.lt_of_lt_of_le Hlt3.out hb.size
  clear hb HB3 HR3 Hlt3
  go_wp2_with (refine wpList_storeU rfl (.tmp 21) (.tmp 20) rfl 0 w.heap.size (n + 2) (n + 2) _ HR4.out (n + 1) (by omega) M1 rfl rfl ?_; intro w5 hr5 hg5)
  rw [HL4.out] at hr5
  have HR5 : Hid (RowU w5 0 (.slice (some ⟨w.heap.size, 0, none⟩) (n + 2) (n + 2)) (l ++ [M0, M1])) := hr5
  have HB5 : Hid (Below w.heap.size w w5) := HB4.out.grown hg5 (by have := HB4.out.size; omega) (fun k hk => by simp at hk; omega)
  have Hlt5 : Hid (w.heap.size < w5.heap.size) := Nat.lt_of_lt_of_le Hlt4.out hg5.size
  clear hr5 hg5 HB4 HR4 Hlt4 HL4
  refine bodyPost_ret (v := .slice (some ⟨w.heap.size, 0, none⟩) n (n + 2)) (by simp [results, Tryz.results23, go_sem]) rfl ?_
  exact ⟨_, _, rfl, HF.out _ HR5.out, Nat.le_refl _, Hlt5.out, HB5.out⟩
end Go.Proofs.YtfpmljgmfapoiaaGreat
/-
  quintetkeep.Back; Rules with its capacity.
-/
namespace Go.Proofs.YtfpmljgmfapoiaaGreat
open Go.RowKit
set_option linter.unusedVariables false
set_option linter.unusedSimpArgs false

theorem rowU_rng {w : World} {b g n cap : Nat} {l : List Ru} (h : RowU w b (.slice (some ⟨g, 0, none⟩) n cap) l) (k : Nat) (hk : k < l.length) : w.rangeAt g (k * 12) (encU (l[k]'hk)) := by
  obtain ⟨_, r⟩ := h.src.rng
  obtain ⟨g', off, e, hr⟩ := r w (Below.refl _ _) k hk
  cases e
  simpa using hr
theorem wpQuiet_load_midG {P : Program} {ops : Array Oper} {C : World → Prop} {Q : Act → Prop} {rest : List Oper} {op : Oper} {a : Act} (hw : Region.wanted op (yielded ops a.tmps) = true) (ty : TypeId) (x : Operand) (ho : op.op = .load ty x)
    (B o : Nat) (cs : Array Value) (hx : a.eval x = .pointer (some ⟨B, o, none⟩)) (h : ∀ w, C w → w.rangeAt B o cs.toList) {d : TypeDesc} (hu : P.underlying ty = some d) (hd : d.isRow = true) (hi : (P.info? ty).map (·.size) = some cs.size)
    (hk : wpQuiet P ops C Q rest (a.put op.dst (.agg cs))) : wpQuiet P ops C Q (op :: rest) a := by
  unfold wpQuiet
  rw [if_pos hw]
  refine ⟨_, fun w hw => ?_, hk⟩
  have hl := run_loadVar_mid (P := P) w B o ty cs.toList d (h w hw) hu hd (by simpa using hi)
  unfold Oper.quietAt execOp
  simp only [ho, hx, Instr.loadAt, Instr.sureAddr, Sem.run_bind, Sem.run_pure, Result.andThen_ok, hl]
  exact ⟨rfl, rfl⟩
set_option maxRecDepth 20000 in
set_option maxHeartbeats 8000000 in
theorem backC (u x : Value) (l : List Ru) (g : Nat) (w : World) (hx : Lent w x l g) (hu : SrcU w u l) (hl : l.length ≤ 200000) :
    Calls Tryz.prog 24 #[x, u] w fun e w' => e = .returned (.bool true) ∧ w.grownBy w' (some g) := by
  have hM0 : ∀ W, Calls Tryz.prog 40 #[.int .i64 0] W fun e w' => e = .returned (.agg (encU (mkR 0)).toArray) ∧ Below W.heap.size W w' := fun W => markC 0 (by decide) W
  have hM1 : ∀ W, Calls Tryz.prog 40 #[.int .i64 1] W fun e w' => e = .returned (.agg (encU (mkR 1)).toArray) ∧ Below W.heap.size W w' := fun W => markC 1 (by decide) W
  have hM : ∀ W, Calls Tryz.prog 40 #[.int .i64 5] W fun e w' => e = .returned (.agg #[.int .i64 (mkR 5).i, .int .u32 ((mkR 5).s : Int), .int .i64 (mkR 5).sl, .int .u32 ((mkR 5).d : Int), .int .i64 (mkR 5).dl, .int .u16 ((mkR 5).p.1 : Int), .int .u16 ((mkR 5).p.2 : Int), .int .u16 ((mkR 5).q.1 : Int), .int .u16 ((mkR 5).q.2 : Int), .int .u8 ((mkR 5).m.1 : Int), .int .u8 ((mkR 5).m.2 : Int), .int .i64 (mkR 5).act]) ∧ Below W.heap.size W w' := fun W => markC 5 (by decide) W
  have hS : ∀ W, Below w.heap.size w W → Calls Tryz.prog 41 #[x, u] W fun e w' => e = .returned (.bool true) ∧ Below W.heap.size W w' := fun W hb => keepSame x u l W (hx.src.keep hb) (hu.keep hb) (by omega)
  obtain ⟨rfl, hr⟩ := hx
  have hr0 := rowU_rng hr l.length (by simp)
  have hr1 := rowU_rng hr (l.length + 1) (by simp)
  simp only [List.getElem_append_right (Nat.le_refl l.length), Nat.sub_self, List.getElem_cons_zero] at hr0
  have e1 : (l ++ [mkR 0, mkR 1])[l.length + 1]'(by simp) = mkR 1 := by simp
  rw [e1] at hr1
  have hE0 : ∀ W : World, Sem.run Tryz.prog (binOp .eql 52 (.agg (encU (mkR 0)).toArray) (.agg (encU (mkR 0)).toArray)) W = .ok (.bool true) W := fun W => eqR_self (mkR 0) W
  have hE1 : ∀ W : World, Sem.run Tryz.prog (binOp .eql 52 (.agg (encU (mkR 1)).toArray) (.agg (encU (mkR 1)).toArray)) W = .ok (.bool true) W := fun W => eqR_self (mkR 1) W
  have hi0 : (Tryz.prog.info? 52).map (·.size) = some (encU (mkR 0)).toArray.size := infoXU
  have hi1 : (Tryz.prog.info? 52).map (·.size) = some (encU (mkR 1)).toArray.size := infoXU
  have hr0' : w.rangeAt g (l.length * 12) (encU (mkR 0)).toArray.toList := hr0
  have hr1' : w.rangeAt g ((l.length + 1) * 12) (encU (mkR 1)).toArray.toList := hr1
  clear hr0 hr1 e1
  obtain ⟨L, hL⟩ : ∃ L, L = l ++ [mkR 0, mkR 1] := ⟨_, rfl⟩
  rw [← hL] at hr
  clear hL
  generalize (encU (mkR 0)).toArray = A0 at *
  generalize (encU (mkR 1)).toArray = A1 at *
  generalize mkR 5 = R at *
  obtain ⟨ad, cap, rfl, hcap, hat⟩ := hu
  clear hat
  generalize l.length = n at *
  have HR : Hid (RowU w 0 (.slice (some ⟨g, 0, none⟩) (n + 2) (n + 2)) L) := hr
  have H1 : Hid _ := hr0'
  have H2 : Hid _ := hr1'
  have Hi0 : Hid _ := hi0
  have Hi1 : Hid _ := hi1
  have hn0 : (n : Int) ≤ 200000 := by omega
  have hw2 : IntKind.i64.wrap ((n : Int) + 2) = (n : Int) + 2 := by rw [IntKind.wrap_i64]; omega
  have hw1 : IntKind.i64.wrap ((n : Int) + 1) = (n : Int) + 1 := by rw [IntKind.wrap_i64]; omega
  clear hr hr0' hr1' hi0 hi1
  have hcz : ∀ W, (Instr.sliceAt 42 (.slice (some ⟨g, 0, none⟩) n (n + 2)) none (some (.int .i64 ((n : Int) + 2))) none).run Tryz.prog W = .ok (.slice (some ⟨g, 0, none⟩) (n + 2) (n + 2)) W := fun W => cut_h' W _ n (n + 2) (n + 2) _ (by omega) (Nat.le_refl _)
  go_enter Tryz.func24, Tryz.ntmps24
  go_upto_region 2 with (fail)
  clear hcz
  have kne : Nonempty (Kin w) := ⟨⟨_, Below.refl _ _⟩⟩
  refine wp_region_kin w (Below.refl _ _) (by kernel_rfl) (by kernel_rfl) ?_
  iterate 4 (go_big_quiet_step (fail))
  refine wpQuiet_load_mid rfl 52 (.tmp 16) rfl g (n * 12) A0 rfl (range_kin H1.out) Tryz.underlying52 rfl Hi0.out ?_
  simp only [nrm]
  go_big_quiet_step (first | (go_at_call 40; exact kin_call (hM0 _)))
  iterate 7 (go_big_quiet_step (fail))
  refine wpQuiet_load_midG (by rfl) 52 (.tmp 25) rfl g ((n + 1) * 12) A1 rfl (range_kin H2.out) Tryz.underlying52 rfl Hi1.out ?_
  simp only [nrm]
  go_big_quiet_step (first | (go_at_call 40; exact kin_call (hM1 _)))
  iterate 5 (go_big_quiet_step (fail))
  go_big_quiet_step (first | (go_at_call 41; exact kin_call (hS _ (Kin.is _))))
  iterate 2 (go_big_quiet_step (fail))
  refine wpQuiet_nil ?_
  rintro wq ⟨⟨xq, hxq⟩, hyq⟩
  have hq : Below w.heap.size w wq := by rw [hyq]; exact hxq
  have HRq : Hid (RowU wq 0 (.slice (some ⟨g, 0, none⟩) (n + 2) (n + 2)) L) := HR.out.on hq
  have HGq : Hid (w.grownBy wq (some g)) := grown_on (w := w) ⟨rfl, rfl, rfl, Nat.le_refl _, fun _ _ _ => rfl⟩ hq
  clear hyq hxq xq kne hE0 hE1 hM0 hM1 hS H1 H2 Hi0 Hi1 HR hq
  go_upto_region 4 with (fail)
  go_loopw [7] (fun i wr => ∃ (k : Nat) (L : List Ru), k ≤ n + 2 ∧ i = .int .i64 k ∧ Hid (RowU wr 0 (.slice (some ⟨g, 0, none⟩) (n + 2) (n + 2)) L) ∧ Hid (w.grownBy wr (some g))) (fun i _ => n + 2 - (intOf i).toNat)
  case atStart => exact ⟨0, L, Nat.zero_le _, rfl, HRq.out, HGq.out⟩
  case round =>
    clear HRq HGq
    obtain ⟨k, L, hk, rfl, HRr, HG⟩ := hrel
    by_cases hlt : k < n + 2
    · have hlt' : (k : Int) < (n : Int) + 2 := by omega
      go_wp2_with (fail)
      refine (hM _).mono ?_
      rintro e W1 ⟨rfl, hb⟩
      have HR1 : Hid (RowU W1 0 (.slice (some ⟨g, 0, none⟩) (n + 2) (n + 2)) L) := HRr.out.on hb
      have HG1 : Hid (w.grownBy W1 (some g)) := grown_on HG.out hb
      clear hb HRr HG
      go_wp2_with (refine wpList_storeU rfl (.tmp 44) (.tmp 43) rfl 0 g (n + 2) (n + 2) L HR1.out k hlt R rfl rfl ?_; intro w3 hr3 hg3)
      have HR3 : Hid (RowU w3 0 (.slice (some ⟨g, 0, none⟩) (n + 2) (n + 2)) (L.take k ++ [R] ++ L.drop (k + [R].length))) := hr3
      have HG3 : Hid (w.grownBy w3 (some g)) := grown_trans HG1.out hg3
      clear hr3 hg3
      go_roundw
      case rel => exact ⟨k + 1, _, by omega, by go_num, HR3.out, HG3.out⟩
      case measure => simp [intOf]; omega
    · obtain rfl : k = n + 2 := by omega
      go_wp2_with (fail)
      refine bodyPost_ret (v := .bool true) (by simp [results, Tryz.results24, go_sem]) rfl ?_
      exact ⟨rfl, HG.out⟩
end Go.Proofs.YtfpmljgmfapoiaaGreat
/-
  Configurations, rules, headers, calls, lists of these among the arguments: opened into their numbers. Written by tools/mkPnFr.py.
-/
namespace Go.Proofs.YtfpmljgmfapoiaaGreat
open Go.ChangeShapes Go.WideShapes Go.ChangeAt Go.RowKit Go.Joins
set_option linter.unusedVariables false
set_option linter.unusedSimpArgs false
set_option maxRecDepth 20000

theorem own : ownKnob Tryz.prog.godebug = none := by kernel_rfl
theorem laidOut : laidOutB Tryz.prog = true := by kernel_rfl
theorem cells_int : Tryz.prog.cellsOf 3 = 1 := by kernel_rfl
theorem cells_u32 : Tryz.prog.cellsOf 43 = 1 := by kernel_rfl
theorem cells_u16 : Tryz.prog.cellsOf 46 = 1 := by kernel_rfl
theorem cells_u8 : Tryz.prog.cellsOf 5 = 1 := by kernel_rfl
theorem cells_Action : Tryz.prog.cellsOf 22 = 1 := by kernel_rfl
theorem cells_Prefix : Tryz.prog.cellsOf 45 = 2 := by kernel_rfl
theorem cells_Span : Tryz.prog.cellsOf 48 = 2 := by kernel_rfl
theorem cells_Mask : Tryz.prog.cellsOf 50 = 2 := by kernel_rfl
theorem cells_Rule : Tryz.prog.cellsOf 52 = 12 := by kernel_rfl
theorem cells_Header : Tryz.prog.cellsOf 54 = 5 := by kernel_rfl
theorem cells_Config : Tryz.prog.cellsOf 24 = 7 := by kernel_rfl
theorem cells_Op : Tryz.prog.cellsOf 56 = 21 := by kernel_rfl
theorem cells_Rules : Tryz.prog.cellsOf 42 = 1 := by kernel_rfl
theorem wf_sgn {a : Int} (h : (Lit.int .i64 a).wf = true) : I64 a := by
  have h1 : IntKind.i64.min ≤ a ∧ a ≤ IntKind.i64.max := by simpa [Lit.wf] using h
  have e1 : IntKind.i64.min = -9223372036854775808 := rfl
  have e2 : IntKind.i64.max = 9223372036854775807 := rfl
  unfold I64
  omega
theorem wf_u32 {a : Int} (h : (Lit.int .u32 a).wf = true) : ∃ n : Nat, a = (n : Int) ∧ n < 4294967296 := by
  have h1 : IntKind.u32.min ≤ a ∧ a ≤ IntKind.u32.max := by simpa [Lit.wf] using h
  have e1 : IntKind.u32.min = 0 := rfl
  have e2 : IntKind.u32.max = 4294967295 := rfl
  exact ⟨a.toNat, by omega, by omega⟩
theorem wf_u16 {a : Int} (h : (Lit.int .u16 a).wf = true) : ∃ n : Nat, a = (n : Int) ∧ n < 65536 := by
  have h1 : IntKind.u16.min ≤ a ∧ a ≤ IntKind.u16.max := by simpa [Lit.wf] using h
  have e1 : IntKind.u16.min = 0 := rfl
  have e2 : IntKind.u16.max = 65535 := rfl
  exact ⟨a.toNat, by omega, by omega⟩
theorem wf_u8 {a : Int} (h : (Lit.int .u8 a).wf = true) : ∃ n : Nat, a = (n : Int) ∧ n < 256 := by
  have h1 : IntKind.u8.min ≤ a ∧ a ≤ IntKind.u8.max := by simpa [Lit.wf] using h
  have e1 : IntKind.u8.min = 0 := rfl
  have e2 : IntKind.u8.max = 255 := rfl
  exact ⟨a.toNat, by omega, by omega⟩
variable {H : Type} {enc : TypeId × Value → H} {w : World} {base : Nat} {spare : Nat → Bool} {held : Bool}
theorem two_pf {fuel : Nat} {c0 c1 : Value} {y : DataW H × List MemPlace} (h : DataW.trod enc Tryz.prog w base spare held fuel 45 [c0, c1] = some y) : ∃ (p : Nat) (q : Int), c0 = .int .u32 p ∧ c1 = .int .i64 q ∧ p < 4294967296 ∧ I64 q := by
  obtain ⟨y0, y1, n, hx, hl, g0, g1⟩ := trod_struct2 Tryz.underlying45 h
  simp [cells_u32, cells_int] at g0 g1
  obtain ⟨a0, e0, rfl, w0⟩ := DataW.trod_int Tryz.underlying43 g0
  obtain ⟨a1, e1, rfl, w1⟩ := DataW.trod_int Tryz.underlying3 g1
  simp at e0 e1
  subst e0 e1
  obtain ⟨k0, rfl, l0⟩ := wf_u32 w0
  exact ⟨k0, a1, rfl, rfl, l0, wf_sgn w1⟩
theorem two_sp {fuel : Nat} {c0 c1 : Value} {y : DataW H × List MemPlace} (h : DataW.trod enc Tryz.prog w base spare held fuel 48 [c0, c1] = some y) : ∃ p : Nat × Nat, c0 = .int .u16 p.1 ∧ c1 = .int .u16 p.2 ∧ p.1 < 65536 ∧ p.2 < 65536 := by
  obtain ⟨y0, y1, n, hx, hl, g0, g1⟩ := trod_struct2 Tryz.underlying48 h
  simp [cells_u16] at g0 g1
  obtain ⟨a0, e0, rfl, w0⟩ := DataW.trod_int Tryz.underlying46 g0
  obtain ⟨a1, e1, rfl, w1⟩ := DataW.trod_int Tryz.underlying46 g1
  simp at e0 e1
  subst e0 e1
  obtain ⟨k0, rfl, l0⟩ := wf_u16 w0
  obtain ⟨k1, rfl, l1⟩ := wf_u16 w1
  exact ⟨(k0, k1), rfl, rfl, l0, l1⟩
theorem two_mk {fuel : Nat} {c0 c1 : Value} {y : DataW H × List MemPlace} (h : DataW.trod enc Tryz.prog w base spare held fuel 50 [c0, c1] = some y) : ∃ p : Nat × Nat, c0 = .int .u8 p.1 ∧ c1 = .int .u8 p.2 ∧ p.1 < 256 ∧ p.2 < 256 := by
  obtain ⟨y0, y1, n, hx, hl, g0, g1⟩ := trod_struct2 Tryz.underlying50 h
  simp [cells_u8] at g0 g1
  obtain ⟨a0, e0, rfl, w0⟩ := DataW.trod_int Tryz.underlying5 g0
  obtain ⟨a1, e1, rfl, w1⟩ := DataW.trod_int Tryz.underlying5 g1
  simp at e0 e1
  subst e0 e1
  obtain ⟨k0, rfl, l0⟩ := wf_u8 w0
  obtain ⟨k1, rfl, l1⟩ := wf_u8 w1
  exact ⟨(k0, k1), rfl, rfl, l0, l1⟩
theorem list12 {A : Type} {l : List A} (h : l.length = 12) : ∃ a b c d e f g i j k n m, l = [a, b, c, d, e, f, g, i, j, k, n, m] := by
  match l, h with
  | [a, b, c, d, e, f, g, i, j, k, n, m], _ => exact ⟨a, b, c, d, e, f, g, i, j, k, n, m, rfl⟩
theorem list5 {A : Type} {l : List A} (h : l.length = 5) : ∃ a b c d e, l = [a, b, c, d, e] := by
  match l, h with
  | [a, b, c, d, e], _ => exact ⟨a, b, c, d, e, rfl⟩
theorem list7 {A : Type} {l : List A} (h : l.length = 7) : ∃ a b c d e f g, l = [a, b, c, d, e, f, g] := by
  match l, h with
  | [a, b, c, d, e, f, g], _ => exact ⟨a, b, c, d, e, f, g, rfl⟩
theorem ru_of_cells {fuel : Nat} {cs : List Value} {y : DataW H × List MemPlace} (hf : DataW.trod enc Tryz.prog w base spare held fuel 52 cs = some y) : ∃ X : Ru, cs = encU X ∧ BdR X := by
  obtain ⟨xs, n, _, hx, hl, hlen, hfl⟩ := DataW.trod_struct Tryz.underlying52 hf
  obtain ⟨c0, c1, c2, c3, c4, c5, c6, c7, c8, c9, c10, c11, rfl⟩ := list12 (hl.trans cells_Rule)
  obtain ⟨y0, y1, y2, y3, y4, y5, y6, rfl⟩ := list7 (l := xs) (by simpa using hlen)
  have g0 := hfl 0 _ rfl
  have g1 := hfl 1 _ rfl
  have g2 := hfl 2 _ rfl
  have g3 := hfl 3 _ rfl
  have g4 := hfl 4 _ rfl
  have g5 := hfl 5 _ rfl
  have g6 := hfl 6 _ rfl
  simp [cells_int, cells_Action, cells_Prefix, cells_Span, cells_Mask] at g0 g1 g2 g3 g4 g5 g6
  obtain ⟨p0, r0, t0, u0⟩ := DataW.trod_int Tryz.underlying3 g0
  obtain ⟨p1, n1, r1, s1, u1, v1⟩ := two_pf g1
  obtain ⟨p2, n2, r2, s2, u2, v2⟩ := two_pf g2
  obtain ⟨p3, r3, s3, u3, v3⟩ := two_sp g3
  obtain ⟨p4, r4, s4, u4, v4⟩ := two_sp g4
  obtain ⟨p5, r5, s5, u5, v5⟩ := two_mk g5
  obtain ⟨p6, r6, t6, u6⟩ := DataW.trod_int Tryz.underlying22 g6
  simp at r0 r6
  subst r0 r1 r2 r3 r4 r5 r6 s1 s2 s3 s4 s5
  exact ⟨⟨p0, p1, n1, p2, n2, p3, p4, p5, p6⟩, rfl, u1, u2, u3, v3, u4, v4, u5, v5, wf_sgn u0, v1, v2, wf_sgn u6⟩
theorem hd_of_cells {fuel : Nat} {cs : List Value} {y : DataW H × List MemPlace} (hf : DataW.trod enc Tryz.prog w base spare held fuel 54 cs = some y) : ∃ h : Hd, cs = [.int .u32 h.s, .int .u32 h.d, .int .u16 h.p, .int .u16 h.q, .int .u8 h.r] ∧ OkH h := by
  obtain ⟨xs, n, _, hx, hl, hlen, hfl⟩ := DataW.trod_struct Tryz.underlying54 hf
  obtain ⟨c0, c1, c2, c3, c4, rfl⟩ := list5 (hl.trans cells_Header)
  obtain ⟨y0, y1, y2, y3, y4, rfl⟩ := list5 (l := xs) (by simpa using hlen)
  have g0 := hfl 0 _ rfl
  have g1 := hfl 1 _ rfl
  have g2 := hfl 2 _ rfl
  have g3 := hfl 3 _ rfl
  have g4 := hfl 4 _ rfl
  simp [cells_u32, cells_u16, cells_u8] at g0 g1 g2 g3 g4
  obtain ⟨p0, r0, t0, u0⟩ := DataW.trod_int Tryz.underlying43 g0
  obtain ⟨p1, r1, t1, u1⟩ := DataW.trod_int Tryz.underlying43 g1
  obtain ⟨p2, r2, t2, u2⟩ := DataW.trod_int Tryz.underlying46 g2
  obtain ⟨p3, r3, t3, u3⟩ := DataW.trod_int Tryz.underlying46 g3
  obtain ⟨p4, r4, t4, u4⟩ := DataW.trod_int Tryz.underlying5 g4
  simp at r0 r1 r2 r3 r4
  subst r0 r1 r2 r3 r4
  obtain ⟨k0, rfl, l0⟩ := wf_u32 u0
  obtain ⟨k1, rfl, l1⟩ := wf_u32 u1
  obtain ⟨k2, rfl, l2⟩ := wf_u16 u2
  obtain ⟨k3, rfl, l3⟩ := wf_u16 u3
  obtain ⟨k4, rfl, l4⟩ := wf_u8 u4
  exact ⟨⟨k0, k1, k2, k3, k4⟩, rfl, l0, l1, l2, l3, l4⟩
theorem cells_at {b : Nat} {a : Addr} {n : Nat} {cs : List Value} (h : w.cells? b a n = some cs) (j : Nat) (hj : j < n) : w.cell? (a.add j) = cs[j]? := by
  unfold World.cells? at h
  split at h
  · obtain ⟨x, h1, h2⟩ := Lib.mapM_at h j j (by simp [hj])
    rw [h1]; exact h2
  · cases h
theorem no_spot {a : Addr} {v : Value} (h : w.cell? ((a.add 0).add 0) = some v) : a.spot = none := by
  obtain ⟨b, off, spot⟩ := a
  cases spot with
  | none => rfl
  | some z =>
    exfalso
    simp only [Addr.add, if_true, World.cell?] at h
    split at h
    · simp at h
    · cases h
theorem rus_of_cells {fuel : Nat} {v : Value} {y : DataW H × List MemPlace} (hfu : DataW.trod enc Tryz.prog w base spare held fuel 42 [v] = some y) : ∃ l : List Ru, SrcU w v l ∧ ∀ R ∈ l, BdR R := by
  rcases Go.Deep.open_slice Tryz.underlying42 hfu with ⟨hc, hx⟩ | ⟨a, len, cap, m, k, D, Pl, hc, _, hl, hm, hmm, hx, hall⟩
  · simp at hc
    subst hc
    exact ⟨[], ⟨none, 0, rfl, ⟨Nat.le_refl _, fun _ => rfl⟩, fun h0 => absurd h0 (Nat.lt_irrefl _)⟩, fun s hs => by cases hs⟩
  · simp at hc
    subst hc
    have hlm : len ≤ m := by rw [hmm]; split <;> omega
    have val : ∀ i, ∃ X : Ru, i < len → (∀ j, j < 12 → w.cell? ((a.add (i * 12)).add j) = (encU X)[j]?) ∧ BdR X := by
      intro i
      by_cases hi : i < len
      · obtain ⟨cs', h1, h2⟩ := hall i (by omega)
        rw [cells_Rule] at h1
        obtain ⟨X, rfl, hb⟩ := ru_of_cells h2
        exact ⟨X, fun _ => ⟨fun j hj => cells_at h1 j hj, hb⟩⟩
      · exact ⟨ruZ, fun h => absurd h hi⟩
    obtain ⟨f, hf⟩ : ∃ f : Nat → Ru, f = fun i => Classical.choose (val i) := ⟨_, rfl⟩
    have hF : ∀ i, i < len → (∀ j, j < 12 → w.cell? ((a.add (i * 12)).add j) = (encU (f i))[j]?) ∧ BdR (f i) := by rw [hf]; exact fun i => Classical.choose_spec (val i)
    refine ⟨(List.range len).map f, ⟨some a, cap, by simp, ⟨by simpa using hl, fun e => by cases e⟩, fun h0 => ?_⟩, fun R hR => ?_⟩
    · simp at h0
      have h00 := (hF 0 h0).1 0 (by decide)
      have hsp : a.spot = none := no_spot (h00.trans rfl)
      obtain ⟨b, off, spot⟩ := a
      simp only at hsp
      subst hsp
      refine ⟨b, off, rfl, fun i hi j hj => ?_⟩
      simp at hi
      have := (hF i hi).1 j hj
      rw [Addr.add_lit, Addr.add_lit, Nat.add_assoc] at this
      rw [this]
      simp
    · obtain ⟨i, hi, rfl⟩ := List.mem_map.1 hR
      exact (hF i (List.mem_range.1 hi)).2
theorem open_rus {r : Reach} {b0 : Nat} {v : Value} {d : DataW H} {p : List MemPlace}
    (hv : Value.okWide Tryz.prog w r b0 42 v) (h : DataW.Trod enc Tryz.prog w base spare held 42 v d p) : ∃ l : List Ru, SrcU w v l ∧ ∀ R ∈ l, BdR R := by
  obtain ⟨a0, len, cap, rfl⟩ := okWide_slice Tryz.underlying42 hv
  obtain ⟨fuel, hfu⟩ := h
  exact rus_of_cells (by simpa [Value.cells] using hfu)
theorem cf_of_cells {fuel : Nat} {cs : List Value} {y : DataW H × List MemPlace} (hf : DataW.trod enc Tryz.prog w base spare held fuel 24 cs = some y) : ∃ c : Cf, cs = [.int .i64 c.m, .int .i64 c.a, .int .i64 c.p, .int .i64 c.g, .int .i64 c.t, .int .i64 c.b, .int .i64 c.d] ∧ BdC c := by
  obtain ⟨xs, n, _, hx, hl, hlen, hfl⟩ := DataW.trod_struct Tryz.underlying24 hf
  obtain ⟨c0, c1, c2, c3, c4, c5, c6, rfl⟩ := list7 (hl.trans cells_Config)
  obtain ⟨y0, y1, y2, y3, y4, y5, y6, rfl⟩ := list7 (l := xs) (by simpa using hlen)
  have g0 := hfl 0 _ rfl
  have g1 := hfl 1 _ rfl
  have g2 := hfl 2 _ rfl
  have g3 := hfl 3 _ rfl
  have g4 := hfl 4 _ rfl
  have g5 := hfl 5 _ rfl
  have g6 := hfl 6 _ rfl
  simp [cells_int, cells_Action] at g0 g1 g2 g3 g4 g5 g6
  obtain ⟨p0, r0, t0, u0⟩ := DataW.trod_int Tryz.underlying3 g0
  obtain ⟨p1, r1, t1, u1⟩ := DataW.trod_int Tryz.underlying22 g1
  obtain ⟨p2, r2, t2, u2⟩ := DataW.trod_int Tryz.underlying3 g2
  obtain ⟨p3, r3, t3, u3⟩ := DataW.trod_int Tryz.underlying3 g3
  obtain ⟨p4, r4, t4, u4⟩ := DataW.trod_int Tryz.underlying3 g4
  obtain ⟨p5, r5, t5, u5⟩ := DataW.trod_int Tryz.underlying3 g5
  obtain ⟨p6, r6, t6, u6⟩ := DataW.trod_int Tryz.underlying3 g6
  simp at r0 r1 r2 r3 r4 r5 r6
  subst r0 r1 r2 r3 r4 r5 r6
  exact ⟨⟨p0, p1, p2, p3, p4, p5, p6⟩, rfl, wf_sgn u0, wf_sgn u1, wf_sgn u2, wf_sgn u3, wf_sgn u4, wf_sgn u5, wf_sgn u6⟩
theorem open_cf {r : Reach} {b0 : Nat} {v : Value} {d : DataW H} {p : List MemPlace}
    (hv : Value.okWide Tryz.prog w r b0 24 v) (ht : DataW.Trod enc Tryz.prog w base spare held 24 v d p) : ∃ c : Cf, v = .agg #[.int .i64 c.m, .int .i64 c.a, .int .i64 c.p, .int .i64 c.g, .int .i64 c.t, .int .i64 c.b, .int .i64 c.d] ∧ BdC c := by
  obtain ⟨cs, rfl, hsz⟩ := okWide_struct Tryz.underlying24 hv
  obtain ⟨fuel, hf⟩ := ht
  obtain ⟨h, e, b⟩ := cf_of_cells (by simpa [Value.cells] using hf)
  refine ⟨h, ?_, b⟩
  obtain ⟨l⟩ := cs
  simp at e
  rw [e]
/-- A call: Kind, Place, Id, Rule, Head, List (a slice and what it reads as). -/
structure Opp where
  k : Int
  p : Int
  i : Int
  r : Ru
  h : Hd
  u : Value
  l : List Ru
def encOp (o : Opp) : List Value := [.int .i64 o.k, .int .i64 o.p, .int .i64 o.i] ++ (encU o.r ++ ([.int .u32 o.h.s, .int .u32 o.h.d, .int .u16 o.h.p, .int .u16 o.h.q, .int .u8 o.h.r] ++ [o.u]))
def BdO (w : World) (o : Opp) : Prop := I64 o.k ∧ I64 o.p ∧ I64 o.i ∧ BdR o.r ∧ OkH o.h ∧ SrcU w o.u o.l ∧ ∀ R ∈ o.l, BdR R
theorem list21 {A : Type} {l : List A} (h : l.length = 21) : ∃ a b c r s z, l = a :: b :: c :: (r ++ (s ++ [z])) ∧ r.length = 12 ∧ s.length = 5 := by
  match l, h with
  | a :: b :: c :: t, h =>
    have h' : t.length = 18 := by simpa using h
    have h1 : (t.drop 12).length = 6 := by rw [List.length_drop]; omega
    match hd : t.drop 12, h1 with
    | [s0, s1, s2, s3, s4, z], _ => exact ⟨a, b, c, t.take 12, [s0, s1, s2, s3, s4], z, by rw [show [s0, s1, s2, s3, s4] ++ [z] = t.drop 12 by rw [hd]; rfl, List.take_append_drop], by rw [List.length_take]; omega, rfl⟩
theorem list6 {A : Type} {l : List A} (h : l.length = 6) : ∃ a b c d e f, l = [a, b, c, d, e, f] := by
  match l, h with
  | [a, b, c, d, e, f], _ => exact ⟨a, b, c, d, e, f, rfl⟩
theorem op_of_cells {fuel : Nat} {cs : List Value} {y : DataW H × List MemPlace} (hf : DataW.trod enc Tryz.prog w base spare held fuel 56 cs = some y) : ∃ o : Opp, cs = encOp o ∧ BdO w o := by
  obtain ⟨xs, n, _, hx, hl, hlen, hfl⟩ := DataW.trod_struct Tryz.underlying56 hf
  obtain ⟨c0, c1, c2, cr, ch, cl, rfl, hr, hh⟩ := list21 (hl.trans cells_Op)
  obtain ⟨y0, y1, y2, y3, y4, y5, rfl⟩ := list6 (l := xs) (by simpa using hlen)
  have g0 := hfl 0 _ rfl
  have g1 := hfl 1 _ rfl
  have g2 := hfl 2 _ rfl
  have g3 := hfl 3 _ rfl
  have g4 := hfl 4 _ rfl
  have g5 := hfl 5 _ rfl
  simp [cells_int, cells_Rule, cells_Header, cells_Rules, hr, hh] at g0 g1 g2 g3 g4 g5
  obtain ⟨p0, r0, t0, u0⟩ := DataW.trod_int Tryz.underlying3 g0
  obtain ⟨p1, r1, t1, u1⟩ := DataW.trod_int Tryz.underlying3 g1
  obtain ⟨p2, r2, t2, u2⟩ := DataW.trod_int Tryz.underlying3 g2
  obtain ⟨R, r3, b3⟩ := ru_of_cells g3
  obtain ⟨h, r4, b4⟩ := hd_of_cells g4
  have l5 : (cr ++ ch).length = 17 := by rw [List.length_append, hr, hh]
  have e5 : (cr ++ (ch ++ [cl])).drop 17 = [cl] := by rw [← List.append_assoc, ← l5, List.drop_left]
  rw [e5] at g5
  obtain ⟨l, s5, b5⟩ := rus_of_cells (v := cl) (by simpa using g5)
  simp at r0 r1 r2
  subst r0 r1 r2
  have e3 : cr = encU R := by first | exact r3 | (simpa [← hr] using r3)
  have e4 : ch = [.int .u32 h.s, .int .u32 h.d, .int .u16 h.p, .int .u16 h.q, .int .u8 h.r] := by first | exact r4 | (simpa [← hr, ← hh] using r4)
  subst e3 e4
  exact ⟨⟨p0, p1, p2, R, h, cl, l⟩, rfl, wf_sgn u0, wf_sgn u1, wf_sgn u2, b3, b4, s5, b5⟩
end Go.Proofs.YtfpmljgmfapoiaaGreat
/-
  Lists of headers, of numbers, of calls among the arguments. Written by tools/mkPnFr.py.
-/
namespace Go.Proofs.YtfpmljgmfapoiaaGreat
open Go.ChangeShapes Go.WideShapes Go.ChangeAt Go.RowKit Go.Joins
set_option linter.unusedVariables false
set_option linter.unusedSimpArgs false
set_option maxRecDepth 100000

variable {H : Type} {enc : TypeId × Value → H} {w : World} {base : Nat} {spare : Nat → Bool} {held : Bool}
def opZ : Opp := ⟨0, 0, 0, ruZ, ⟨0, 0, 0, 0, 0⟩, .slice none 0 0, []⟩
def SrcOp (w : World) (v : Value) (l : List Opp) : Prop :=
  ∃ (ad : Option Addr) (cap : Nat), v = .slice ad l.length cap ∧ (l.length ≤ cap ∧ (ad = none → cap = 0)) ∧ (0 < l.length → ∃ g off, ad = some ⟨g, off, none⟩ ∧ ∀ k (hk : k < l.length) j, j < 21 → w.cell? ⟨g, off + (k * 21 + j), none⟩ = (encOp (l[k]'hk))[j]?)
theorem SrcOp.rng {w : World} {ad : Option Addr} {n cap : Nat} {l : List Opp} (h : SrcOp w (.slice ad n cap) l) (W : World) (hb : Below w.heap.size w W) (k : Nat) (hk : k < l.length) : ∃ g off, ad = some ⟨g, off, none⟩ ∧ W.rangeAt g (off + k * 21) (encOp (l[k]'hk)) := by
  obtain ⟨ad', cap', e, hc, h2⟩ := h
  obtain ⟨rfl, e2, rfl⟩ : ad = ad' ∧ n = l.length ∧ cap = cap' := by cases e; exact ⟨rfl, rfl, rfl⟩
  obtain ⟨g, off, e, h3⟩ := h2 (by omega)
  refine ⟨g, off, e, fun j u hu => ?_⟩
  have hj : j < 21 := by
    have := (List.getElem?_eq_some_iff.1 hu).1
    simpa [encOp, encU] using this
  have := h3 k hk j hj
  rw [show off + k * 21 + j = off + (k * 21 + j) by omega]
  exact cell_on1 hb (this.trans hu)
theorem ops_of_cells {fuel : Nat} {v : Value} {y : DataW H × List MemPlace} (hfu : DataW.trod enc Tryz.prog w base spare held fuel 25 [v] = some y) : ∃ l : List Opp, SrcOp w v l ∧ ∀ R ∈ l, BdO w R := by
  rcases Go.Deep.open_slice Tryz.underlying25 hfu with ⟨hc, hx⟩ | ⟨a, len, cap, m, k, D, Pl, hc, _, hl, hm, hmm, hx, hall⟩
  · simp at hc
    subst hc
    exact ⟨[], ⟨none, 0, rfl, ⟨Nat.le_refl _, fun _ => rfl⟩, fun h0 => absurd h0 (Nat.lt_irrefl _)⟩, fun s hs => by cases hs⟩
  · simp at hc
    subst hc
    have hlm : len ≤ m := by rw [hmm]; split <;> omega
    have val : ∀ i, ∃ X : Opp, i < len → (∀ j, j < 21 → w.cell? ((a.add (i * 21)).add j) = (encOp X)[j]?) ∧ BdO w X := by
      intro i
      by_cases hi : i < len
      · obtain ⟨cs', h1, h2⟩ := hall i (by omega)
        rw [cells_Op] at h1
        obtain ⟨X, rfl, hb⟩ := op_of_cells h2
        exact ⟨X, fun _ => ⟨fun j hj => cells_at h1 j hj, hb⟩⟩
      · exact ⟨opZ, fun h => absurd h hi⟩
    obtain ⟨f, hf⟩ : ∃ f : Nat → Opp, f = fun i => Classical.choose (val i) := ⟨_, rfl⟩
    have hF : ∀ i, i < len → (∀ j, j < 21 → w.cell? ((a.add (i * 21)).add j) = (encOp (f i))[j]?) ∧ BdO w (f i) := by rw [hf]; exact fun i => Classical.choose_spec (val i)
    refine ⟨(List.range len).map f, ⟨some a, cap, by simp, ⟨by simpa using hl, fun e => by cases e⟩, fun h0 => ?_⟩, fun R hR => ?_⟩
    · simp at h0
      have h00 := (hF 0 h0).1 0 (by decide)
      have hsp : a.spot = none := no_spot (h00.trans rfl)
      obtain ⟨b, off, spot⟩ := a
      simp only at hsp
      subst hsp
      refine ⟨b, off, rfl, fun i hi j hj => ?_⟩
      simp at hi
      have := (hF i hi).1 j hj
      rw [Addr.add_lit, Addr.add_lit, Nat.add_assoc] at this
      rw [this]
      simp
    · obtain ⟨i, hi, rfl⟩ := List.mem_map.1 hR
      exact (hF i (List.mem_range.1 hi)).2
theorem open_ops {r : Reach} {b0 : Nat} {v : Value} {d : DataW H} {p : List MemPlace}
    (hv : Value.okWide Tryz.prog w r b0 25 v) (h : DataW.Trod enc Tryz.prog w base spare held 25 v d p) : ∃ l : List Opp, (SrcOp w v l ∧ ∀ R ∈ l, BdO w R) ∧ True := by
  obtain ⟨a0, len, cap, rfl⟩ := okWide_slice Tryz.underlying25 hv
  obtain ⟨fuel, hfu⟩ := h
  obtain ⟨l, h1⟩ := ops_of_cells (by simpa [Value.cells] using hfu)
  exact ⟨l, h1, trivial⟩
def encHd (h : Hd) : List Value := [.int .u32 h.s, .int .u32 h.d, .int .u16 h.p, .int .u16 h.q, .int .u8 h.r]
def hdZ : Hd := ⟨0, 0, 0, 0, 0⟩
def SrcH (w : World) (v : Value) (l : List Hd) : Prop :=
  ∃ (ad : Option Addr) (cap : Nat), v = .slice ad l.length cap ∧ (l.length ≤ cap ∧ (ad = none → cap = 0)) ∧ (0 < l.length → ∃ g off, ad = some ⟨g, off, none⟩ ∧ ∀ k (hk : k < l.length) j, j < 5 → w.cell? ⟨g, off + (k * 5 + j), none⟩ = (encHd (l[k]'hk))[j]?)
theorem SrcH.rng {w : World} {ad : Option Addr} {n cap : Nat} {l : List Hd} (h : SrcH w (.slice ad n cap) l) (W : World) (hb : Below w.heap.size w W) (k : Nat) (hk : k < l.length) : ∃ g off, ad = some ⟨g, off, none⟩ ∧ W.rangeAt g (off + k * 5) (encHd (l[k]'hk)) := by
  obtain ⟨ad', cap', e, hc, h2⟩ := h
  obtain ⟨rfl, e2, rfl⟩ : ad = ad' ∧ n = l.length ∧ cap = cap' := by cases e; exact ⟨rfl, rfl, rfl⟩
  obtain ⟨g, off, e, h3⟩ := h2 (by omega)
  refine ⟨g, off, e, fun j u hu => ?_⟩
  have hj : j < 5 := by
    have := (List.getElem?_eq_some_iff.1 hu).1
    simpa [encHd] using this
  have := h3 k hk j hj
  rw [show off + k * 5 + j = off + (k * 5 + j) by omega]
  exact cell_on1 hb (this.trans hu)
theorem hds_of_cells {fuel : Nat} {v : Value} {y : DataW H × List MemPlace} (hfu : DataW.trod enc Tryz.prog w base spare held fuel 26 [v] = some y) : ∃ l : List Hd, SrcH w v l ∧ ∀ R ∈ l, OkH R := by
  rcases Go.Deep.open_slice Tryz.underlying26 hfu with ⟨hc, hx⟩ | ⟨a, len, cap, m, k, D, Pl, hc, _, hl, hm, hmm, hx, hall⟩
  · simp at hc
    subst hc
    exact ⟨[], ⟨none, 0, rfl, ⟨Nat.le_refl _, fun _ => rfl⟩, fun h0 => absurd h0 (Nat.lt_irrefl _)⟩, fun s hs => by cases hs⟩
  · simp at hc
    subst hc
    have hlm : len ≤ m := by rw [hmm]; split <;> omega
    have val : ∀ i, ∃ X : Hd, i < len → (∀ j, j < 5 → w.cell? ((a.add (i * 5)).add j) = (encHd X)[j]?) ∧ OkH X := by
      intro i
      by_cases hi : i < len
      · obtain ⟨cs', h1, h2⟩ := hall i (by omega)
        rw [cells_Header] at h1
        obtain ⟨X, rfl, hb⟩ := hd_of_cells h2
        exact ⟨X, fun _ => ⟨fun j hj => cells_at h1 j hj, hb⟩⟩
      · exact ⟨hdZ, fun h => absurd h hi⟩
    obtain ⟨f, hf⟩ : ∃ f : Nat → Hd, f = fun i => Classical.choose (val i) := ⟨_, rfl⟩
    have hF : ∀ i, i < len → (∀ j, j < 5 → w.cell? ((a.add (i * 5)).add j) = (encHd (f i))[j]?) ∧ OkH (f i) := by rw [hf]; exact fun i => Classical.choose_spec (val i)
    refine ⟨(List.range len).map f, ⟨some a, cap, by simp, ⟨by simpa using hl, fun e => by cases e⟩, fun h0 => ?_⟩, fun R hR => ?_⟩
    · simp at h0
      have h00 := (hF 0 h0).1 0 (by decide)
      have hsp : a.spot = none := no_spot (h00.trans rfl)
      obtain ⟨b, off, spot⟩ := a
      simp only at hsp
      subst hsp
      refine ⟨b, off, rfl, fun i hi j hj => ?_⟩
      simp at hi
      have := (hF i hi).1 j hj
      rw [Addr.add_lit, Addr.add_lit, Nat.add_assoc] at this
      rw [this]
      simp
    · obtain ⟨i, hi, rfl⟩ := List.mem_map.1 hR
      exact (hF i (List.mem_range.1 hi)).2
theorem open_hds {r : Reach} {b0 : Nat} {v : Value} {d : DataW H} {p : List MemPlace}
    (hv : Value.okWide Tryz.prog w r b0 26 v) (h : DataW.Trod enc Tryz.prog w base spare held 26 v d p) : ∃ l : List Hd, (SrcH w v l ∧ ∀ R ∈ l, OkH R) ∧ True := by
  obtain ⟨a0, len, cap, rfl⟩ := okWide_slice Tryz.underlying26 hv
  obtain ⟨fuel, hfu⟩ := h
  obtain ⟨l, h1⟩ := hds_of_cells (by simpa [Value.cells] using hfu)
  exact ⟨l, h1, trivial⟩
end Go.Proofs.YtfpmljgmfapoiaaGreat
