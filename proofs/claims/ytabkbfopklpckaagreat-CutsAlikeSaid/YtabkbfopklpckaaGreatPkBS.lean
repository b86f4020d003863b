/-
  PkBS: CtC CtFr, one behind the other (tools/pack.py).
-/
import Derived.Test.YtabkbfopklpckaaGreatPkBR
import Derived.Test.YtabkbfopklpckaaGreatPkAE
import Derived.Test.YtabkbfopklpckaaGreatRows
import Derived.ProofKit
import Derived.OpenShut
import Derived.Lib.SmallJoins
import Derived.ChangeSlices
import Derived.Deep.Slices
import Derived.ChangeMaps5
import Derived.Carry
import Derived.Test.YtabkbfopklpckaaGreatPkBO
set_option linter.unusedVariables false
set_option linter.unusedSimpArgs false
namespace Go.Proofs.YtabkbfopklpckaaGreat
open Go.RowKit
def sel : List Bool → List Ru → List Ru
 | b :: B, R :: l => if b = true then R :: sel B l else sel B l
 | _, _ => []
theorem sel_sub : ∀ (B : List Bool) (l : List Ru), (sel B l).Sublist l
 | [], l => by cases l <;> simp [sel]
 | b :: B, [] => by simp [sel]
 | b :: B, R :: l => by
  unfold sel
  split
  ·exact (sel_sub B l).cons_cons R
  ·exact (sel_sub B l).cons R
theorem sel_len : ∀ (B : List Bool) (l : List Ru), B.length = l.length → (sel B l).length = B.count true
 | [], l, h => by cases l <;> simp [sel]
 | b :: B, [], h => by simp at h
 | b :: B, R :: l, h => by
  have ih := sel_len B l (by simpa using h)
  unfold sel
  cases b <;> simp [ih]
theorem sel_none (n : Nat) (l : List Ru) : sel (List.replicate n false) l = [] := by
 induction n generalizing l with
 | zero => cases l <;> rfl
 | succ n ih =>
  cases l with
  | nil => rfl
  | cons R l => rw [List.replicate_succ]; unfold sel; rw [if_neg (by decide)]; exact ih l
theorem sel_all : ∀ (B : List Bool) (l : List Ru), B.length = l.length → (∀ b ∈ B, b = true) → sel B l = l
 | [], l, h, _ => by cases l with | nil => rfl | cons R l => simp at h
 | b :: B, [], h, _ => by simp at h
 | b :: B, R :: l, h, hb => by
  unfold sel
  rw [if_pos (hb b (by simp)), sel_all B l (by simpa using h) (fun x hx => hb x (by simp [hx]))]
theorem sel_set : ∀ (B : List Bool) (l : List Ru) (k : Nat) (hB : B.length = l.length) (hk : k < l.length), B[k]? = some false → sel (B.set k true) l = putL (sel B l) ((B.take k).count true) l[k]
 | [], l, k, hB, hk, hf => by simp at hf
 | b :: B, [], k, hB, hk, hf => by simp at hk
 | b :: B, R :: l, 0, hB, hk, hf => by
  have : b = false := by simpa using hf
  subst this
  simp [sel, putL]
 | b :: B, R :: l, k + 1, hB, hk, hf => by
  have ih := sel_set B l k (by simpa using hB) (by simpa using hk) (by simpa using hf)
  rw [List.set_cons_succ]
  unfold sel
  cases b with
  | false => rw [if_neg (by decide), if_neg (by decide), ih]; simp
  | true => rw [if_pos rfl, if_pos rfl, ih]; simp [putL]
theorem sel_not {B : List Bool} {l : List Ru} {k : Nat} (hB : B.length = l.length) (hk : k < l.length) (hf : B[k]? = some false) (o : OkN l) : fnd (sel B l) l[k].i = -1 := by
 have h1 : ((sel (B.set k true) l).map Ru.i).Nodup := ((sel_sub (B.set k true) l).map Ru.i).nodup o.one
 rw [sel_set B l k hB hk hf] at h1
 have hp : (putL (sel B l) ((B.take k).count true) l[k]).Perm (l[k] :: sel B l) := by
  unfold putL
  refine List.perm_middle.trans ?_
  rw [List.take_append_drop]
 rw [(hp.map Ru.i).nodup_iff, List.map_cons, List.nodup_cons] at h1
 rw [fnd_none]
 intro R hR e
 exact h1.1 (List.mem_map.2 ⟨R, hR, e⟩)
theorem cnt_false {B : List Bool} (h : B.count true < B.length) : ∃ j : Nat, B[j]? = some false := by
 apply Classical.byContradiction
 intro hn
 have : ∀ b ∈ B, true = b := fun b hb => by
  obtain ⟨j, hj, e⟩ := List.mem_iff_getElem.1 hb
  cases hb' : b with
  | true => rfl
  | false => exact absurd ⟨j, by rw [List.getElem?_eq_getElem hj, e, hb']⟩ hn
 have := List.count_eq_length.2 this
 omega
theorem cnt_set : ∀ (B : List Bool) (k : Nat), B[k]? = some false → (B.set k true).count true = B.count true + 1
 | [], k, h => by simp at h
 | b :: B, 0, h => by
  have : b = false := by simpa using h
  subst this
  simp
 | b :: B, k + 1, h => by
  have := cnt_set B k (by simpa using h)
  rw [List.set_cons_succ]
  cases b <;> simp [this]
theorem cntB_step {B : List Bool} {m : Nat} (h : m < B.length) : (B.take (m + 1)).count true = (B.take m).count true + if B[m] = true then 1 else 0 := by
 rw [take_at h, List.count_append]
 cases hb : B[m] <;> simp [hb]
theorem cnt_take (B : List Bool) (k : Nat) : (B.take k).count true ≤ B.count true := (List.take_sublist k B).count_le true
def aC : Cf := ⟨64, 4, 1048576, 1048576, 1048576, 4, 8⟩
theorem aC_bd : BdC aC := by unfold BdC I64 aC; decide
theorem aC_ok : okC aC = true := by decide
theorem pin_a {L : List Ru} (o : OkN L) (p : Int) (R : Ru) : pinE aC L p R = insE L 64 p R := rfl
theorem pinL_a {L : List Ru} (o : OkN L) {p : Int} {R : Ru} (h : insE L 64 p R = 0) : pinL aC L p R = putL L p.toNat R := if_pos h
theorem ins_sel {B : List Bool} {l : List Ru} {k : Nat} (hB : B.length = l.length) (hk : k < l.length) (hf : B[k]? = some false) (o : OkN l) : insE (sel B l) 64 (((B.take k).count true : Nat) : Int) l[k] = 0 := by
 have hj : joinE (sel B l) l[k] = 0 := joinE_ok.2 ⟨(okR_err _).1 (o.may _ (List.getElem_mem hk)), sel_not hB hk hf o⟩
 have h1 := cnt_take B k
 have h2 := cnt_set B k hf
 have h3 : (B.set k true).count true ≤ (B.set k true).length := List.count_le_length
 rw [List.length_set] at h3
 have h4 := o.few
 unfold insE
 rw [if_pos hj, sel_len B l hB, if_pos (by omega), if_neg (by omega)]
theorem put_sel {B : List Bool} {l : List Ru} {k : Nat} (hB : B.length = l.length) (hk : k < l.length) (hf : B[k]? = some false) (o : OkN l) : pinE aC (sel B l) (((B.take k).count true : Nat) : Int) l[k] = 0 ∧ pinL aC (sel B l) (((B.take k).count true : Nat) : Int) l[k] = sel (B.set k true) l := by
 have os := okN_sub o (sel_sub B l)
 have h := ins_sel hB hk hf o
 refine ⟨by rw [pin_a os]; exact h, ?_⟩
 rw [pinL_a os h, sel_set B l k hB hk hf, Int.toNat_natCast]
theorem in_out {L : List Ru} (o : OkN L) {R : Ru} (h : pinE aC L 0 R = 0) : delE (pinL aC L 0 R) R.i = 0 ∧ delL (pinL aC L 0 R) R.i = L := by
 rw [pin_a o] at h
 rw [pinL_a o h]
 have e : putL L (0 : Int).toNat R = R :: L := by simp [putL]
 rw [e]
 have f : fnd (R :: L) R.i = 0 := by unfold fnd fndK; rw [if_pos rfl]; rfl
 refine ⟨if_pos (by rw [f]; decide), ?_⟩
 unfold delL
 rw [if_pos (by rw [f]; decide), f]
 simp [outL]
theorem madeB (n : Nat) : madeCells #[.bool false] n = ((List.replicate n false).map Value.bool).toArray := by
 apply Array.toList_inj.1
 apply List.ext_getElem
 ·rw [Array.length_toList, size_madeCells]; simp
 ·intro k h1 h2
  simp only [madeCells, Array.getElem_toList, Array.getElem_map, Array.getElem_range]
  simp [Nat.mod_one]
theorem infoB : (Tryz.prog.info? 4).map (fun i => (i.zero, i.size, i.bytes)) = some (some (.bool false), 1, 1) := by kernel_rfl
theorem only_setCellF (w : World) (t j : Nat) (u : Value) : Only t w (w.setCell ⟨t, j, none⟩ u) :=
 ⟨rfl, rfl, rfl, by simp, fun k hk => Below.heap_setCell w ⟨t, j, none⟩ u k hk⟩
structure Alk (w W : World) (X Y Bi : Nat) (l M : List Ru) (B : List Bool) : Prop where
 eb : ∃ S S' : Nat → Prop, Eng W X aC l S ∧ Eng W Y aC M S' ∧ ¬ S Y ∧ ¬ S Bi ∧ ¬ S' X ∧ ¬ S' Bi ∧ (∀ k, S k → S' k → False) ∧ (∀ k, S' k → w.heap.size ≤ k) ∧ ∀ k, S k → k < W.heap.size
 xy : X ≠ Y
 bx : Bi ≠ X
 by' : Bi ≠ Y
 blk : W.heap[Bi]? = some (.cells (B.map Value.bool).toArray 4 (0, 0))
 wy : w.heap.size ≤ Y
 wb : w.heap.size ≤ Bi
 bel : Below w.heap.size w W
theorem Alk.on {w W W' : World} {X Y Bi : Nat} {l M : List Ru} {B : List Bool} (h : Alk w W X Y Bi l M B) (hb : Below W.heap.size W W') : Alk w W' X Y Bi l M B := by
 obtain ⟨S, S', a, b, a1, a2, b1, b2, dj, lo, hi⟩ := h.eb
 exact ⟨⟨S, S', a.on hb, b.on hb, a1, a2, b1, b2, dj, lo, fun k e => Nat.lt_of_lt_of_le (hi k e) hb.size⟩, h.xy, h.bx, h.by', blk_on h.blk hb, h.wy, h.wb, h.bel.trans (hb.mono h.bel.size)⟩
theorem Alk.okM {w W : World} {X Y Bi : Nat} {l M : List Ru} {B : List Bool} (h : Alk w W X Y Bi l M B) : OkN M := by
 obtain ⟨S, S', a, b, _⟩ := h.eb
 exact b.ok
theorem Alk.did {w W : World} {X Y Bi : Nat} {l M : List Ru} {B : List Bool} (h : Alk w W X Y Bi l M B) : ∃ S : Nat → Prop, Eng W Y aC M S ∧ ∀ {W' : World} {M' : List Ru}, Did W W' Y aC M' S → Alk w W' X Y Bi l M' B := by
 obtain ⟨S, S', a, b, a1, a2, b1, b2, dj, lo, hi⟩ := h.eb
 refine ⟨S', b, fun {W' M'} hd => ?_⟩
 obtain ⟨hE, hg⟩ := hd
 have hbl := blk_lt h.blk
 have hz := h.bel.size
 have hXl := a.lt
 refine ⟨⟨S, _, a.stay hg.size (fun k hk e => hg.block k hk ?_ ?_), hE, a1, a2, ?_, ?_, ?_, ?_, ?_⟩, h.xy, h.bx, h.by', ?_, h.wy, h.wb, hg.below h.bel h.bel.size h.wy lo⟩
 ·rintro rfl
  rcases e with e | e
  ·exact h.xy e.symm
  ·exact a1 e
 ·intro e2
  rcases e with rfl | e
  ·exact b1 e2
  ·exact dj k e e2
 ·rintro (e | ⟨e, _⟩)
  ·exact b1 e
  ·omega
 ·rintro (e | ⟨e, _⟩)
  ·exact b2 e
  ·omega
 ·rintro k e (e2 | ⟨e2, _⟩)
  ·exact dj k e e2
  ·have := hi k e; omega
 ·rintro k (e2 | ⟨e2, _⟩)
  ·exact lo k e2
  ·omega
 ·intro k e
  have := hi k e
  have := hg.size
  omega
 ·rw [hg.block Bi hbl h.by' b2]; exact h.blk
theorem Alk.ins {w W : World} {X Y Bi : Nat} {l M : List Ru} {B : List Bool} (h : Alk w W X Y Bi l M B) (p : Int) (R : Ru) (b : BdR R) :
  Calls Tryz.prog 20 #[.pointer (some ⟨Y, 0, none⟩), .int .i64 p, .agg #[.int .i64 R.i, .int .u32 R.s, .int .i64 R.sl, .int .u32 R.d, .int .i64 R.dl, .int .u16 R.p.1, .int .u16 R.p.2, .int .u16 R.q.1, .int .u16 R.q.2, .int .u8 R.m.1, .int .u8 R.m.2, .int .i64 R.act]] W fun e W' => e = .returned (.int .i64 (pinE aC M p R)) ∧ Alk w W' X Y Bi l (pinL aC M p R) B := by
 obtain ⟨S, hE, hd⟩ := h.did
 exact (insertE Y aC M S p R W hE b aC_bd (by decide)).mono fun e W' ⟨he, h2⟩ => ⟨he, hd h2⟩
theorem Alk.del {w W : World} {X Y Bi : Nat} {l M : List Ru} {B : List Bool} (h : Alk w W X Y Bi l M B) (x : Int) :
  Calls Tryz.prog 21 #[.pointer (some ⟨Y, 0, none⟩), .int .i64 x] W fun e W' => e = .returned (.int .i64 (delE M x)) ∧ Alk w W' X Y Bi l (delL M x) B := by
 obtain ⟨S, hE, hd⟩ := h.did
 exact (deleteE Y aC M S x W hE).mono fun e W' ⟨he, h2⟩ => ⟨he, hd h2⟩
theorem Alk.set {w W : World} {X Y Bi : Nat} {l M : List Ru} {B : List Bool} (h : Alk w W X Y Bi l M B) (k : Nat) (b : Bool) : Alk w (W.setCell ⟨Bi, k, none⟩ (.bool b)) X Y Bi l M (B.set k b) := by
 obtain ⟨S, S', a, b', a1, a2, b1, b2, dj, lo, hi⟩ := h.eb
 have hg : W.grownBy (W.setCell ⟨Bi, k, none⟩ (.bool b)) (some Bi) := gr_only (World.grownBy.refl _ _) (only_setCellF W Bi k _)
 refine ⟨⟨S, S', a.stay hg.size (fun j hj e => hg.block j hj (fun e2 => ?_)), b'.stay hg.size (fun j hj e => hg.block j hj (fun e2 => ?_)), a1, a2, b1, b2, dj, lo, fun j e => Nat.lt_of_lt_of_le (hi j e) hg.size⟩, h.xy, h.bx, h.by', ?_, h.wy, h.wb, h.bel.grown hg h.bel.size (fun k e => by injection e with e; have := h.wb; omega)⟩
 ·injection e2 with e2
  subst e2
  rcases e with e | e
  ·exact h.bx e
  ·exact a2 e
 ·injection e2 with e2
  subst e2
  rcases e with e | e
  ·exact h.by' e
  ·exact b2 e
 have := blk_set (j := k) h.blk (.bool b)
 rw [this]
 congr 2
 simp [List.map_set]
theorem Alk.cell {w W : World} {X Y Bi : Nat} {l M : List Ru} {B : List Bool} (h : Alk w W X Y Bi l M B) {k : Nat} {b : Bool} (hk : B[k]? = some b) : W.cell? ⟨Bi, k, none⟩ = some (.bool b) ∧ W.frozen? ⟨Bi, k, none⟩ = false :=
 ⟨blk_cell h.blk (by simp [hk]), blk_free h.blk k⟩
theorem Alk.askX {w W : World} {X Y Bi : Nat} {l M : List Ru} {B : List Bool} (hA : Alk w W X Y Bi l M B) (h : Hd) (oh : OkH h) :
  Calls Tryz.prog 12 #[.pointer (some ⟨X, 0, none⟩), .agg #[.int .u32 h.s, .int .u32 h.d, .int .u16 h.p, .int .u16 h.q, .int .u8 h.r]] W fun e W' => ∃ a b d : Int, e = .returned (.tuple #[vdV aC l h, .agg #[.int .i64 a, .int .i64 b, .int .i64 d, .int .i64 0, .int .i64 0]]) ∧ Below W.heap.size W W' := by
 obtain ⟨S, S', a, b, _⟩ := hA.eb
 exact (askE X aC l _ h W a oh).mono fun e W' ⟨he, hb⟩ => ⟨_, _, _, he, hb⟩
theorem Alk.askY {w W : World} {X Y Bi : Nat} {l M : List Ru} {B : List Bool} (hA : Alk w W X Y Bi l M B) (h : Hd) (oh : OkH h) :
  Calls Tryz.prog 12 #[.pointer (some ⟨Y, 0, none⟩), .agg #[.int .u32 h.s, .int .u32 h.d, .int .u16 h.p, .int .u16 h.q, .int .u8 h.r]] W fun e W' => ∃ a b d : Int, e = .returned (.tuple #[vdV aC M h, .agg #[.int .i64 a, .int .i64 b, .int .i64 d, .int .i64 0, .int .i64 0]]) ∧ Below W.heap.size W W' := by
 obtain ⟨S, S', a, b, _⟩ := hA.eb
 exact (askE Y aC M _ h W b oh).mono fun e W' ⟨he, hb⟩ => ⟨_, _, _, he, hb⟩
set_option maxHeartbeats 1000000 in
theorem pickC (c : Int) (n : Nat) (w : World) (hc : I64 c) (h0 : 0 < n) (hn : n ≤ 64) : Calls Tryz.prog 19 #[.int .i64 c, .int .i64 n] w fun e w' => ∃ k : Nat, k < n ∧ e = .returned (.int .i64 k) ∧ w' = w := by
 have key : ∀ d : Int, 0 ≤ d → (d % (n : Int)).toNat < n ∧ d % (n : Int) = (((d % (n : Int)).toNat : Nat) : Int) := fun d h1 => by
  have e2 := Int.emod_nonneg d (b := (n : Int)) (by omega)
  have e3 := Int.emod_lt_of_pos d (b := (n : Int)) (by omega)
  exact ⟨by omega, by omega⟩
 unfold I64 at hc
 have hn0 : ¬ (n : Int) = 0 := by omega
 have hn1 : ((n : Int) == 0) = false := by rw [beq_eq_false_iff_ne]; exact hn0
 by_cases hneg : c < 0
 ·have Hk : Hid _ := key (-(c + 1)) (by omega)
  have He : Hid (-((c + 1).tmod (n : Int)) = (-(c + 1)) % (n : Int)) := by
   show _ = _
   rw [← Int.neg_tmod]
   exact Int.tmod_eq_emod_of_nonneg (by omega)
  clear key
  go_enter Tryz.func19, Tryz.ntmps19
  go_wp2
  go_ret
  exact ⟨_, Hk.out.1, ret_int (He.out.trans Hk.out.2), rfl⟩
 ·have Hk : Hid _ := key c (by omega)
  clear key
  go_enter Tryz.func19, Tryz.ntmps19
  go_wp2
  go_ret
  exact ⟨_, Hk.out.1, ret_int Hk.out.2, rfl⟩
end Go.Proofs.YtabkbfopklpckaaGreat
namespace Go.Proofs.YtabkbfopklpckaaGreat
open Go.ChangeShapes Go.WideShapes Go.ChangeAt Go.RowKit Go.Joins
set_option maxRecDepth 20000
theorem own : ownKnob Tryz.prog.godebug = none := by kernel_rfl
theorem laidOut : laidOutB Tryz.prog = true := by kernel_rfl
theorem cells_int : Tryz.prog.cellsOf 3 = 1 := by kernel_rfl
theorem cells_u32 : Tryz.prog.cellsOf 25 = 1 := by kernel_rfl
theorem cells_u16 : Tryz.prog.cellsOf 26 = 1 := by kernel_rfl
theorem cells_u8 : Tryz.prog.cellsOf 5 = 1 := by kernel_rfl
theorem cells_Action : Tryz.prog.cellsOf 22 = 1 := by kernel_rfl
theorem cells_Prefix : Tryz.prog.cellsOf 58 = 2 := by kernel_rfl
theorem cells_Span : Tryz.prog.cellsOf 60 = 2 := by kernel_rfl
theorem cells_Mask : Tryz.prog.cellsOf 62 = 2 := by kernel_rfl
theorem cells_Rule : Tryz.prog.cellsOf 64 = 12 := by kernel_rfl
theorem cells_Header : Tryz.prog.cellsOf 28 = 5 := by kernel_rfl
theorem wf_sgn {a : Int} (h : (Lit.int .i64 a).wf = true) : I64 a := by
 have h1 : IntKind.i64.min ≤ a ∧ a ≤ IntKind.i64.max := by simpa [Lit.wf] using h
 have e1 : IntKind.i64.min = -9223372036854775808 := rfl
 have e2 : IntKind.i64.max = 9223372036854775807 := rfl
 unfold I64
 omega
theorem wf_u32 {a : Int} (h : (Lit.int .u32 a).wf = true) : ∃ n : Nat, a = (n : Int) ∧ n < 4294967296 := by
 have h1 : IntKind.u32.min ≤ a ∧ a ≤ IntKind.u32.max := by simpa [Lit.wf] using h
 have e1 : IntKind.u32.min = 0 := rfl
 have e2 : IntKind.u32.max = 4294967295 := rfl
 exact ⟨a.toNat, by omega, by omega⟩
theorem wf_u16 {a : Int} (h : (Lit.int .u16 a).wf = true) : ∃ n : Nat, a = (n : Int) ∧ n < 65536 := by
 have h1 : IntKind.u16.min ≤ a ∧ a ≤ IntKind.u16.max := by simpa [Lit.wf] using h
 have e1 : IntKind.u16.min = 0 := rfl
 have e2 : IntKind.u16.max = 65535 := rfl
 exact ⟨a.toNat, by omega, by omega⟩
theorem wf_u8 {a : Int} (h : (Lit.int .u8 a).wf = true) : ∃ n : Nat, a = (n : Int) ∧ n < 256 := by
 have h1 : IntKind.u8.min ≤ a ∧ a ≤ IntKind.u8.max := by simpa [Lit.wf] using h
 have e1 : IntKind.u8.min = 0 := rfl
 have e2 : IntKind.u8.max = 255 := rfl
 exact ⟨a.toNat, by omega, by omega⟩
variable {H : Type} {enc : TypeId × Value → H} {w : World} {base : Nat} {spare : Nat → Bool} {held : Bool}
theorem two_pf {fuel : Nat} {c0 c1 : Value} {y : DataW H × List MemPlace} (h : DataW.trod enc Tryz.prog w base spare held fuel 58 [c0, c1] = some y) : ∃ (p : Nat) (q : Int), c0 = .int .u32 p ∧ c1 = .int .i64 q ∧ p < 4294967296 ∧ I64 q := by
 obtain ⟨y0, y1, n, hx, hl, g0, g1⟩ := trod_struct2 Tryz.underlying58 h
 simp [cells_u32, cells_int] at g0 g1
 obtain ⟨a0, e0, rfl, w0⟩ := DataW.trod_int Tryz.underlying25 g0
 obtain ⟨a1, e1, rfl, w1⟩ := DataW.trod_int Tryz.underlying3 g1
 simp at e0 e1
 subst e0 e1
 obtain ⟨k0, rfl, l0⟩ := wf_u32 w0
 exact ⟨k0, a1, rfl, rfl, l0, wf_sgn w1⟩
theorem two_sp {fuel : Nat} {c0 c1 : Value} {y : DataW H × List MemPlace} (h : DataW.trod enc Tryz.prog w base spare held fuel 60 [c0, c1] = some y) : ∃ p : Nat × Nat, c0 = .int .u16 p.1 ∧ c1 = .int .u16 p.2 ∧ p.1 < 65536 ∧ p.2 < 65536 := by
 obtain ⟨y0, y1, n, hx, hl, g0, g1⟩ := trod_struct2 Tryz.underlying60 h
 simp [cells_u16] at g0 g1
 obtain ⟨a0, e0, rfl, w0⟩ := DataW.trod_int Tryz.underlying26 g0
 obtain ⟨a1, e1, rfl, w1⟩ := DataW.trod_int Tryz.underlying26 g1
 simp at e0 e1
 subst e0 e1
 obtain ⟨k0, rfl, l0⟩ := wf_u16 w0
 obtain ⟨k1, rfl, l1⟩ := wf_u16 w1
 exact ⟨(k0, k1), rfl, rfl, l0, l1⟩
theorem two_mk {fuel : Nat} {c0 c1 : Value} {y : DataW H × List MemPlace} (h : DataW.trod enc Tryz.prog w base spare held fuel 62 [c0, c1] = some y) : ∃ p : Nat × Nat, c0 = .int .u8 p.1 ∧ c1 = .int .u8 p.2 ∧ p.1 < 256 ∧ p.2 < 256 := by
 obtain ⟨y0, y1, n, hx, hl, g0, g1⟩ := trod_struct2 Tryz.underlying62 h
 simp [cells_u8] at g0 g1
 obtain ⟨a0, e0, rfl, w0⟩ := DataW.trod_int Tryz.underlying5 g0
 obtain ⟨a1, e1, rfl, w1⟩ := DataW.trod_int Tryz.underlying5 g1
 simp at e0 e1
 subst e0 e1
 obtain ⟨k0, rfl, l0⟩ := wf_u8 w0
 obtain ⟨k1, rfl, l1⟩ := wf_u8 w1
 exact ⟨(k0, k1), rfl, rfl, l0, l1⟩
theorem list12 {A : Type} {l : List A} (h : l.length = 12) : ∃ a b c d e f g i j k n m, l = [a, b, c, d, e, f, g, i, j, k, n, m] := by
 match l, h with
 | [a, b, c, d, e, f, g, i, j, k, n, m], _ => exact ⟨a, b, c, d, e, f, g, i, j, k, n, m, rfl⟩
theorem list5 {A : Type} {l : List A} (h : l.length = 5) : ∃ a b c d e, l = [a, b, c, d, e] := by
 match l, h with
 | [a, b, c, d, e], _ => exact ⟨a, b, c, d, e, rfl⟩
theorem list7 {A : Type} {l : List A} (h : l.length = 7) : ∃ a b c d e f g, l = [a, b, c, d, e, f, g] := by
 match l, h with
 | [a, b, c, d, e, f, g], _ => exact ⟨a, b, c, d, e, f, g, rfl⟩
theorem ru_of_cells {fuel : Nat} {cs : List Value} {y : DataW H × List MemPlace} (hf : DataW.trod enc Tryz.prog w base spare held fuel 64 cs = some y) : ∃ X : Ru, cs = encU X ∧ BdR X := by
 obtain ⟨xs, n, _, hx, hl, hlen, hfl⟩ := DataW.trod_struct Tryz.underlying64 hf
 obtain ⟨c0, c1, c2, c3, c4, c5, c6, c7, c8, c9, c10, c11, rfl⟩ := list12 (hl.trans cells_Rule)
 obtain ⟨y0, y1, y2, y3, y4, y5, y6, rfl⟩ := list7 (l := xs) (by simpa using hlen)
 have g0 := hfl 0 _ rfl
 have g1 := hfl 1 _ rfl
 have g2 := hfl 2 _ rfl
 have g3 := hfl 3 _ rfl
 have g4 := hfl 4 _ rfl
 have g5 := hfl 5 _ rfl
 have g6 := hfl 6 _ rfl
 simp [cells_int, cells_Action, cells_Prefix, cells_Span, cells_Mask] at g0 g1 g2 g3 g4 g5 g6
 obtain ⟨p0, r0, t0, u0⟩ := DataW.trod_int Tryz.underlying3 g0
 obtain ⟨p1, n1, r1, s1, u1, v1⟩ := two_pf g1
 obtain ⟨p2, n2, r2, s2, u2, v2⟩ := two_pf g2
 obtain ⟨p3, r3, s3, u3, v3⟩ := two_sp g3
 obtain ⟨p4, r4, s4, u4, v4⟩ := two_sp g4
 obtain ⟨p5, r5, s5, u5, v5⟩ := two_mk g5
 obtain ⟨p6, r6, t6, u6⟩ := DataW.trod_int Tryz.underlying22 g6
 simp at r0 r6
 subst r0 r1 r2 r3 r4 r5 r6 s1 s2 s3 s4 s5
 exact ⟨⟨p0, p1, n1, p2, n2, p3, p4, p5, p6⟩, rfl, u1, u2, u3, v3, u4, v4, u5, v5, wf_sgn u0, v1, v2, wf_sgn u6⟩
theorem hd_of_cells {fuel : Nat} {cs : List Value} {y : DataW H × List MemPlace} (hf : DataW.trod enc Tryz.prog w base spare held fuel 28 cs = some y) : ∃ h : Hd, cs = [.int .u32 h.s, .int .u32 h.d, .int .u16 h.p, .int .u16 h.q, .int .u8 h.r] ∧ OkH h := by
 obtain ⟨xs, n, _, hx, hl, hlen, hfl⟩ := DataW.trod_struct Tryz.underlying28 hf
 obtain ⟨c0, c1, c2, c3, c4, rfl⟩ := list5 (hl.trans cells_Header)
 obtain ⟨y0, y1, y2, y3, y4, rfl⟩ := list5 (l := xs) (by simpa using hlen)
 have g0 := hfl 0 _ rfl
 have g1 := hfl 1 _ rfl
 have g2 := hfl 2 _ rfl
 have g3 := hfl 3 _ rfl
 have g4 := hfl 4 _ rfl
 simp [cells_u32, cells_u16, cells_u8] at g0 g1 g2 g3 g4
 obtain ⟨p0, r0, t0, u0⟩ := DataW.trod_int Tryz.underlying25 g0
 obtain ⟨p1, r1, t1, u1⟩ := DataW.trod_int Tryz.underlying25 g1
 obtain ⟨p2, r2, t2, u2⟩ := DataW.trod_int Tryz.underlying26 g2
 obtain ⟨p3, r3, t3, u3⟩ := DataW.trod_int Tryz.underlying26 g3
 obtain ⟨p4, r4, t4, u4⟩ := DataW.trod_int Tryz.underlying5 g4
 simp at r0 r1 r2 r3 r4
 subst r0 r1 r2 r3 r4
 obtain ⟨k0, rfl, l0⟩ := wf_u32 u0
 obtain ⟨k1, rfl, l1⟩ := wf_u32 u1
 obtain ⟨k2, rfl, l2⟩ := wf_u16 u2
 obtain ⟨k3, rfl, l3⟩ := wf_u16 u3
 obtain ⟨k4, rfl, l4⟩ := wf_u8 u4
 exact ⟨⟨k0, k1, k2, k3, k4⟩, rfl, l0, l1, l2, l3, l4⟩
theorem cells_at {b : Nat} {a : Addr} {n : Nat} {cs : List Value} (h : w.cells? b a n = some cs) (j : Nat) (hj : j < n) : w.cell? (a.add j) = cs[j]? := by
 unfold World.cells? at h
 split at h
 ·obtain ⟨x, h1, h2⟩ := Lib.mapM_at h j j (by simp [hj])
  rw [h1]; exact h2
 ·cases h
theorem no_spot {a : Addr} {v : Value} (h : w.cell? ((a.add 0).add 0) = some v) : a.spot = none := by
 obtain ⟨b, off, spot⟩ := a
 cases spot with
 | none => rfl
 | some z =>
  exfalso
  simp only [Addr.add, if_true, World.cell?] at h
  split at h
  ·simp at h
  ·cases h
theorem rus_of_cells {fuel : Nat} {v : Value} {y : DataW H × List MemPlace} (hfu : DataW.trod enc Tryz.prog w base spare held fuel 56 [v] = some y) : ∃ l : List Ru, SrcU w v l ∧ ∀ R ∈ l, BdR R := by
 rcases Go.Deep.open_slice Tryz.underlying56 hfu with ⟨hc, hx⟩ | ⟨a, len, cap, m, k, D, Pl, hc, _, hl, hm, hmm, hx, hall⟩
 ·simp at hc
  subst hc
  exact ⟨[], ⟨none, 0, rfl, ⟨Nat.le_refl _, fun _ => rfl⟩, fun h0 => absurd h0 (Nat.lt_irrefl _)⟩, fun s hs => by cases hs⟩
 ·simp at hc
  subst hc
  have hlm : len ≤ m := by rw [hmm]; split <;> omega
  have val : ∀ i, ∃ X : Ru, i < len → (∀ j, j < 12 → w.cell? ((a.add (i * 12)).add j) = (encU X)[j]?) ∧ BdR X := by
   intro i
   by_cases hi : i < len
   ·obtain ⟨cs', h1, h2⟩ := hall i (by omega)
    rw [cells_Rule] at h1
    obtain ⟨X, rfl, hb⟩ := ru_of_cells h2
    exact ⟨X, fun _ => ⟨fun j hj => cells_at h1 j hj, hb⟩⟩
   ·exact ⟨ruZ, fun h => absurd h hi⟩
  obtain ⟨f, hf⟩ : ∃ f : Nat → Ru, f = fun i => Classical.choose (val i) := ⟨_, rfl⟩
  have hF : ∀ i, i < len → (∀ j, j < 12 → w.cell? ((a.add (i * 12)).add j) = (encU (f i))[j]?) ∧ BdR (f i) := by rw [hf]; exact fun i => Classical.choose_spec (val i)
  refine ⟨(List.range len).map f, ⟨some a, cap, by simp, ⟨by simpa using hl, fun e => by cases e⟩, fun h0 => ?_⟩, fun R hR => ?_⟩
  ·simp at h0
   have h00 := (hF 0 h0).1 0 (by decide)
   have hsp : a.spot = none := no_spot (h00.trans rfl)
   obtain ⟨b, off, spot⟩ := a
   simp only at hsp
   subst hsp
   refine ⟨b, off, rfl, fun i hi j hj => ?_⟩
   simp at hi
   have := (hF i hi).1 j hj
   rw [Addr.add_lit, Addr.add_lit, Nat.add_assoc] at this
   rw [this]
   simp
  ·obtain ⟨i, hi, rfl⟩ := List.mem_map.1 hR
   exact (hF i (List.mem_range.1 hi)).2
theorem open_rus {r : Reach} {b0 : Nat} {v : Value} {d : DataW H} {p : List MemPlace}
  (hv : Value.okWide Tryz.prog w r b0 56 v) (h : DataW.Trod enc Tryz.prog w base spare held 56 v d p) : ∃ l : List Ru, SrcU w v l ∧ ∀ R ∈ l, BdR R := by
 obtain ⟨a0, len, cap, rfl⟩ := okWide_slice Tryz.underlying56 hv
 obtain ⟨fuel, hfu⟩ := h
 exact rus_of_cells (by simpa [Value.cells] using hfu)
theorem open_hd {r : Reach} {b0 : Nat} {v : Value} {d : DataW H} {p : List MemPlace}
  (hv : Value.okWide Tryz.prog w r b0 28 v) (ht : DataW.Trod enc Tryz.prog w base spare held 28 v d p) : ∃ h : Hd, v = .agg #[.int .u32 h.s, .int .u32 h.d, .int .u16 h.p, .int .u16 h.q, .int .u8 h.r] ∧ OkH h := by
 obtain ⟨cs, rfl, hsz⟩ := okWide_struct Tryz.underlying28 hv
 obtain ⟨fuel, hf⟩ := ht
 obtain ⟨h, e, b⟩ := hd_of_cells (by simpa [Value.cells] using hf)
 refine ⟨h, ?_, b⟩
 obtain ⟨l⟩ := cs
 simp at e
 rw [e]
theorem open_ru {r : Reach} {b0 : Nat} {v : Value} {d : DataW H} {p : List MemPlace}
  (hv : Value.okWide Tryz.prog w r b0 64 v) (ht : DataW.Trod enc Tryz.prog w base spare held 64 v d p) : ∃ R : Ru, v = .agg #[.int .i64 R.i, .int .u32 R.s, .int .i64 R.sl, .int .u32 R.d, .int .i64 R.dl, .int .u16 R.p.1, .int .u16 R.p.2, .int .u16 R.q.1, .int .u16 R.q.2, .int .u8 R.m.1, .int .u8 R.m.2, .int .i64 R.act] ∧ BdR R := by
 obtain ⟨cs, rfl, hsz⟩ := okWide_struct Tryz.underlying64 hv
 obtain ⟨fuel, hf⟩ := ht
 obtain ⟨R, e, b⟩ := ru_of_cells (by simpa [Value.cells] using hf)
 refine ⟨R, ?_, b⟩
 obtain ⟨l⟩ := cs
 simp at e
 rw [e]; rfl
structure Opp where
 k : Int
 p : Int
 i : Int
 r : Ru
 h : Hd
 u : Value
 l : List Ru
def encO (o : Opp) : List Value := [.int .i64 o.k, .int .i64 o.p, .int .i64 o.i] ++ (encU o.r ++ ([.int .u32 o.h.s, .int .u32 o.h.d, .int .u16 o.h.p, .int .u16 o.h.q, .int .u8 o.h.r] ++ [o.u]))
end Go.Proofs.YtabkbfopklpckaaGreat
