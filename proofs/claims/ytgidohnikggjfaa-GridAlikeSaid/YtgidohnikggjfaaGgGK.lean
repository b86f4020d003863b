/-
  GgGK: GvC, one behind the other (tools/merge.py).
-/
import Derived.Test.YtgidohnikggjfaaGgGW
/-
  An engine that comes to its rules one by one, in any order, beside one that was set: the mathematics, and what holds of the two.
-/
namespace Go.Proofs.Ytgidohnikggjfaa
open Go.RowKit
set_option linter.unusedVariables false
set_option linter.unusedSimpArgs false

/-- The rules that are in. -/
def sel : List Bool → List Ru → List Ru
  | b :: B, R :: l => if b = true then R :: sel B l else sel B l
  | _, _ => []
theorem sel_sub : ∀ (B : List Bool) (l : List Ru), (sel B l).Sublist l
  | [], l => by cases l <;> simp [sel]
  | b :: B, [] => by simp [sel]
  | b :: B, R :: l => by
    unfold sel
    split
    · exact (sel_sub B l).cons_cons R
    · exact (sel_sub B l).cons R
theorem sel_len : ∀ (B : List Bool) (l : List Ru), B.length = l.length → (sel B l).length = B.count true
  | [], l, h => by cases l <;> simp [sel]
  | b :: B, [], h => by simp at h
  | b :: B, R :: l, h => by
    have ih := sel_len B l (by simpa using h)
    unfold sel
    cases b <;> simp [ih]
theorem sel_none (n : Nat) (l : List Ru) : sel (List.replicate n false) l = [] := by
  induction n generalizing l with
  | zero => cases l <;> rfl
  | succ n ih =>
    cases l with
    | nil => rfl
    | cons R l => rw [List.replicate_succ]; unfold sel; rw [if_neg (by decide)]; exact ih l
theorem sel_all : ∀ (B : List Bool) (l : List Ru), B.length = l.length → (∀ b ∈ B, b = true) → sel B l = l
  | [], l, h, _ => by cases l with | nil => rfl | cons R l => simp at h
  | b :: B, [], h, _ => by simp at h
  | b :: B, R :: l, h, hb => by
    unfold sel
    rw [if_pos (hb b (by simp)), sel_all B l (by simpa using h) (fun x hx => hb x (by simp [hx]))]
theorem sel_set : ∀ (B : List Bool) (l : List Ru) (k : Nat) (hB : B.length = l.length) (hk : k < l.length), B[k]? = some false → sel (B.set k true) l = putL (sel B l) ((B.take k).count true) l[k]
  | [], l, k, hB, hk, hf => by simp at hf
  | b :: B, [], k, hB, hk, hf => by simp at hk
  | b :: B, R :: l, 0, hB, hk, hf => by
    have : b = false := by simpa using hf
    subst this
    simp [sel, putL]
  | b :: B, R :: l, k + 1, hB, hk, hf => by
    have ih := sel_set B l k (by simpa using hB) (by simpa using hk) (by simpa using hf)
    rw [List.set_cons_succ]
    unfold sel
    cases b with
    | false => rw [if_neg (by decide), if_neg (by decide), ih]; simp
    | true => rw [if_pos rfl, if_pos rfl, ih]; simp [putL]
theorem sel_not {B : List Bool} {l : List Ru} {k : Nat} (hB : B.length = l.length) (hk : k < l.length) (hf : B[k]? = some false) (o : OkN l) : fnd (sel B l) l[k].i = -1 := by
  have h1 : ((sel (B.set k true) l).map Ru.i).Nodup := ((sel_sub (B.set k true) l).map Ru.i).nodup o.one
  rw [sel_set B l k hB hk hf] at h1
  have hp : (putL (sel B l) ((B.take k).count true) l[k]).Perm (l[k] :: sel B l) := by
    unfold putL
    refine List.perm_middle.trans ?_
    rw [List.take_append_drop]
  rw [(hp.map Ru.i).nodup_iff, List.map_cons, List.nodup_cons] at h1
  rw [fnd_none]
  intro R hR e
  exact h1.1 (List.mem_map.2 ⟨R, hR, e⟩)
theorem cnt_false {B : List Bool} (h : B.count true < B.length) : ∃ j : Nat, B[j]? = some false := by
  apply Classical.byContradiction
  intro hn
  have : ∀ b ∈ B, true = b := fun b hb => by
    obtain ⟨j, hj, e⟩ := List.mem_iff_getElem.1 hb
    cases hb' : b with
    | true => rfl
    | false => exact absurd ⟨j, by rw [List.getElem?_eq_getElem hj, e, hb']⟩ hn
  have := List.count_eq_length.2 this
  omega
theorem cnt_set : ∀ (B : List Bool) (k : Nat), B[k]? = some false → (B.set k true).count true = B.count true + 1
  | [], k, h => by simp at h
  | b :: B, 0, h => by
    have : b = false := by simpa using h
    subst this
    simp
  | b :: B, k + 1, h => by
    have := cnt_set B k (by simpa using h)
    rw [List.set_cons_succ]
    cases b <;> simp [this]
theorem cntB_step {B : List Bool} {m : Nat} (h : m < B.length) : (B.take (m + 1)).count true = (B.take m).count true + if B[m] = true then 1 else 0 := by
  rw [take_at h, List.count_append]
  cases hb : B[m] <;> simp [hb]
theorem cnt_take (B : List Bool) (k : Nat) : (B.take k).count true ≤ B.count true := (List.take_sublist k B).count_le true
def aC : Cf := ⟨64, 4, 1048576, 1048576, 1048576, 4, 8⟩
theorem aC_bd : BdC aC := by unfold BdC I64 aC; decide
theorem aC_ok : okC aC = true := by decide
theorem room_a {l : List Ru} (h : l.length ≤ 64) : roomE aC l = 0 := by
  unfold roomE grdZ
  have hp := grd_le l
  have hm : l.length * l.length ≤ 64 * 64 := Nat.mul_le_mul h h
  have e : aC.g = 1048576 := rfl
  rw [if_neg (by rw [e]; omega)]
theorem pin_a {L : List Ru} (o : OkN L) (p : Int) (R : Ru) : pinE aC L p R = insE L 64 p R := by
  have e : aC.m = 64 := rfl
  unfold pinE
  rw [e]
  by_cases h : insE L 64 p R = 0
  · rw [if_pos h, h]; exact room_a (okN_ins o h (by decide)).few
  · rw [if_neg h]
theorem pinL_a {L : List Ru} (o : OkN L) {p : Int} {R : Ru} (h : insE L 64 p R = 0) : pinL aC L p R = putL L p.toNat R := by
  unfold pinL; rw [pin_a o, if_pos h]
theorem ins_sel {B : List Bool} {l : List Ru} {k : Nat} (hB : B.length = l.length) (hk : k < l.length) (hf : B[k]? = some false) (o : OkN l) : insE (sel B l) 64 (((B.take k).count true : Nat) : Int) l[k] = 0 := by
  have hj : joinE (sel B l) l[k] = 0 := joinE_ok.2 ⟨(okR_err _).1 (o.may _ (List.getElem_mem hk)), sel_not hB hk hf o⟩
  have h1 := cnt_take B k
  have h2 := cnt_set B k hf
  have h3 : (B.set k true).count true ≤ (B.set k true).length := List.count_le_length
  rw [List.length_set] at h3
  have h4 := o.few
  unfold insE
  rw [if_pos hj, sel_len B l hB, if_pos (by omega), if_neg (by omega)]
theorem put_sel {B : List Bool} {l : List Ru} {k : Nat} (hB : B.length = l.length) (hk : k < l.length) (hf : B[k]? = some false) (o : OkN l) : pinE aC (sel B l) (((B.take k).count true : Nat) : Int) l[k] = 0 ∧ pinL aC (sel B l) (((B.take k).count true : Nat) : Int) l[k] = sel (B.set k true) l := by
  have os := okN_sub o (sel_sub B l)
  have h := ins_sel hB hk hf o
  refine ⟨by rw [pin_a os]; exact h, ?_⟩
  rw [pinL_a os h, sel_set B l k hB hk hf, Int.toNat_natCast]
/-- Another rule comes ahead of all and goes again. -/
theorem in_out {L : List Ru} (o : OkN L) {R : Ru} (h : pinE aC L 0 R = 0) : delE (pinL aC L 0 R) R.i = 0 ∧ delL (pinL aC L 0 R) R.i = L := by
  rw [pin_a o] at h
  rw [pinL_a o h]
  have e : putL L (0 : Int).toNat R = R :: L := by simp [putL]
  rw [e]
  have f : fnd (R :: L) R.i = 0 := by unfold fnd fndK; rw [if_pos rfl]; rfl
  refine ⟨if_pos (by rw [f]; decide), ?_⟩
  unfold delL
  rw [if_pos (by rw [f]; decide), f]
  simp [outL]
theorem madeB (n : Nat) : madeCells #[.bool false] n = ((List.replicate n false).map Value.bool).toArray := by
  apply Array.toList_inj.1
  apply List.ext_getElem
  · rw [Array.length_toList, size_madeCells]; simp
  · intro k h1 h2
    simp only [madeCells, Array.getElem_toList, Array.getElem_map, Array.getElem_range]
    simp [Nat.mod_one]
theorem infoB : (Try.prog.info? 4).map (fun i => (i.zero, i.size, i.bytes)) = some (some (.bool false), 1, 1) := by kernel_rfl
theorem Eng.inside {w : World} {X : Nat} {c : Cf} {l : List Ru} {N : List Gn} {LS : List (List Nat)} {S : Nat → Prop} (h : Eng w X c l N LS S) : Eng w X c l N LS (fun k => S k ∧ k < w.heap.size) := by
  obtain ⟨t, v, nv, lv, vs, e, f⟩ := h.at'
  refine ⟨⟨t, v, nv, lv, [], ⟨e.blk, e.tab, e.fr⟩, fun k hk => ⟨f k (by rcases hk with a | a | a | a | ⟨u, hu, _⟩; (exact .inl a); (exact .inr (.inl a)); (exact .inr (.inr (.inl a))); (exact .inr (.inr (.inr (.inl a)))); (simp at hu)), ?_⟩⟩, h.plt, h.ok, h.bd, fun e => h.nX e.1⟩
  rcases hk with rfl | e1 | e1 | e1 | ⟨u, hu, e1⟩
  · exact e.tab.lt
  · exact e.tab.own e1
  · exact (e.fr.nod.lt k e1).2
  · exact e.fr.lw k e1
  · simp at hu
/-- The two engines and the marks. -/
structure Alk (w W : World) (X Y Bi : Nat) (l M : List Ru) (B : List Bool) : Prop where
  ex : ∃ N LS S, Eng W X aC l N LS S ∧ ¬ S Y ∧ ¬ S Bi
  ey : ∃ N LS S, Eng W Y aC M N LS S ∧ ¬ S X ∧ ¬ S Bi
  xy : X ≠ Y
  bx : Bi ≠ X
  by' : Bi ≠ Y
  blk : W.heap[Bi]? = some (.cells (B.map Value.bool).toArray 4 (0, 0))
  wy : w.heap.size ≤ Y
  wb : w.heap.size ≤ Bi
  bel : Below w.heap.size w W
theorem Alk.on {w W W' : World} {X Y Bi : Nat} {l M : List Ru} {B : List Bool} (h : Alk w W X Y Bi l M B) (hb : Below W.heap.size W W') : Alk w W' X Y Bi l M B := by
  obtain ⟨N, LS, S, a1, a2, a3⟩ := h.ex
  obtain ⟨N', LS', S', b1, b2, b3⟩ := h.ey
  exact ⟨⟨N, LS, S, a1.on hb, a2, a3⟩, ⟨N', LS', S', b1.on hb, b2, b3⟩, h.xy, h.bx, h.by', blk_on h.blk hb, h.wy, h.wb, h.bel.trans (hb.mono h.bel.size)⟩
theorem Alk.okM {w W : World} {X Y Bi : Nat} {l M : List Ru} {B : List Bool} (h : Alk w W X Y Bi l M B) : OkN M := by
  obtain ⟨N', LS', S', b1, b2, b3⟩ := h.ey
  exact b1.ok
theorem Alk.did {w W W' : World} {X Y Bi : Nat} {l M M' : List Ru} {B : List Bool} (h : Alk w W X Y Bi l M B) {S : Nat → Prop} (hX : ¬ S X) (hBi : ¬ S Bi) (hd : Did W W' Y aC M' S) : Alk w W' X Y Bi l M' B := by
  obtain ⟨N', LS', hE, hg⟩ := hd
  obtain ⟨N, LS, SX, a1, a2, a3⟩ := h.ex
  have hbl := blk_lt h.blk
  refine ⟨⟨N, LS, SX, a1.apart hg h.xy a2, a2, a3⟩, ⟨N', LS', _, hE, fun e => ?_, fun e => ?_⟩, h.xy, h.bx, h.by', ?_, h.wy, h.wb, h.bel.grown hg h.bel.size (fun k e => by injection e with e; have := h.wy; omega)⟩
  · rcases e with e | e
    · exact hX e
    · have := a1.lt; omega
  · rcases e with e | e
    · exact hBi e
    · omega
  · rw [hg.block Bi hbl (fun e => h.by' (by injection e))]; exact h.blk
theorem Alk.ins {w W : World} {X Y Bi : Nat} {l M : List Ru} {B : List Bool} (h : Alk w W X Y Bi l M B) (p : Int) (R : Ru) (b : BdR R) :
    Calls Try.prog 10 #[.pointer (some ⟨Y, 0, none⟩), .int .i64 p, .agg #[.int .i64 R.i, .int .u32 (R.s : Int), .int .i64 R.sl, .int .u32 (R.d : Int), .int .i64 R.dl, .int .u16 (R.p.1 : Int), .int .u16 (R.p.2 : Int), .int .u16 (R.q.1 : Int), .int .u16 (R.q.2 : Int), .int .u8 (R.m.1 : Int), .int .u8 (R.m.2 : Int), .int .i64 R.act]] W fun e W' => e = .returned (.int .i64 (pinE aC M p R)) ∧ Alk w W' X Y Bi l (pinL aC M p R) B := by
  obtain ⟨N', LS', S', b1, b2, b3⟩ := h.ey
  exact (insertE Y aC M N' LS' S' p R W b1 b aC_bd (by decide)).mono fun e W' ⟨he, hd⟩ => ⟨he, h.did b2 b3 hd⟩
theorem Alk.del {w W : World} {X Y Bi : Nat} {l M : List Ru} {B : List Bool} (h : Alk w W X Y Bi l M B) (x : Int) :
    Calls Try.prog 11 #[.pointer (some ⟨Y, 0, none⟩), .int .i64 x] W fun e W' => e = .returned (.int .i64 (delE M x)) ∧ Alk w W' X Y Bi l (delL M x) B := by
  obtain ⟨N', LS', S', b1, b2, b3⟩ := h.ey
  exact (deleteE Y aC M N' LS' S' x W b1).mono fun e W' ⟨he, hd⟩ => ⟨he, h.did b2 b3 hd⟩
theorem Alk.set {w W : World} {X Y Bi : Nat} {l M : List Ru} {B : List Bool} (h : Alk w W X Y Bi l M B) (k : Nat) (b : Bool) : Alk w (W.setCell ⟨Bi, k, none⟩ (.bool b)) X Y Bi l M (B.set k b) := by
  obtain ⟨N, LS, SX, a1, a2, a3⟩ := h.ex
  obtain ⟨N', LS', S', b1, b2, b3⟩ := h.ey
  have hg : W.grownBy (W.setCell ⟨Bi, k, none⟩ (.bool b)) (some Bi) := only_grown (only_setCellF W Bi k _)
  refine ⟨⟨N, LS, SX, a1.apart hg (fun e => h.bx e.symm) a3, a2, a3⟩, ⟨N', LS', S', b1.apart hg (fun e => h.by' e.symm) b3, b2, b3⟩, h.xy, h.bx, h.by', ?_, h.wy, h.wb, h.bel.grown hg h.bel.size (fun k e => by injection e with e; have := h.wb; omega)⟩
  have := blk_set (j := k) h.blk (.bool b)
  rw [this]
  congr 2
  simp [List.map_set]
theorem Alk.cell {w W : World} {X Y Bi : Nat} {l M : List Ru} {B : List Bool} (h : Alk w W X Y Bi l M B) {k : Nat} {b : Bool} (hk : B[k]? = some b) : W.cell? ⟨Bi, k, none⟩ = some (.bool b) ∧ W.frozen? ⟨Bi, k, none⟩ = false :=
  ⟨blk_cell h.blk (by simp [hk]), blk_free h.blk k⟩
theorem Alk.askX {w W : World} {X Y Bi : Nat} {l M : List Ru} {B : List Bool} (hA : Alk w W X Y Bi l M B) (h : Hd) (oh : OkH h) :
    Calls Try.prog 12 #[.pointer (some ⟨X, 0, none⟩), .agg #[.int .u32 (h.s : Int), .int .u32 (h.d : Int), .int .u16 (h.p : Int), .int .u16 (h.q : Int), .int .u8 (h.r : Int)]] W fun e W' => ∃ a b : Nat, e = .returned (.tuple #[vdV aC l h, .agg #[.int .i64 (a : Int), .int .i64 (b : Int), .int .i64 0, .int .i64 0, .int .i64 0]]) ∧ Below W.heap.size W W' := by
  obtain ⟨N, LS, SX, a1, a2, a3⟩ := hA.ex
  exact (askE X aC l N LS SX h W a1 oh).mono fun e W' ⟨he, hb⟩ => ⟨_, _, he, hb⟩
theorem Alk.askY {w W : World} {X Y Bi : Nat} {l M : List Ru} {B : List Bool} (hA : Alk w W X Y Bi l M B) (h : Hd) (oh : OkH h) :
    Calls Try.prog 12 #[.pointer (some ⟨Y, 0, none⟩), .agg #[.int .u32 (h.s : Int), .int .u32 (h.d : Int), .int .u16 (h.p : Int), .int .u16 (h.q : Int), .int .u8 (h.r : Int)]] W fun e W' => ∃ a b : Nat, e = .returned (.tuple #[vdV aC M h, .agg #[.int .i64 (a : Int), .int .i64 (b : Int), .int .i64 0, .int .i64 0, .int .i64 0]]) ∧ Below W.heap.size W W' := by
  obtain ⟨N, LS, SX, a1, a2, a3⟩ := hA.ey
  exact (askE Y aC M N LS SX h W a1 oh).mono fun e W' ⟨he, hb⟩ => ⟨_, _, he, hb⟩
set_option maxHeartbeats 1000000 in
theorem pickC (c : Int) (n : Nat) (w : World) (hc : I64 c) (h0 : 0 < n) (hn : n ≤ 64) : Calls Try.prog 9 #[.int .i64 c, .int .i64 (n : Int)] w fun e w' => ∃ k : Nat, k < n ∧ e = .returned (.int .i64 (k : Int)) ∧ w' = w := by
  have key : ∀ d : Int, 0 ≤ d → (d % (n : Int)).toNat < n ∧ d % (n : Int) = (((d % (n : Int)).toNat : Nat) : Int) := fun d h1 => by
    have e2 := Int.emod_nonneg d (b := (n : Int)) (by omega)
    have e3 := Int.emod_lt_of_pos d (b := (n : Int)) (by omega)
    exact ⟨by omega, by omega⟩
  unfold I64 at hc
  have hn0 : ¬ (n : Int) = 0 := by omega
  have hn1 : ((n : Int) == 0) = false := by rw [beq_eq_false_iff_ne]; exact hn0
  by_cases hneg : c < 0
  · have Hk : Hid _ := key (-(c + 1)) (by omega)
    have He : Hid (-((c + 1).tmod (n : Int)) = (-(c + 1)) % (n : Int)) := by
      show _ = _
      rw [← Int.neg_tmod]
      exact Int.tmod_eq_emod_of_nonneg (by omega)
    clear key
    go_enter Try.func9, Try.ntmps9
    go_wp2
    go_ret
    exact ⟨_, Hk.out.1, ret_int (He.out.trans Hk.out.2), rfl⟩
  · have Hk : Hid _ := key c (by omega)
    clear key
    go_enter Try.func9, Try.ntmps9
    go_wp2
    go_ret
    exact ⟨_, Hk.out.1, ret_int Hk.out.2, rfl⟩
end Go.Proofs.Ytgidohnikggjfaa
