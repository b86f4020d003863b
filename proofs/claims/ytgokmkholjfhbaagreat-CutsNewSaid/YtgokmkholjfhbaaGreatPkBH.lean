/-
  PkBH: TbI, one behind the other (tools/pack.py).
-/
import Derived.Test.YtgokmkholjfhbaaGreatPkAL
import Derived.Test.YtgokmkholjfhbaaGreatPkAE
set_option linter.unusedVariables false
set_option linter.unusedSimpArgs false
namespace Go.Proofs.YtgokmkholjfhbaaGreat
open Go.RowKit
def ruZ : Ru := ⟨0, 0, 0, 0, 0, (0, 0), (0, 0), (0, 0), 0⟩
theorem ins_list (l : List Ru) (p : Nat) (hp : p ≤ l.length) (R z : Ru) (X : List Ru) (hX : X = (l ++ [z]).take (p + 1) ++ (((l ++ [z]).take (l.length + 1)).drop p).take (l.length + 1 - (p + 1)) ++ (l ++ [z]).drop (p + 1 + ((((l ++ [z]).take (l.length + 1)).drop p).take (l.length + 1 - (p + 1))).length)) :
  X.take p ++ [R] ++ X.drop (p + [R].length) = putL l p R := by
 have e0 : (l ++ [z]).take (l.length + 1) = l ++ [z] := List.take_of_length_le (by simp)
 have e1 : ((l ++ [z]).drop p).take (l.length + 1 - (p + 1)) = l.drop p := by
  rw [List.drop_append_of_le_length hp, show l.length + 1 - (p + 1) = (l.drop p).length by simp, List.take_left]
 rw [e0, e1] at hX
 have e2 : (l ++ [z]).drop (p + 1 + (l.drop p).length) = [] := List.drop_eq_nil_of_le (by simp; omega)
 rw [e2, List.append_nil] at hX
 have l1 : ((l ++ [z]).take (p + 1)).length = p + 1 := by simp; omega
 rw [hX]
 have t1 : ((l ++ [z]).take (p + 1) ++ l.drop p).take p = l.take p := by
  rw [List.take_append_of_le_length (by omega), List.take_take, Nat.min_eq_left (by omega), List.take_append_of_le_length hp]
 have t2 : ((l ++ [z]).take (p + 1) ++ l.drop p).drop (p + [R].length) = l.drop p := by
  show List.drop (p + 1) _ = _
  rw [List.drop_append_of_le_length (by omega), List.drop_eq_nil_of_le (by omega), List.nil_append]
 rw [t1, t2]
 unfold putL
 simp
theorem drew_blk {w : World} {B : Nat} {o : Obj} (h : w.heap[B]? = some o) : w.drew.heap[B]? = some o := h
theorem Tab.drew {w : World} {t : Nat} {v : Value} {M A : Int} {l : List Ru} (h : Tab w t v M A l) : Tab w.drew t v M A l := h
theorem Tab.make {w w' : World} {t : Nat} {v' : Value} {M A : Int} {l' : List Ru} (hr : RowU w 0 v' l') (hne : v'.ownBlock ≠ some t) (hb : w'.heap[t]? = some (.cells #[.int .i64 M, .int .i64 A, v'] 104 (0, 0))) (ho : Only t w w') : Tab w' t v' M A l' := by
 refine ⟨hb, ⟨hr.1, ?_⟩, hne⟩
 rcases hr.2 with h2 | ⟨g, cap, cur, hv, hg, hh, r⟩
 ·exact .inl h2
 ·exact .inr ⟨g, cap, cur, hv, hg, by rw [ho.block g (fun e => hne (by rw [hv, e]; rfl))]; exact hh, r⟩
theorem moved_append {w w5 w6 : World} {o : Obj} {t : Nat} {v v' : Value} (hg : (w.alloc o).grownBy w5 v.ownBlock) (hat : v'.ownBlock = v.ownBlock ∨ v'.ownBlock = some (w.alloc o).heap.size) (ho : Only t w5 w6) : Moved w w6 t v v' := by
 have hz : (w.alloc o).heap.size = w.heap.size + 1 := by simp
 refine ⟨ho.os.trans hg.os, ho.tape.trans hg.tape, ho.output.trans hg.output, ?_, fun k hk ht hv => ?_, fun k e => ?_⟩
 ·have := hg.size; have := ho.size; omega
 ·rw [ho.block k ht, hg.block k (by omega) (fun e => hv e.symm), Below.heap_alloc _ _ _ hk]
 ·rcases hat with a | a
  ·exact .inl (by rw [← a]; exact e)
  ·right; rw [e] at a; have : k = (w.alloc o).heap.size := by simpa using a
   omega
theorem Moved.undrew {w w' : World} {t : Nat} {v v' : Value} (m : Moved w.drew w' t v v') : Moved w w' t v v' := ⟨m.os, m.tape, m.output, m.size, m.block, m.own⟩
theorem Moved.start {w w0 w' : World} {t : Nat} {v v' : Value} (hb : Below w.heap.size w w0) (ht : t < w.heap.size) (m : Moved w0 w' t v v') : Moved w w' t v v' :=
 (Moved.of_below hb).trans m
set_option maxRecDepth 20000 in
set_option maxHeartbeats 8000000 in
theorem insertOk (t : Nat) (v : Value) (M A : Int) (l : List Ru) (p : Nat) (R : Ru) (w : World) (h : Tab w t v M A l) (hl : l.length ≤ 200000) (b : BdR R) (hM : I64 M) (hJ0 : joinE l R = 0) (hp : p ≤ l.length) (hm : (l.length : Int) < M) :
  Calls Tryz.prog 35 #[.pointer (some ⟨t, 0, none⟩), .int .i64 p, .agg #[.int .i64 R.i, .int .u32 R.s, .int .i64 R.sl, .int .u32 R.d, .int .i64 R.dl, .int .u16 R.p.1, .int .u16 R.p.2, .int .u16 R.q.1, .int .u16 R.q.2, .int .u8 R.m.1, .int .u8 R.m.2, .int .i64 R.act]] w fun e w' => e = .returned (.int .i64 0) ∧ ∃ v', Tab w' t v' M A (putL l p R) ∧ Moved w w' t v v' := by
 have HI : Hid (∀ X, X = (l ++ [ruZ]).take (p + 1) ++ (((l ++ [ruZ]).take (l.length + 1)).drop p).take (l.length + 1 - (p + 1)) ++ (l ++ [ruZ]).drop (p + 1 + ((((l ++ [ruZ]).take (l.length + 1)).drop p).take (l.length + 1 - (p + 1))).length) → X.take p ++ [R] ++ X.drop (p + [R].length) = putL l p R) := fun X hX => ins_list l p hp R ruZ X hX
 have hA := fun W => amongC (p : Int) 0 (l.length : Int) W
 rw [show amg (p : Int) 0 (l.length : Int) = true from amg_iff.2 (by omega)] at hA
 have HT0 : Hid (Tab (w.alloc (.cells #[.int .i64 R.i, .int .u32 R.s, .int .i64 R.sl, .int .u32 R.d, .int .i64 R.dl, .int .u16 R.p.1, .int .u16 R.p.2, .int .u16 R.q.1, .int .u16 R.q.2, .int .u8 R.m.1, .int .u8 R.m.2, .int .i64 R.act] 64)) t v M A l) := h.on ((Below.refl _ _).alloc (Nat.le_refl _) _)
 have HB0 : Hid (Below w.heap.size w (w.alloc (.cells #[.int .i64 R.i, .int .u32 R.s, .int .i64 R.sl, .int .u32 R.d, .int .i64 R.dl, .int .u16 R.p.1, .int .u16 R.p.2, .int .u16 R.q.1, .int .u16 R.q.2, .int .u8 R.m.1, .int .u8 R.m.2, .int .i64 R.act] 64))) := (Below.refl _ _).alloc (Nat.le_refl _) _
 have HR0 := blk_new w (.cells #[.int .i64 R.i, .int .u32 R.s, .int .i64 R.sl, .int .u32 R.d, .int .i64 R.dl, .int .u16 R.p.1, .int .u16 R.p.2, .int .u16 R.q.1, .int .u16 R.q.2, .int .u8 R.m.1, .int .u8 R.m.2, .int .i64 R.act] 64)
 have hlt := h.lt
 have hne : ¬ t = w.heap.size := by omega
 have HMv : Hid (∀ k, v.ownBlock = some k → k < w.heap.size) := fun k e => h.own e
 have hJ : ∀ W, Below (w.alloc (.cells #[.int .i64 R.i, .int .u32 R.s, .int .i64 R.sl, .int .u32 R.d, .int .i64 R.dl, .int .u16 R.p.1, .int .u16 R.p.2, .int .u16 R.q.1, .int .u16 R.q.2, .int .u8 R.m.1, .int .u8 R.m.2, .int .i64 R.act] 64)).heap.size (w.alloc (.cells #[.int .i64 R.i, .int .u32 R.s, .int .i64 R.sl, .int .u32 R.d, .int .i64 R.dl, .int .u16 R.p.1, .int .u16 R.p.2, .int .u16 R.q.1, .int .u16 R.q.2, .int .u8 R.m.1, .int .u8 R.m.2, .int .i64 R.act] 64)) W → Calls Tryz.prog 48 #[v, .agg #[.int .i64 R.i, .int .u32 R.s, .int .i64 R.sl, .int .u32 R.d, .int .i64 R.dl, .int .u16 R.p.1, .int .u16 R.p.2, .int .u16 R.q.1, .int .u16 R.q.2, .int .u8 R.m.1, .int .u8 R.m.2, .int .i64 R.act]] W fun e w' => e = .returned (.int .i64 0) ∧ Below W.heap.size W w' := fun W hb => by
  have := mayJoinC v l R W b (HT0.out.2.1.src.keep hb) hl
  rw [hJ0] at this
  exact this
 obtain ⟨ad, cap, rfl, hcap, hat⟩ := h.2.1.form
 obtain ⟨n, hn⟩ : ∃ n, n = l.length := ⟨_, rfl⟩
 have Hn : Hid (n = l.length) := hn
 rw [← hn] at hA hl hp hm hcap hJ HT0 HI HMv ⊢
 clear hat hJ0 b h hn
 have hn0 : (n : Int) ≤ 200000 := by omega
 have hp0 : (p : Int) ≤ 200000 := by omega
 have hm2 : ¬ M ≤ (n : Int) := by omega
 have hwp : IntKind.i64.wrap ((p : Int) + 1) = (p : Int) + 1 := by rw [IntKind.wrap_i64]; omega
 go_enter Tryz.func35, Tryz.ntmps35
 go_upto_region 3 with (fail)
 generalize w.alloc (.cells #[.int .i64 R.i, .int .u32 R.s, .int .i64 R.sl, .int .u32 R.d, .int .i64 R.dl, .int .u16 R.p.1, .int .u16 R.p.2, .int .u16 R.q.1, .int .u16 R.q.2, .int .u8 R.m.1, .int .u8 R.m.2, .int .i64 R.act] 64) = W0 at *
 obtain ⟨c0, c1, c2⟩ := blk3 HT0.out.1
 obtain ⟨d0, d1, d2, d3, d4, d5, d6, d7, d8, d9, d10, d11⟩ := blk12 HR0
 have hlz : w.heap.size < W0.heap.size := blk_lt HR0
 have kne : Nonempty (Kin (W0)) := ⟨⟨_, Below.refl _ _⟩⟩
 have kc0 : ∀ y : Kin (W0), y.val.cell? ⟨t, 2, none⟩ = some (.slice ad n cap) := kcL
 have kc1 : ∀ y : Kin (W0), y.val.cell? ⟨t, 0, none⟩ = some (.int .i64 M) := kcL
 have kc2 : ∀ y : Kin (W0), y.val.cell? ⟨w.heap.size, 0, none⟩ = some (.int .i64 R.i) := kcL
 have kc3 : ∀ y : Kin (W0), y.val.cell? ⟨w.heap.size, 1, none⟩ = some (.int .u32 R.s) := kcL
 have kc4 : ∀ y : Kin (W0), y.val.cell? ⟨w.heap.size, 2, none⟩ = some (.int .i64 R.sl) := kcL
 have kc5 : ∀ y : Kin (W0), y.val.cell? ⟨w.heap.size, 3, none⟩ = some (.int .u32 R.d) := kcL
 have kc6 : ∀ y : Kin (W0), y.val.cell? ⟨w.heap.size, 4, none⟩ = some (.int .i64 R.dl) := kcL
 have kc7 : ∀ y : Kin (W0), y.val.cell? ⟨w.heap.size, 5, none⟩ = some (.int .u16 R.p.1) := kcL
 have kc8 : ∀ y : Kin (W0), y.val.cell? ⟨w.heap.size, 6, none⟩ = some (.int .u16 R.p.2) := kcL
 have kc9 : ∀ y : Kin (W0), y.val.cell? ⟨w.heap.size, 7, none⟩ = some (.int .u16 R.q.1) := kcL
 have kc10 : ∀ y : Kin (W0), y.val.cell? ⟨w.heap.size, 8, none⟩ = some (.int .u16 R.q.2) := kcL
 have kc11 : ∀ y : Kin (W0), y.val.cell? ⟨w.heap.size, 9, none⟩ = some (.int .u8 R.m.1) := kcL
 have kc12 : ∀ y : Kin (W0), y.val.cell? ⟨w.heap.size, 10, none⟩ = some (.int .u8 R.m.2) := kcL
 have kc13 : ∀ y : Kin (W0), y.val.cell? ⟨w.heap.size, 11, none⟩ = some (.int .i64 R.act) := kcL
 refine wp_region_kin (W0) (Below.refl _ _) (by kernel_rfl) (by kernel_rfl) ?_
 repeat (go_big_quiet_step (first | (go_at_call 48; exact kin_call (hJ _ (Kin.is _)))))
 refine wpQuiet_nil ?_
 rintro wq ⟨⟨xq, hxq⟩, hyq⟩
 have hq : Below (W0).heap.size (W0) wq := by rw [hyq]; exact hxq
 clear hyq hxq xq
 clear kne kc0 kc1 kc2 kc3 kc4 kc5 kc6 kc7 kc8 kc9 kc10 kc11 kc12 kc13
 obtain ⟨hcq, hfq⟩ := bcell hq
 have hzq := hq.size
 try simp at hzq
 generalize wq = W1 at *
 have HT1 : Hid (Tab W1 t (.slice ad n cap) M A l) := HT0.out.on hq
 have HR1 : Hid (W1.heap[w.heap.size]? = some (.cells #[.int .i64 R.i, .int .u32 R.s, .int .i64 R.sl, .int .u32 R.d, .int .i64 R.dl, .int .u16 R.p.1, .int .u16 R.p.2, .int .u16 R.q.1, .int .u16 R.q.2, .int .u8 R.m.1, .int .u8 R.m.2, .int .i64 R.act] 64)) := blk_on HR0 hq
 have HB1 : Hid (Below w.heap.size w W1) := HB0.out.trans (hq.mono HB0.out.size)
 clear hq hcq hfq hzq hJ d0 d1 d2 d3 d4 d5 d6 d7 d8 d9 d10 d11 c0 c1 c2 HT0 HR0 HB0 hlz
 clear W0
 obtain ⟨c0, c1, c2⟩ := blk3 HT1.out.1
 go_wp2_with (fail)
 refine (hA _).mono ?_
 rintro e w1 ⟨rfl, hw⟩
 obtain rfl := hw.symm
 clear hw hA
 go_upto_region 8 with (fail)
 have hltq := HT1.out.lt
 have kne : Nonempty (Kin (W1)) := ⟨⟨_, Below.refl _ _⟩⟩
 have kc0 : ∀ y : Kin (W1), y.val.cell? ⟨t, 2, none⟩ = some (.slice ad n cap) := kcL
 have kc1 : ∀ y : Kin (W1), y.val.cell? ⟨t, 0, none⟩ = some (.int .i64 M) := kcL
 refine wp_region_kin (W1) (Below.refl _ _) (by kernel_rfl) (by kernel_rfl) ?_
 repeat (go_big_quiet_step (fail))
 refine wpQuiet_nil ?_
 rintro wq ⟨⟨xq, hxq⟩, hyq⟩
 have hq : Below (W1).heap.size (W1) wq := by rw [hyq]; exact hxq
 clear hyq hxq xq
 clear kne kc0 kc1
 obtain ⟨hcq, hfq⟩ := bcell hq
 have hzq := hq.size
 try simp at hzq
 generalize wq = W2 at *
 have HT2 : Hid (Tab W2 t (.slice ad n cap) M A l) := HT1.out.on hq
 have HR2 : Hid (W2.heap[w.heap.size]? = some (.cells #[.int .i64 R.i, .int .u32 R.s, .int .i64 R.sl, .int .u32 R.d, .int .i64 R.dl, .int .u16 R.p.1, .int .u16 R.p.2, .int .u16 R.q.1, .int .u16 R.q.2, .int .u8 R.m.1, .int .u8 R.m.2, .int .i64 R.act] 64)) := blk_on HR1.out hq
 have HB2 : Hid (Below w.heap.size w W2) := HB1.out.trans (hq.mono HB1.out.size)
 clear hq hcq hfq hzq HT1 HR1 HB1 c0 c1 c2 hltq
 clear W1
 obtain ⟨c0, c1, c2⟩ := blk3 HT2.out.1
 have hlt2 := HT2.out.lt
 have hne2 : ¬ t = W2.heap.size := by omega
 have HL : Hid ((l ++ [ruZ]).length = n + 1) := by show _ = _; rw [List.length_append, ← Hn.out]; rfl
 go_wp2_with (first | (at_builtin; refine wpList_appendSU rfl (.tmp 41) (.tmp 43) rfl 0 (.slice ad n cap) l rfl (HT2.out.2.1.alloc _) _ [ruZ] rfl (RowU.one W2 0 ruZ (Nat.zero_le _)).src (Nat.zero_le _) (by rw [← Hn.out]; simp; omega) ?_; intro v5 w5 hrow5 hgr5 hat5; obtain ⟨g1, cap1, hv5, hc1, _, hg1⟩ := hrow5.some (by simp); rw [HL.out] at hv5 hc1; subst hv5; have h5 : w5.heap[t]? = some (.cells #[.int .i64 M, .int .i64 A, .slice ad n cap] 104 (0, 0)) := (hgr5.block t (by simp; omega) (fun e => HT2.out.2.2 e.symm)).trans (blk_alloc HT2.out.1 _)) | (refine wpList_store_val rfl 56 (.tmp 46) (.tmp 44) rfl t 2 (.slice (some ⟨g1, 0, none⟩) (n + 1) cap1) #[.slice (some ⟨g1, 0, none⟩) (n + 1) cap1] #[.int .i64 M, .int .i64 A, .slice (some ⟨g1, 0, none⟩) (n + 1) cap1] rfl rfl rfl 104 _ h5 (Nat.le_of_ble_eq_true rfl) rfl (by kernel_rfl) rfl ?_; intro w6 hb6 ho6))
 go_upto_region 11 with (fail)
 have hgt : t ≠ g1 := by
  intro e
  rcases hat5 with a | a
  ·exact HT2.out.2.2 (by rw [← a, e]; rfl)
  ·have : g1 = W2.heap.size + 1 := by simpa [Value.ownBlock] using a
   omega
 have HR5 : RowU w5 0 (.slice (some ⟨g1, 0, none⟩) (n + 1) cap1) (l ++ [ruZ]) := hrow5
 have HT3 : Hid (Tab w6 t (.slice (some ⟨g1, 0, none⟩) (n + 1) cap1) M A (l ++ [ruZ])) := Tab.make HR5 (fun e => hgt (by simpa [Value.ownBlock] using e.symm)) hb6 ho6
 have HM3 : Hid (Moved W2 w6 t (.slice ad n cap) (.slice (some ⟨g1, 0, none⟩) (n + 1) cap1)) := moved_append hgr5 hat5 ho6
 have HR3 : Hid (w6.heap[w.heap.size]? = some (.cells #[.int .i64 R.i, .int .u32 R.s, .int .i64 R.sl, .int .u32 R.d, .int .i64 R.dl, .int .u16 R.p.1, .int .u16 R.p.2, .int .u16 R.q.1, .int .u16 R.q.2, .int .u8 R.m.1, .int .u8 R.m.2, .int .i64 R.act] 64)) := by
  show _ = _
  rw [HM3.out.block w.heap.size (blk_lt HR2.out) (fun e => hne e.symm) (fun e => by have := HMv.out _ e; omega)]
  exact HR2.out
 have hgR : w.heap.size ≠ g1 := by
  intro e
  rcases hat5 with a | a
  ·have := HMv.out w.heap.size (by rw [← a, e]; rfl); omega
  ·have h1 : g1 = W2.heap.size + 1 := by simpa [Value.ownBlock] using a
   have := blk_lt HR2.out
   omega
 clear hrow5 hgr5 hat5 h5 hb6 ho6 HR5 c0 c1 c2 HT2 HR2 hlt2 hne2 hg1
 have HSr : Hid (SrcU w6.drew (cutU (some ⟨g1, 0, none⟩) p (n + 1) cap1) (((l ++ [ruZ]).take (n + 1)).drop p)) := SrcU.cut (HT3.out.drew.2.1.src) p (n + 1) (by omega) (by rw [HL.out]; exact Nat.le_refl _)
 refine wp_region_held_drew (S := fun w' => w'.cell? ⟨t, 2, none⟩ = some (.slice (some ⟨g1, 0, none⟩) (n + 1) cap1)) (by kernel_rfl) (blk3 HT3.out.1).2.2 (fun hS0 => ?_)
 show wpAnyH _ _ _ _ _ 14 _ _ _
 refine wpTk (i := 0) (v := .pointer (some ⟨t, 0, none⟩)) hS0 ?_
 simp only [nrm]
 refine wpTk (i := 1) (v := .pointer (some ⟨t, 0, none⟩)) hS0 ?_
 simp only [nrm]
 refine wpTk (i := 2) (v := .pointer (some ⟨t, 2, none⟩)) hS0 ?_
 simp only [nrm]
 refine wpAnyH_take (i := 3) (v := .slice (some ⟨g1, 0, none⟩) (n + 1) cap1) rfl (by kernel_rfl) (by kernel_rfl) (by kernel_rfl) (fun _ _ _ h => h) (.inl ⟨rfl, fun w' hw' => by have hcc := hw'; simp [execOp, go_sem, hcc]⟩) hS0 ?_
 simp only [nrm]
 refine wpTk (i := 4) (v := .int .i64 p) hS0 ?_
 simp only [nrm]
 refine wpAnyH_take (i := 5) (v := .int .i64 ((p : Int) + 1)) rfl (by kernel_rfl) (by kernel_rfl) (by kernel_rfl) (fun _ _ _ h => h) (.inl ⟨rfl, fun _ _ => by simp [execOp, go_sem, hwp]⟩) hS0 ?_
 simp only [nrm]
 refine wpAnyH_take (i := 6) (v := cutU (some ⟨g1, 0, none⟩) (p + 1) (n + 1) cap1) rfl (by kernel_rfl) (by kernel_rfl) (by kernel_rfl) (fun _ _ _ h => h) (yieldsIf_slice rfl 56 (.tmp 50) (some (.tmp 52)) none none rfl _ (fun w => cut_l' w (some ⟨g1, 0, none⟩) (n + 1) cap1 (p + 1) _ (by first | rfl | omega) (by omega))) hS0 ?_
 simp only [nrm]
 refine wpTk (i := 7) (v := .pointer (some ⟨t, 0, none⟩)) hS0 ?_
 simp only [nrm]
 refine wpTk (i := 8) (v := .pointer (some ⟨t, 0, none⟩)) hS0 ?_
 simp only [nrm]
 refine wpTk (i := 9) (v := .pointer (some ⟨t, 2, none⟩)) hS0 ?_
 simp only [nrm]
 refine wpAnyH_take (i := 10) (v := .slice (some ⟨g1, 0, none⟩) (n + 1) cap1) rfl (by kernel_rfl) (by kernel_rfl) (by kernel_rfl) (fun _ _ _ h => h) (.inl ⟨rfl, fun w' hw' => by have hcc := hw'; simp [execOp, go_sem, hcc]⟩) hS0 ?_
 simp only [nrm]
 refine wpTk (i := 11) (v := .int .i64 p) hS0 ?_
 simp only [nrm]
 refine wpAnyH_take (i := 12) (v := cutU (some ⟨g1, 0, none⟩) p (n + 1) cap1) rfl (by kernel_rfl) (by kernel_rfl) (by kernel_rfl) (fun _ _ _ h => h) (yieldsIf_slice rfl 56 (.tmp 57) (some (.tmp 58)) none none rfl _ (fun w => cut_l' w (some ⟨g1, 0, none⟩) (n + 1) cap1 p _ rfl (by omega))) hS0 ?_
 simp only [nrm]
 refine wpO 13 (fun K' hK' => ?_)
 refine wp_copyU (.tmp 53) (.tmp 59) rfl 0 g1 (n + 1) cap1 (l ++ [ruZ]) HT3.out.2.1 (p + 1) (by omega) rfl _ _ rfl HSr.out (fun w5 hr5 hg5 => hK' _ _ ⟨?_, ?_⟩)
 ·exact (hg5.cell_far ⟨t, 2, none⟩ HT3.out.lt (by simpa using hgt)).trans (blk3 HT3.out.1).2.2
 refine wpAnyH_done (by kernel_rfl) ?_ _
 have HT5 : Hid (Tab w5 t (.slice (some ⟨g1, 0, none⟩) (n + 1) cap1) M A _) := (Tab.grown rfl HT3.out.drew hr5 hg5).1
 have HM5 : Hid (Moved W2 w5 t (.slice ad n cap) (.slice (some ⟨g1, 0, none⟩) (n + 1) cap1)) := HM3.out.trans (Tab.grown rfl HT3.out.drew hr5 hg5).2.undrew
 have HR4 : Hid (w5.heap[w.heap.size]? = some (.cells #[.int .i64 R.i, .int .u32 R.s, .int .i64 R.sl, .int .u32 R.d, .int .i64 R.dl, .int .u16 R.p.1, .int .u16 R.p.2, .int .u16 R.q.1, .int .u16 R.q.2, .int .u8 R.m.1, .int .u8 R.m.2, .int .i64 R.act] 64)) := by
  show _ = _
  rw [hg5.block w.heap.size (blk_lt HR3.out) (by simpa using hgR)]
  exact HR3.out
 clear hr5 hg5 hS0 HSr HT3 HM3 HR3 hK'
 go_upto_region 12 with (fail)
 have hix : (p : Int) < ((n + 1 : Nat) : Int) := by omega
 have hix2 : ¬ n + 1 ≤ p := by omega
 refine wp_region_held_drew (S := fun w' => w'.cell? ⟨t, 2, none⟩ = some (.slice (some ⟨g1, 0, none⟩) (n + 1) cap1) ∧ w'.heap[w.heap.size]? = some (.cells #[.int .i64 R.i, .int .u32 R.s, .int .i64 R.sl, .int .u32 R.d, .int .i64 R.dl, .int .u16 R.p.1, .int .u16 R.p.2, .int .u16 R.q.1, .int .u16 R.q.2, .int .u8 R.m.1, .int .u8 R.m.2, .int .i64 R.act] 64)) (by kernel_rfl) ⟨(blk3 HT5.out.1).2.2, HR4.out⟩ (fun hS1 => ?_)
 show wpAnyH _ _ _ _ _ 8 _ _ _
 refine wpTk (i := 0) (v := .pointer (some ⟨t, 0, none⟩)) hS1 ?_
 simp only [nrm]
 refine wpTk (i := 1) (v := .pointer (some ⟨t, 0, none⟩)) hS1 ?_
 simp only [nrm]
 refine wpTk (i := 2) (v := .pointer (some ⟨t, 2, none⟩)) hS1 ?_
 simp only [nrm]
 refine wpAnyH_take (i := 3) (v := .slice (some ⟨g1, 0, none⟩) (n + 1) cap1) rfl (by kernel_rfl) (by kernel_rfl) (by kernel_rfl) (fun _ _ _ h => h) (.inl ⟨rfl, fun w' hw' => by have hcc := hw'.1; simp [execOp, go_sem, hcc]⟩) hS1 ?_
 simp only [nrm]
 refine wpTk (i := 4) (v := .int .i64 p) hS1 ?_
 simp only [nrm]
 refine wpAnyH_take (i := 5) (v := .agg #[.int .i64 R.i, .int .u32 R.s, .int .i64 R.sl, .int .u32 R.d, .int .i64 R.dl, .int .u16 R.p.1, .int .u16 R.p.2, .int .u16 R.q.1, .int .u16 R.q.2, .int .u8 R.m.1, .int .u8 R.m.2, .int .i64 R.act]) rfl (by kernel_rfl) (by kernel_rfl) (by kernel_rfl) (fun _ _ _ h => h) (yieldsIf_load_mid rfl 64 (.tmp 5) rfl w.heap.size 0 rfl [.int .i64 R.i, .int .u32 R.s, .int .i64 R.sl, .int .u32 R.d, .int .i64 R.dl, .int .u16 R.p.1, .int .u16 R.p.2, .int .u16 R.q.1, .int .u16 R.q.2, .int .u8 R.m.1, .int .u8 R.m.2, .int .i64 R.act] _ (fun w' hw' => by have := World.rangeAt_of_block hw'.2 0 12; simpa using this) Tryz.underlying64 rfl (by kernel_rfl)) hS1 ?_
 simp only [nrm]
 refine wpAnyH_take (i := 6) (v := .pointer (some ⟨g1, p * 12, none⟩)) rfl (by kernel_rfl) (by kernel_rfl) (by kernel_rfl) (fun _ _ _ h => h) (yieldsIf_index rfl 56 (.tmp 64) (.tmp 65) rfl _ (fun w => by simp [Instr.indexAt, go_sem, hix, hix2])) hS1 ?_
 simp only [nrm]
 refine wpO 7 (fun K' hK' => ?_)
 refine wp_storeU (.tmp 67) (.tmp 66) rfl 0 g1 (n + 1) cap1 _ HT5.out.2.1 p (by omega) R rfl rfl (fun w6 hr6 hg6 => hK' _ _ ⟨?_, ?_⟩)
 ·exact ⟨(hg6.cell_far ⟨t, 2, none⟩ HT5.out.lt (by simpa using hgt)).trans (blk3 HT5.out.1).2.2, (hg6.block w.heap.size (blk_lt HR4.out) (by simpa using hgR)).trans HR4.out⟩
 refine wpAnyH_done (by kernel_rfl) ?_ _
 have HT6 := Tab.grown rfl HT5.out.drew hr6 hg6
 have HI2 := HI.out _ rfl
 rw [HI2] at HT6
 have HT7 : Hid (Tab w6 t (.slice (some ⟨g1, 0, none⟩) (n + 1) cap1) M A (putL l p R)) := HT6.1
 have HM7 : Hid (Moved w w6 t (.slice ad n cap) (.slice (some ⟨g1, 0, none⟩) (n + 1) cap1)) := Moved.start HB2.out hlt (HM5.out.trans HT6.2.undrew)
 clear HT6 HI2 hr6 hg6 HT5 HM5 HR4 hS1
 go_wp2_with (fail)
 go_ret
 exact ⟨rfl, _, HT7.out, HM7.out⟩
end Go.Proofs.YtgokmkholjfhbaaGreat
