/-
  Get.
-/
import Derived.Test.YtfbkjghipahipaaTrQ
namespace Go.Proofs.Ytfbkjghipahipaa
open Go.RowKit Go.Shelf
set_option linter.unusedVariables false
set_option linter.unusedSimpArgs false
attribute [local go_sem] Oper.semAt_some

theorem pth_mem {A : List Nd} {d h r k n0 : Nat} {x : Nat × Nat} : x ∈ pth A d h r k n0 ↔ ∃ i, i ≤ d ∧ x = (n0 + i, fnd A i h r k) ∧ fnd A i h r k ≠ 0 := by
  rw [pth_fnd, List.mem_filterMap]
  constructor
  · rintro ⟨j, hj, h1⟩
    split at h1
    · cases h1
    · rename_i h2
      cases h1
      exact ⟨j, by have := List.mem_range.1 hj; omega, rfl, h2⟩
  · rintro ⟨j, hj, rfl, h2⟩
    exact ⟨j, List.mem_range.2 (by omega), by rw [if_neg h2]⟩
theorem pth_le_num {A : List Nd} : ∀ {d h r k n : Nat}, d ≤ h → (pth A d h r k n).length ≤ num A h r
  | 0, h, r, k, n, hd => by
    simp only [pth]
    by_cases r0 : r = 0
    · simp [r0]
    · rw [if_neg r0]
      cases h with
      | zero => simp [num, r0]
      | succ h => simp only [num]; rw [if_neg r0]; simp; omega
  | d + 1, h, r, k, n, hd => by
    obtain ⟨h, rfl⟩ : ∃ h', h = h' + 1 := ⟨h - 1, by omega⟩
    simp only [pth, num, Nat.add_sub_cancel]
    by_cases r0 : r = 0
    · simp [r0]
    · rw [if_neg r0, if_neg r0, List.length_cons]
      have := pth_le_num (A := A) (d := d) (h := h) (r := kidA (gt A r) (sid k (h + 1))) (k := k) (n := n + 1) (by omega)
      have hk : num A h (kidA (gt A r) (sid k (h + 1))) ≤ num A h (gt A r).a + num A h (gt A r).b := by
        unfold kidA; split <;> omega
      omega
/-- What is under a key, if it may be. -/
def getV (W : Nat) (L : List En) (k : Nat) (n : Int) : Option Int := if mayB W k n then val L k n.toNat else none
def oV (o : Option Int) : Int := o.getD 0
def oB (o : Option Int) : Bool := o.isSome
theorem results_cells {P : Program} {fn : Func} {tmps : Array Value} {w : World} {t u : Tmp} {ty ty2 : TypeId} {B C : Nat} {x y : Value} (h : fn.results = #[.cell t ty, .cell u ty2]) (hp : tmps.getD t undef = .pointer (some ⟨B, 0, none⟩)) (hq : tmps.getD u undef = .pointer (some ⟨C, 0, none⟩))
    (hl1 : (loadVar ty ⟨B, 0, none⟩).run P w = .ok x w) (hl2 : (loadVar ty2 ⟨C, 0, none⟩).run P w = .ok y w) : (results fn tmps).run P w = .ok (.tuple #[x, y]) w := by
  have hp2 : tmps[t]?.getD undef = .pointer (some ⟨B, 0, none⟩) := by simpa using hp
  have hq2 : tmps[u]?.getD undef = .pointer (some ⟨C, 0, none⟩) := by simpa using hq
  simp [results, h, hp2, hq2, asAddr, hl1, hl2]
theorem load_int (C : Nat) (x : Int) (w : World) (h : w.cell? ⟨C, 0, none⟩ = some (.int .i64 x)) : (loadVar 3 ⟨C, 0, none⟩).run Try.prog w = .ok (.int .i64 x) w := by
  simp [go_sem, h]
theorem load_bool (C : Nat) (x : Bool) (w : World) (h : w.cell? ⟨C, 0, none⟩ = some (.bool x)) : (loadVar 4 ⟨C, 0, none⟩).run Try.prog w = .ok (.bool x) w := by
  simp [go_sem, h]
theorem get_bad (t : Nat) (v : Value) (W M : Nat) (L : List En) (ar k : Nat) (n : Int) (w : World) (h : Tr w t v W M L ar) (hW : W ≤ 32) (hk : k < 4294967296) (hm : mayB W k n = false) :
    Calls Try.prog 15 #[.pointer (some ⟨t, 0, none⟩), .int .u32 (k : Int), .int .i64 n] w fun e w' => e = .returned (.tuple #[.int .i64 0, .bool false]) ∧ Below w.heap.size w w' := by
  obtain ⟨A, r, f, c, h1, _⟩ := h
  have hbA : Below w.heap.size w ((((w.alloc (.cells #[.pointer (some ⟨t, 0, none⟩)] 23)).alloc (.cells #[.int .i64 n] 3)).alloc (.cells #[.int .i64 0] 3)).alloc (.cells #[.bool false] 4)) := ((((Below.refl _ _).alloc (Nat.le_refl _) _).alloc (by simp) _).alloc (by simp; omega) _).alloc (by simp; omega) _
  have hmy := mayC t W k n _ (h1.on hbA).wid hW hk
  rw [hm] at hmy
  have HB : Hid (Below w.heap.size w ((((w.alloc (.cells #[.pointer (some ⟨t, 0, none⟩)] 23)).alloc (.cells #[.int .i64 n] 3)).alloc (.cells #[.int .i64 0] 3)).alloc (.cells #[.bool false] 4))) := hbA
  clear hbA h1
  go_enter Try.func15, Try.ntmps15
  go_wp2_with (go_at_call 30; refine hmy.mono ?_; rintro e w' ⟨rfl, hw⟩; obtain rfl := hw.symm; clear hw)
  refine bodyPost_ret (results_cells Try.results15 rfl rfl (load_int _ 0 _ (by simp [go_sem])) (load_bool _ false _ (by simp [go_sem]))) rfl ⟨rfl, HB.out⟩
theorem blk_putO {w : World} {B D : Nat} {cs : Array Value} {ty : TypeId} {fr : Nat × Nat} {ds : Option (List Deferred)} {o : Obj} (h : w.heap[B]? = some (.cells cs ty fr)) (hD : w.heap[D]? = some (.deferred ds)) : (w.putObj D o).heap[B]? = some (.cells cs ty fr) := by
  rw [World.putObj_heap_other (fun e => by subst e; rw [hD] at h; cases h)]; exact h
theorem rk_drew {B : Nat} {A C : World} (h : RK B noU A C) : RK B noU A C.drew := ⟨⟨h.1.size, h.1.same⟩, h.2.1, fun k hk => hk.elim⟩
/-- What stays while the way is gone. -/
def GSt (w : World) (t n : Nat) (V : World) : Prop := V.heap[w.heap.size]? = some (.cells #[.pointer (some ⟨t, 0, none⟩)] 23) ∧ V.heap[w.heap.size + 1]? = some (.cells #[.int .i64 (n : Int)] 3) ∧ V.heap[w.heap.size + 1 + 1]? = some (.cells #[.int .i64 0] 3) ∧ V.heap[w.heap.size + 1 + 1 + 1]? = some (.cells #[.bool false] 4)
theorem GSt.on {w V V' : World} {t n : Nat} (h : GSt w t n V) (hb : Below V.heap.size V V') : GSt w t n V' := ⟨blk_on h.1 hb, blk_on h.2.1 hb, blk_on h.2.2.1 hb, blk_on h.2.2.2 hb⟩
set_option maxRecDepth 100000 in
set_option maxHeartbeats 8000000 in
theorem get_may (t : Nat) (v : Value) (W M : Nat) (A : List Nd) (r f c : Nat) (L : List En) (k n : Nat) (w : World) (hT : Tri w t v W M A r f c) (hi : Inv W M A r f c L) (hW : W ≤ 32) (hM : M ≤ 1048576) (hk : k < 4294967296) (hm : May W k n) :
    Calls Try.prog 15 #[.pointer (some ⟨t, 0, none⟩), .int .u32 (k : Int), .int .i64 (n : Int)] w fun e w' => e = .returned (.tuple #[.int .i64 (oV (val L k n)), .bool (oB (val L k n))]) ∧ Below w.heap.size w w' := by
  have hbA : Below w.heap.size w ((((w.alloc (.cells #[.pointer (some ⟨t, 0, none⟩)] 23)).alloc (.cells #[.int .i64 (n : Int)] 3)).alloc (.cells #[.int .i64 0] 3)).alloc (.cells #[.bool false] 4)) := ((((Below.refl _ _).alloc (Nat.le_refl _) _).alloc (by simp) _).alloc (by simp; omega) _).alloc (by simp; omega) _
  have hGS : GSt w t n ((((w.alloc (.cells #[.pointer (some ⟨t, 0, none⟩)] 23)).alloc (.cells #[.int .i64 (n : Int)] 3)).alloc (.cells #[.int .i64 0] 3)).alloc (.cells #[.bool false] 4)) :=
    ⟨blk_alloc (blk_alloc (blk_alloc (blk_new w _) _) _) _, blk_alloc (blk_alloc (by simpa using blk_new (w.alloc (.cells #[.pointer (some ⟨t, 0, none⟩)] 23)) (.cells #[.int .i64 (n : Int)] 3)) _) _, blk_alloc (by simpa using blk_new ((w.alloc (.cells #[.pointer (some ⟨t, 0, none⟩)] 23)).alloc (.cells #[.int .i64 (n : Int)] 3)) (.cells #[.int .i64 0] 3)) _, by simpa using blk_new (((w.alloc (.cells #[.pointer (some ⟨t, 0, none⟩)] 23)).alloc (.cells #[.int .i64 (n : Int)] 3)).alloc (.cells #[.int .i64 0] 3)) (.cells #[.bool false] 4)⟩
  have hmy := mayC t W k n _ (hT.on hbA).wid hW hk
  rw [show mayB W k n = true from mayB_iff.2 ⟨n, rfl, hm⟩] at hmy
  have hlt := hT.lt
  have hA := hi.la
  have HT : Hid (Tri w t v W M A r f c) := hT
  have hown : ∀ k, v.ownBlock = some k → k < w.heap.size := fun k e => hT.own e
  have hval : (pthX W A n W r k 0).map (fun x => x.1) = pth A n W r k 0 := pthX_val (W := W) (d := n) (h := W) (k := k) (n := 0) hi.bd hi.rle (by have := hm.1; omega)
  have hget := hi.get hm
  have hfv := fun h0 => fnd_val (A := A) (d := n) (h := W) (r := r) (k := k) hm.1 hi.ok h0
  have bd := hi.bd
  have hr := hi.rle
  have HB : Hid (Below w.heap.size w ((((w.alloc (.cells #[.pointer (some ⟨t, 0, none⟩)] 23)).alloc (.cells #[.int .i64 (n : Int)] 3)).alloc (.cells #[.int .i64 0] 3)).alloc (.cells #[.bool false] 4))) := hbA
  have HGS : Hid (GSt w t n ((((w.alloc (.cells #[.pointer (some ⟨t, 0, none⟩)] 23)).alloc (.cells #[.int .i64 (n : Int)] 3)).alloc (.cells #[.int .i64 0] 3)).alloc (.cells #[.bool false] 4))) := hGS
  obtain ⟨E, hE⟩ : ∃ E, E = Ending.returned (.tuple #[.int .i64 (oV (val L k n)), .bool (oB (val L k n))]) := ⟨_, rfl⟩
  have HE : Hid (E = Ending.returned (.tuple #[.int .i64 (oV (val L k n)), .bool (oB (val L k n))])) := hE
  rw [← hE]
  clear hT hbA hGS hE hi
  refine callsIn_wide.1 (callsIn_of_wp_marks (n := 9) Try.func15 rfl trivial ?_ rfl)
  simp only [Try.ntmps15, List.size_toArray, List.length_cons, List.length_nil, Nat.reduceAdd, Nat.reduceSub, Array.replicate_succ, Array.replicate_zero, List.push_toArray, List.append_toArray, List.nil_append, List.cons_append]
  refine wpIn_wide.2 ?_
  go_wp2_with (fail)
  refine hmy.mono ?_
  rintro e w' ⟨rfl, hw⟩
  obtain rfl := hw.symm
  clear hw hmy
  go_wp2_with (fail)
  refine (pathC t k (n : Int) _).mono ?_
  rintro e w' ⟨rfl, hw⟩
  have hCp : Cap w' (w.heap.size + 1 + 1 + 1 + 1) (w.heap.size + 1 + 1 + 1 + 1 + 1 + 1) (w.heap.size + 1 + 1 + 1 + 1 + 1) t n k := by rw [hw]; have := cap_new ((((w.alloc (.cells #[.pointer (some ⟨t, 0, none⟩)] 23)).alloc (.cells #[.int .i64 (n : Int)] 3)).alloc (.cells #[.int .i64 0] 3)).alloc (.cells #[.bool false] 4)) t n k; simpa using this
  have hz0 : w'.heap.size = w.heap.size + 1 + 1 + 1 + 1 + 1 + 1 + 1 := by rw [hw]; simp
  have hbN : Below ((((w.alloc (.cells #[.pointer (some ⟨t, 0, none⟩)] 23)).alloc (.cells #[.int .i64 (n : Int)] 3)).alloc (.cells #[.int .i64 0] 3)).alloc (.cells #[.bool false] 4)).heap.size ((((w.alloc (.cells #[.pointer (some ⟨t, 0, none⟩)] 23)).alloc (.cells #[.int .i64 (n : Int)] 3)).alloc (.cells #[.int .i64 0] 3)).alloc (.cells #[.bool false] 4)) w' := by
    rw [hw]
    exact (((Below.refl _ _).alloc (Nat.le_refl _) _).alloc (by simp) _).alloc (by first | (simp; done) | (simp; omega)) _
  have HB0 : Hid (Below w.heap.size w w') := HB.out.trans (hbN.mono HB.out.size)
  have HS0 : Hid (GSt w t n w') := HGS.out.on hbN
  have hT0 := HT.out.on HB0.out
  clear hw hbN HGS HB
  generalize w' = W0 at *
  simp only [World.size_alloc]
  go_wp2_with (fail)
  refine (wpIn_wide (n := 9)).1 ?_
  refine path_top 24 25 8 9 noU (noU_stab _) (fun k h => h.elim) rfl (P := fun k => k < W0.heap.size) (fun k h => h) (path_seq (w.heap.size + 1 + 1 + 1 + 1) (w.heap.size + 1 + 1 + 1 + 1 + 1 + 1) (w.heap.size + 1 + 1 + 1 + 1 + 1) t _ v W M A r f c n k hW hm.1 hk (by omega) bd hr (by omega) (by omega) (by omega) (by omega) (fun k e => by have := hown k e; omega) W0 hCp hT0)
    (fun pre V => GSt w t n V ∧ Below w.heap.size w V ∧ ∀ y ∈ pre, y.1.1 ≠ n)
    (fun cc pre V => cc = .ret ∧ ∃ (pr : List (PX W A)) (x : PX W A), pre = pr ++ [x] ∧ x.1.1 = n ∧ V.heap[w.heap.size + 1 + 1]? = some (.cells #[.int .i64 (gt A x.1.2).v] 3) ∧ V.heap[w.heap.size + 1 + 1 + 1]? = some (.cells #[.bool (gt A x.1.2).h] 4) ∧ Below w.heap.size w V) ?hI ?hIx ?h0 ?assign ?body ?done ?stop
  case hI =>
    rintro s X Y row ⟨⟨a1, a2, a3, a4⟩, b1, b2⟩ hg hr
    have hr' : ∀ r, row = some r → ∃ o : Obj, X.heap[r]? = some o ∧ o.isCells = false := fun r e => (hr r e).2
    exact ⟨⟨blk_kept a1 hg hr', blk_kept a2 hg hr', blk_kept a3 hg hr', blk_kept a4 hg hr'⟩, b1.grown hg (by have := b1.size; omega) (fun k e => by have := (hr k e).1; omega), b2⟩
  case hIx =>
    rintro cc s X Y row ⟨rfl, pr, x, a1, a2, a3, a4, b1⟩ hg hr
    have hr' : ∀ r, row = some r → ∃ o : Obj, X.heap[r]? = some o ∧ o.isCells = false := fun r e => (hr r e).2
    exact ⟨rfl, pr, x, a1, a2, blk_kept a3 hg hr', blk_kept a4 hg hr', b1.grown hg (by have := b1.size; omega) (fun k e => by have := (hr k e).1; omega)⟩
  case h0 => exact ⟨HS0.out, HB0.out, fun y hy => by cases hy⟩
  case assign =>
    intro l x V K hK
    simp only [List.setIfInBounds_toArray, List.set_cons_succ, List.set_cons_zero] at hK ⊢
    gi_wp2
    exact hK
  case body =>
    rintro l pre x V hl hr hz ⟨⟨a1, a2, a3, a4⟩, b1, b2⟩ hN
    simp only [List.setIfInBounds_toArray, List.set_cons_succ, List.set_cons_zero]
    have y0 := blk_cell a1 (j := 0) rfl
    have y1 := blk_cell a2 (j := 0) rfl
    obtain ⟨⟨j, p⟩, hj1, hj2, hj3⟩ := x
    dsimp only at hj1 hj2 hj3 ⊢
    by_cases hjn : j = n
    · subst hjn
      have hnd := nodeC t v W M A r f c p V (HT.out.on b1) (by omega) hj2 hj3
      obtain ⟨d0, hd0⟩ : ∃ d0, d0 = gt A p := ⟨_, rfl⟩
      rw [← hd0] at hnd
      have HA3 : Hid (V.heap[w.heap.size + 1 + 1]? = some (.cells #[.int .i64 0] 3)) := a3
      have HA4 : Hid (V.heap[w.heap.size + 1 + 1 + 1]? = some (.cells #[.bool false] 4)) := a4
      have hGo : ∀ a V', RK W0.heap.size noU V V' → V'.heap[w.heap.size + 1 + 1]? = some (.cells #[.int .i64 d0.v] 3) → V'.heap[w.heap.size + 1 + 1 + 1]? = some (.cells #[.bool d0.h] 4) → Below w.heap.size w V' → ownPostU W0.heap.size noU (Kpt fun k => k < W0.heap.size) (fun (pre : List (PX W A)) V => GSt w t j V ∧ Below w.heap.size w V ∧ ∀ y ∈ pre, y.1.1 ≠ j) (fun cc pre V => cc = .ret ∧ ∃ (pr : List (PX W A)) (x : PX W A), pre = pr ++ [x] ∧ x.1.1 = j ∧ V.heap[w.heap.size + 1 + 1]? = some (.cells #[.int .i64 (gt A x.1.2).v] 3) ∧ V.heap[w.heap.size + 1 + 1 + 1]? = some (.cells #[.bool (gt A x.1.2).h] 4) ∧ Below w.heap.size w V) (pre ++ [⟨(j, p), hj1, hj2, hj3⟩]) V .ret a V' := fun a V' q1 q2 q3 q4 =>
        ⟨q1, rfl, pre, ⟨(j, p), hj1, hj2, hj3⟩, rfl, rfl, by rw [q2, hd0], by rw [q3, hd0], q4⟩
      have HBV : Hid (Below w.heap.size w V) := b1
      generalize hQ2 : ownPostU _ _ _ _ _ _ _ = Q2 at hGo ⊢
      clear hQ2 a1 a2 a3 a4 hr hl hN b1 b2 hd0
      gi_wp2_with (refine ⟨trivial, ?_⟩; gi_at_call 32; refine (CallsIn.inRound l (callsIn_wide.2 hnd)).mono ?_; rintro e V1 ⟨rfl, hb1⟩)
      have hz1 := hb1.size
      have bA : Below V1.heap.size V1 (V1.alloc (.cells #[.int .i64 (d0.a : Int), .int .i64 (d0.b : Int), .bool d0.h, .int .i64 d0.v] 70)) := (Below.refl _ _).alloc (Nat.le_refl _) _
      have HB3 : Hid (Below V.heap.size V (V1.alloc (.cells #[.int .i64 (d0.a : Int), .int .i64 (d0.b : Int), .bool d0.h, .int .i64 d0.v] 70))) := hb1.trans (bA.mono hz1)
      have K3 := blk_on HA3.out HB3.out
      have K4 := blk_on HA4.out HB3.out
      have hxb := blk_new V1 (.cells #[.int .i64 (d0.a : Int), .int .i64 (d0.b : Int), .bool d0.h, .int .i64 d0.v] 70)
      have HXB : Hid (w.heap.size + 1 + 1 + 1 < V1.heap.size) := by show _ < _; have := blk_lt HA4.out; omega
      clear hb1 bA hnd y0 y1
      generalize V1.alloc (.cells #[.int .i64 (d0.a : Int), .int .i64 (d0.b : Int), .bool d0.h, .int .i64 d0.v] 70) = V3 at *
      generalize V1.heap.size = XB at *
      obtain ⟨x0, x1, x2, x3⟩ := blk4 hxb
      have y3 := blk_cell K3 (j := 0) rfl
      have y4 := blk_cell K4 (j := 0) rfl
      have f3 := blk_free K3 0
      have f4 := blk_free K4 0
      have hmx : Try.prog.follows .mixedOrders = true := by kernel_rfl
      gi_region_with_o (fail)
      all_goals gi_wp2
      all_goals (
        have r1 : RK W0.heap.size noU V3 (V3.setCell ⟨w.heap.size + 1 + 1, 0, none⟩ (.int .i64 d0.v)) := rk_set _ _ (by omega)
        have r2 : RK W0.heap.size noU (V3.setCell ⟨w.heap.size + 1 + 1, 0, none⟩ (.int .i64 d0.v)) ((V3.setCell ⟨w.heap.size + 1 + 1, 0, none⟩ (.int .i64 d0.v)).setCell ⟨w.heap.size + 1 + 1 + 1, 0, none⟩ (.bool d0.h)) := rk_set _ _ (by omega)
        exact hGo _ _ (rk_drew (((RK.below (noU_stab 0) (Nat.zero_le _) HB3.out).trans r1).trans r2)) (blk_far (blk_set K3 (j := 0) (.int .i64 d0.v)) (show w.heap.size + 1 + 1 ≠ w.heap.size + 1 + 1 + 1 by omega) (j := 0) (.bool d0.h)) (blk_set (blk_far K4 (show w.heap.size + 1 + 1 + 1 ≠ w.heap.size + 1 + 1 by omega) (j := 0) (.int .i64 d0.v)) (j := 0) (.bool d0.h))
          (Below.drew (Below.setCell (p := ⟨w.heap.size + 1 + 1 + 1, 0, none⟩) (Below.setCell (p := ⟨w.heap.size + 1 + 1, 0, none⟩) (HBV.out.trans (HB3.out.mono HBV.out.size)) (by simp; omega) _) (by simp; omega) _)))
    · have hjn' : ¬ (j : Int) = (n : Int) := by omega
      have hGo : ∀ a, ownPostU W0.heap.size noU (Kpt fun k => k < W0.heap.size) (fun (pre : List (PX W A)) V => GSt w t n V ∧ Below w.heap.size w V ∧ ∀ y ∈ pre, y.1.1 ≠ n) (fun cc pre V => cc = .ret ∧ ∃ (pr : List (PX W A)) (x : PX W A), pre = pr ++ [x] ∧ x.1.1 = n ∧ V.heap[w.heap.size + 1 + 1]? = some (.cells #[.int .i64 (gt A x.1.2).v] 3) ∧ V.heap[w.heap.size + 1 + 1 + 1]? = some (.cells #[.bool (gt A x.1.2).h] 4) ∧ Below w.heap.size w V) (pre ++ [⟨(j, p), hj1, hj2, hj3⟩]) V .normal a V := fun a =>
        ⟨RK.refl _, kpt_r _, ⟨a1, a2, a3, a4⟩, b1, fun y hy => by
          rcases List.mem_append.1 hy with q | q
          · exact b2 y q
          · simp at q; rw [q]; exact hjn⟩
      generalize hQ2 : ownPostU _ _ _ _ _ _ _ = Q2 at hGo ⊢
      clear hQ2 a1 a2 a3 a4 hr hl hN b1 b2
      gi_wp2
      exact hGo _
  case done =>
    rintro D xs V hD rfl ⟨⟨a1, a2, a3, a4⟩, b1, b2⟩ hK
    have h0 : fnd A n W r k = 0 := by
      rcases Nat.eq_zero_or_pos (fnd A n W r k) with q | q
      · exact q
      · exfalso
        have hmem : ((n, fnd A n W r k) : Nat × Nat) ∈ (pthX W A n W r k 0).map (fun x => x.1) := by rw [hval]; exact pth_mem.2 ⟨n, Nat.le_refl _, by simp, by omega⟩
        obtain ⟨y, hy, e⟩ := List.mem_map.1 hmem
        exact b2 y hy (by rw [e])
    have HE2 : Hid (E = .returned (.tuple #[.int .i64 0, .bool false])) := by
      show _ = _
      rw [HE.out, hget, h0]; rfl
    have H3 : Hid (V.heap[w.heap.size + 1 + 1]? = some (.cells #[.int .i64 0] 3)) := a3
    have H4 : Hid (V.heap[w.heap.size + 1 + 1 + 1]? = some (.cells #[.bool false] 4)) := a4
    have HBV : Hid (Below w.heap.size w V) := b1
    have HDV : Hid (V.heap[D]? = some (.deferred (some []))) := hK
    have x3 := blk_cell a3 (j := 0) rfl
    have x4 := blk_cell a4 (j := 0) rfl
    have f3 := blk_free a3 0
    have f4 := blk_free a4 0
    clear a1 a2 a3 a4 b1 b2 hK HE hget hfv h0
    go_wp2
    have k3 := blk_far (blk_set H3.out (j := 0) (.int .i64 0)) (show w.heap.size + 1 + 1 ≠ w.heap.size + 1 + 1 + 1 by omega) (j := 0) (.bool false)
    have k4 := blk_set (blk_far H4.out (show w.heap.size + 1 + 1 + 1 ≠ w.heap.size + 1 + 1 by omega) (j := 0) (.int .i64 0)) (j := 0) (.bool false)
    have kD := blk_far (blk_far HDV.out (show D ≠ w.heap.size + 1 + 1 by omega) (j := 0) (.int .i64 0)) (show D ≠ w.heap.size + 1 + 1 + 1 by omega) (j := 0) (.bool false)
    have kB : Below w.heap.size w ((V.setCell ⟨w.heap.size + 1 + 1, 0, none⟩ (.int .i64 0)).setCell ⟨w.heap.size + 1 + 1 + 1, 0, none⟩ (.bool false)) := Below.setCell (p := ⟨w.heap.size + 1 + 1 + 1, 0, none⟩) (Below.setCell (p := ⟨w.heap.size + 1 + 1, 0, none⟩) HBV.out (by simp; omega) _) (by simp; omega) _
    refine ⟨by simp, .inl ⟨_, _, rfl, run_takeDeferred kD, ?_⟩⟩
    refine ⟨_, results_cells Try.results15 rfl rfl (load_int _ 0 _ (blk_cell (blk_putO k3 kD) rfl)) (load_bool _ false _ (blk_cell (blk_putO k4 kD) rfl)), HE2.out.symm, kB.trans (belowK_b (w := w) (Nat.le_refl _) _ D _ _ (by omega) kD rfl rfl)⟩
  case stop =>
    rintro D cc pre V hD hpre ⟨rfl, pr, x, rfl, hx, a3, a4, b1⟩ hK
    have hxm : x ∈ pthX W A n W r k 0 := by
      obtain ⟨rest, hrest⟩ := hpre
      rw [← hrest]; simp
    have hx2 : x.1 ∈ pth A n W r k 0 := by rw [← hval]; exact List.mem_map.2 ⟨x, hxm, rfl⟩
    obtain ⟨i, hi1, hi2, hi3⟩ := pth_mem.1 hx2
    have hin : i = n := by have := congrArg Prod.fst hi2; simp only at this; omega
    subst hin
    have hp : x.1.2 = fnd A i W r k := by rw [hi2]
    have HE2 : Hid (E = .returned (.tuple #[.int .i64 (gt A x.1.2).v, .bool (gt A x.1.2).h])) := by
      show _ = _
      rw [HE.out, hget, hp]
      cases hh : (gt A (fnd A i W r k)).h
      · rw [if_neg (by simp), hfv hi3 hh]; rfl
      · rw [if_pos ⟨hi3, rfl⟩]; rfl
    refine wpIn_wide.2 ?_
    go_wp2
    refine ⟨by simp, .inl ⟨_, _, rfl, run_takeDeferred hK, ?_⟩⟩
    refine ⟨_, results_cells Try.results15 rfl rfl (load_int _ _ _ (blk_cell (blk_putO a3 hK) rfl)) (load_bool _ _ _ (blk_cell (blk_putO a4 hK) rfl)), HE2.out.symm, b1.trans (belowK_b (w := w) (Nat.le_refl _) _ D _ _ (by omega) hK rfl rfl)⟩
theorem getC (t : Nat) (v : Value) (W M : Nat) (L : List En) (ar k : Nat) (n : Int) (w : World) (h : Tr w t v W M L ar) (hW : W ≤ 32) (hM : M ≤ 1048576) (hk : k < 4294967296) :
    Calls Try.prog 15 #[.pointer (some ⟨t, 0, none⟩), .int .u32 (k : Int), .int .i64 n] w fun e w' => e = .returned (.tuple #[.int .i64 (oV (getV W L k n)), .bool (oB (getV W L k n))]) ∧ Below w.heap.size w w' := by
  unfold getV
  cases hm : mayB W k n
  · exact get_bad t v W M L ar k n w h hW hk hm
  · obtain ⟨m, rfl, hmy⟩ := mayB_iff.1 hm
    obtain ⟨A, r, f, c, h1, h2, rfl⟩ := h
    rw [if_pos rfl, Int.toNat_natCast]
    exact get_may t v W M A r f c L k m w h1 h2 hW hM hk hmy
def cutE (W : Nat) (L : List En) (k : Nat) (n : Int) : Int := if mayB W k n then (if (val L k n.toNat).isSome then 0 else 121) else 120
def cutM (W : Nat) (L : List En) (k : Nat) (n : Int) : List En := if cutE W L k n = 0 then cutL L k n.toNat else L
set_option maxHeartbeats 2000000 in
theorem cut_no (t : Nat) (v : Value) (W M : Nat) (L : List En) (ar k : Nat) (n : Int) (w : World) (h : Tr w t v W M L ar) (hW : W ≤ 32) (hM : M ≤ 1048576) (hk : k < 4294967296) (hE : cutE W L k n ≠ 0) :
    Calls Try.prog 20 #[.pointer (some ⟨t, 0, none⟩), .int .u32 (k : Int), .int .i64 n] w fun e w' => e = .returned (.int .i64 (cutE W L k n)) ∧ Below w.heap.size w w' := by
  have hw0 : Wid w t W := by obtain ⟨A, r, f, c, h1, _⟩ := h; exact h1.wid
  have hmy := mayC t W k n w hw0 hW hk
  have hgt := getC t v W M L ar k n w h hW hM hk
  cases hm : mayB W k n
  · have e0 : cutE W L k n = 120 := by unfold cutE; rw [hm]; rfl
    rw [e0]
    rw [hm] at hmy
    clear hE e0 hgt hm
    go_enter Try.func20, Try.ntmps20
    go_wp2_with (go_at_call 30; refine hmy.mono ?_; rintro e w' ⟨rfl, hw⟩; obtain rfl := hw.symm; clear hw)
    go_ret
    exact ⟨rfl, Below.refl _ _⟩
  · unfold cutE at hE
    rw [hm, if_pos rfl] at hE
    have hv : (val L k n.toNat).isSome = false := by
      cases hq : (val L k n.toNat).isSome
      · rfl
      · rw [hq] at hE; exact absurd rfl hE
    have e0 : cutE W L k n = 121 := by unfold cutE; rw [hm, if_pos rfl, hv]; rfl
    have e1 : oB (getV W L k n) = false := by unfold getV oB; rw [hm, if_pos rfl]; exact hv
    rw [e0]
    rw [hm] at hmy
    rw [e1] at hgt
    clear hE e0 hm hv e1
    generalize oV (getV W L k n) = x at *
    go_enter Try.func20, Try.ntmps20
    go_wp2_with (first | (go_at_call 30; refine hmy.mono ?_; rintro e w' ⟨rfl, hw⟩; obtain rfl := hw.symm; clear hw) | (go_at_call 15; refine hgt.mono ?_; rintro e w' ⟨rfl, hb⟩))
    go_ret
    exact ⟨rfl, hb⟩
set_option maxHeartbeats 4000000 in
set_option maxRecDepth 20000 in
theorem cut_ok2 (t : Nat) (v : Value) (W M : Nat) (A : List Nd) (r f c : Nat) (L : List En) (k n : Nat) (x : Int) (w : World) (hT : Tri w t v W M A r f c) (hi : Inv W M A r f c L) (hW : W ≤ 32) (hM : M ≤ 1048576) (hk : k < 4294967296) (hm : May W k n) (hx : val L k n = some x) :
    Calls Try.prog 20 #[.pointer (some ⟨t, 0, none⟩), .int .u32 (k : Int), .int .i64 (n : Int)] w fun e w' => e = .returned (.int .i64 0) ∧ ∃ v', Tri w' t v' W M (shr n W ⟨A, f, c⟩ r k).1.A (shr n W ⟨A, f, c⟩ r k).2 (shr n W ⟨A, f, c⟩ r k).1.f (shr n W ⟨A, f, c⟩ r k).1.c ∧ Moved w w' t v v' := by
  have hmy := mayC t W k n w hT.wid hW hk
  have hm1 : mayB W k n = true := mayB_iff.2 ⟨n, rfl, hm⟩
  rw [hm1] at hmy
  have hgt := getC t v W M L A.length k n w ⟨A, r, f, c, hT, hi, rfl⟩ hW hM hk
  have e1 : getV W L k n = some x := by unfold getV; rw [hm1, if_pos rfl, Int.toNat_natCast]; exact hx
  rw [e1] at hgt
  have hin : (⟨k, n, x⟩ : En) ∈ L := (val_mem hi.srt).1 hx
  have hway := hi.way hm hin
  have hle := hi.le
  have hla := hi.la
  have hnum : n + 1 ≤ c := by
    have hg := (hi.grow (x := ⟨k, n, x⟩) hm).1
    have hp := way_pth (A := A) (d := n) (h := W) (r := r) (k := k) 0 hway
    have hq := pth_le_num (A := A) (d := n) (h := W) (r := r) (k := k) (n := 0) hm.1
    rw [hi.cn]; omega
  have hsh := fun V hV => shrinkC W k n hW hm.1 hk n t v M A r f c r 0 V hV hi.bd hi.rle hway (by omega) (by omega) (by omega) (by omega)
  have HT : Hid (Tri w t v W M A r f c) := hT
  show Calls _ _ _ _ _
  simp only [oV, oB, Option.getD_some, Option.isSome_some] at hgt
  clear e1 hin hway hnum hm1 hT
  go_enter Try.func20, Try.ntmps20
  go_wp2_with (fail)
  refine hmy.mono ?_
  rintro e w' ⟨rfl, hw⟩
  obtain rfl := hw.symm
  clear hw hmy
  go_wp2_with (fail)
  refine hgt.mono ?_
  rintro e w2 ⟨rfl, hb⟩
  have HT2 : Hid (Tri w2 t v W M A r f c) := HT.out.on hb
  have HB2 : Hid (Below w.heap.size w w2) := hb
  have hs2 := hsh w2 HT2.out
  rw [Nat.sub_zero] at hs2
  obtain ⟨c0, c1, c2, c3, c4, c5⟩ := blk6 HT2.out.1
  clear hb hgt hsh
  go_wp2_with (fail)
  refine hs2.mono ?_
  rintro e w6 ⟨rfl, v6, k1, k2⟩
  have HT6 : Hid (Tri w6 t v6 W M (shr n W ⟨A, f, c⟩ r k).1.A r (shr n W ⟨A, f, c⟩ r k).1.f (shr n W ⟨A, f, c⟩ r k).1.c) := k1
  have HM6 : Hid (Moved w w6 t v v6) := (Moved.of_below HB2.out).trans k2
  clear k1 k2 hs2 c0 c1 c2 c3 c4 c5 HT2 HB2
  obtain ⟨c0, c1, c2, c3, c4, c5⟩ := blk6 HT6.out.1
  have f3 := blk_free HT6.out.1 3
  go_wp2_with (fail)
  go_ret
  have h3 := HT6.out.set3 (shr n W ⟨A, f, c⟩ r k).2
  exact ⟨rfl, _, h3.1, HM6.out.trans h3.2⟩
/-- Cut. -/
theorem cutC (t : Nat) (v : Value) (W M : Nat) (L : List En) (ar k : Nat) (n : Int) (w : World) (h : Tr w t v W M L ar) (hW : W ≤ 32) (hM : M ≤ 1048576) (hk : k < 4294967296) :
    Calls Try.prog 20 #[.pointer (some ⟨t, 0, none⟩), .int .u32 (k : Int), .int .i64 n] w fun e w' => e = .returned (.int .i64 (cutE W L k n)) ∧ ∃ v', Tr w' t v' W M (cutM W L k n) ar ∧ Moved w w' t v v' := by
  by_cases hE : cutE W L k n = 0
  · have e1 : cutM W L k n = cutL L k n.toNat := by unfold cutM; rw [if_pos hE]
    have hm : mayB W k n = true := by
      cases hq : mayB W k n
      · unfold cutE at hE; rw [hq] at hE; cases hE
      · rfl
    obtain ⟨m, rfl, hmy⟩ := mayB_iff.1 hm
    have hv : (val L k m).isSome = true := by
      unfold cutE at hE
      rw [hm, if_pos rfl, Int.toNat_natCast] at hE
      cases hq : (val L k m).isSome
      · rw [hq] at hE; cases hE
      · rfl
    obtain ⟨x, hx⟩ := Option.isSome_iff_exists.1 hv
    obtain ⟨A, r, f, c, h1, h2, rfl⟩ := h
    obtain ⟨q1, q2⟩ := h2.cut hmy ((val_mem h2.srt).1 hx)
    rw [hE, e1]
    refine (cut_ok2 t v W M A r f c L k m x w h1 h2 hW hM hk hmy hx).mono ?_
    rintro e w' ⟨rfl, v', a1, a2⟩
    exact ⟨rfl, v', ⟨_, _, _, _, a1, by rw [Int.toNat_natCast]; exact q1, q2⟩, a2⟩
  · have e1 : cutM W L k n = L := by unfold cutM; rw [if_neg hE]
    rw [e1]
    refine (cut_no t v W M L ar k n w h hW hM hk hE).mono ?_
    rintro e w' ⟨rfl, hb⟩
    exact ⟨rfl, v, h.on hb, Moved.of_below hb⟩
end Go.Proofs.Ytfbkjghipahipaa
