/-
  A trie of one's own; awake.
-/
import Derived.Test.YtfbkjghipahipaaTrZ
namespace Go.Proofs.Ytfbkjghipahipaa
open Go.RowKit Go.Shelf
set_option linter.unusedVariables false
set_option linter.unusedSimpArgs false
attribute [local go_sem] Oper.semAt_some

theorem bel_step {w W V w1 : World} (h : Below w.heap.size w W) (hV : Below W.heap.size W V) (hb : Below V.heap.size V w1) : Below w.heap.size w w1 := h.trans ((hV.trans (hb.mono hV.size)).mono h.size)
/-- The trie in block t was made since w. -/
structure Own (w W : World) (t : Nat) (v : Value) (Wd M : Nat) (L : List En) (ar : Nat) : Prop where
  tr : Tr W t v Wd M L ar
  be : Below w.heap.size w W
  ge : w.heap.size ≤ t
  ow : ∀ k, v.ownBlock = some k → w.heap.size ≤ k
  hw : Wd ≤ 32
  hm : M ≤ 1048576
variable {w W W' : World} {t : Nat} {v v' : Value} {Wd M : Nat} {L L' : List En} {ar ar' : Nat}
theorem Own.on (h : Own w W t v Wd M L ar) (hb : Below W.heap.size W W') : Own w W' t v Wd M L ar := ⟨h.tr.on hb, h.be.trans (hb.mono h.be.size), h.ge, h.ow, h.hw, h.hm⟩
theorem Own.moved (h : Own w W t v Wd M L ar) (hT : Tr W' t v' Wd M L' ar') (m : Moved W W' t v v') : Own w W' t v' Wd M L' ar' := ⟨hT, h.be.trans (m.below h.be.size h.ge h.ow), h.ge, m.ge h.be.size h.ow, h.hw, h.hm⟩
theorem own_put (h : Own w W t v Wd M L ar) (k : Nat) (n vv : Int) (hk : k < 4294967296) :
    Calls Try.prog 19 #[.pointer (some ⟨t, 0, none⟩), .int .u32 (k : Int), .int .i64 n, .int .i64 vv] W fun e W' => e = .returned (.int .i64 (putE Wd M L k n vv)) ∧ ∃ v', Own w W' t v' Wd M (putM Wd M L k n vv) (putA Wd M L ar k n vv) ∧ Moved W W' t v v' :=
  (putC t v Wd M L ar k n vv W h.tr h.hw h.hm hk).mono fun e W' ⟨a, v', b, c⟩ => ⟨a, v', h.moved b c, c⟩
theorem own_cut (h : Own w W t v Wd M L ar) (k : Nat) (n : Int) (hk : k < 4294967296) :
    Calls Try.prog 20 #[.pointer (some ⟨t, 0, none⟩), .int .u32 (k : Int), .int .i64 n] W fun e W' => e = .returned (.int .i64 (cutE Wd L k n)) ∧ ∃ v', Own w W' t v' Wd M (cutM Wd L k n) ar ∧ Moved W W' t v v' :=
  (cutC t v Wd M L ar k n W h.tr h.hw h.hm hk).mono fun e W' ⟨a, v', b, c⟩ => ⟨a, v', h.moved b c, c⟩
theorem own_new (Wd M : Nat) (h : okN Wd M = true) (w W : World) (hb : Below w.heap.size w W) : Calls Try.prog 6 #[.int .i64 (Wd : Int), .int .i64 (M : Int)] W fun e W' => ∃ t, e = .returned (.tuple #[.pointer (some ⟨t, 0, none⟩), .int .i64 0]) ∧ Own w W' t (.slice none 0 0) Wd M [] 0 ∧ Below W.heap.size W W' :=
  (new_yes Wd M h W).mono fun e W' ⟨a, b, c⟩ => ⟨_, a, ⟨b, hb.trans (c.mono hb.size), hb.size, (fun k e => by cases e), (by unfold okN at h; have := of_decide_eq_true h; omega), (by unfold okN at h; have := of_decide_eq_true h; omega)⟩, c⟩
def aw1 : List En := [⟨128, 1, 5⟩]
def aw2 : List En := [⟨128, 1, 5⟩, ⟨160, 3, 6⟩]
theorem aw_e1 : putE 8 20 [] 128 1 5 = 0 ∧ putM 8 20 [] 128 1 5 = aw1 ∧ putA 8 20 [] 0 128 1 5 = 2 := ⟨by kernel_rfl, by kernel_rfl, by kernel_rfl⟩
theorem aw_e2 : putE 8 20 aw1 160 3 6 = 0 ∧ putM 8 20 aw1 160 3 6 = aw2 ∧ putA 8 20 aw1 2 160 3 6 = 4 := ⟨by kernel_rfl, by kernel_rfl, by kernel_rfl⟩
theorem aw_e3 : lasE (abvD 8 aw2 191 ((8 : Nat) : Int)) = ⟨160, 3, 6⟩ ∧ anyE (abvD 8 aw2 191 ((8 : Nat) : Int)) = true := ⟨by kernel_rfl, by kernel_rfl⟩
theorem aw_e4 : cntL 8 0 none aw2 = 4 ∧ cntL 8 0 none aw1 = 2 := ⟨by kernel_rfl, by kernel_rfl⟩
theorem aw_e5 : cutE 8 aw2 160 3 = 0 ∧ cutM 8 aw2 160 3 = aw1 := ⟨by kernel_rfl, by kernel_rfl⟩
theorem aw_e6 : oV (getV 8 aw1 128 1) = 5 ∧ oB (getV 8 aw1 128 1) = true := ⟨by kernel_rfl, by kernel_rfl⟩
theorem aw_e7 : putE 8 20 aw1 160 2 0 = 120 ∧ putM 8 20 aw1 160 2 0 = aw1 ∧ putA 8 20 aw1 4 160 2 0 = 4 := ⟨by kernel_rfl, by kernel_rfl, by kernel_rfl⟩
set_option maxRecDepth 20000 in
set_option maxHeartbeats 4000000 in
theorem awakeC (w : World) : Calls Try.prog 8 #[] w fun e w' => e = .returned (.bool true) ∧ Below w.heap.size w w' := by
  have h1 : Calls Try.prog 6 #[.int .i64 8, .int .i64 20] w fun e W' => ∃ t, e = .returned (.tuple #[.pointer (some ⟨t, 0, none⟩), .int .i64 0]) ∧ Own w W' t (.slice none 0 0) 8 20 [] 0 ∧ Below w.heap.size w W' := own_new 8 20 (by decide) w w (Below.refl _ _)
  have h2 : ∀ {W t v}, Own w W t v 8 20 [] 0 → Calls Try.prog 19 #[.pointer (some ⟨t, 0, none⟩), .int .u32 128, .int .i64 1, .int .i64 5] W fun e W' => e = .returned (.int .i64 0) ∧ ∃ v', Own w W' t v' 8 20 aw1 2 ∧ Moved W W' t v v' := fun h => by
    have := own_put h 128 1 5 (by decide); rw [aw_e1.1, aw_e1.2.1, aw_e1.2.2] at this; exact this
  have h3 : ∀ {W t v}, Own w W t v 8 20 aw1 2 → Calls Try.prog 19 #[.pointer (some ⟨t, 0, none⟩), .int .u32 160, .int .i64 3, .int .i64 6] W fun e W' => e = .returned (.int .i64 0) ∧ ∃ v', Own w W' t v' 8 20 aw2 4 ∧ Moved W W' t v v' := fun h => by
    have := own_put h 160 3 6 (by decide); rw [aw_e2.1, aw_e2.2.1, aw_e2.2.2] at this; exact this
  have h4 : ∀ {W t v}, Own w W t v 8 20 aw2 4 → Calls Try.prog 14 #[.pointer (some ⟨t, 0, none⟩), .int .u32 191] W fun e W' => e = .returned (.tuple #[.agg #[.int .u32 160, .int .i64 3, .int .i64 6], .bool true]) ∧ Below W.heap.size W W' := fun h => by
    have := longC _ _ 8 20 aw2 4 191 _ h.tr (by decide) (by decide) (by decide); rw [aw_e3.1, aw_e3.2] at this; exact this
  have h5 : ∀ {W t v}, Own w W t v 8 20 aw2 4 → Calls Try.prog 16 #[.pointer (some ⟨t, 0, none⟩)] W fun e W' => e = .returned (.int .i64 4) ∧ W' = W := fun h => by
    have := nodesC _ _ 8 20 aw2 4 _ h.tr; rw [aw_e4.1] at this; exact this
  have h6 : ∀ {W t v}, Own w W t v 8 20 aw2 4 → Calls Try.prog 20 #[.pointer (some ⟨t, 0, none⟩), .int .u32 160, .int .i64 3] W fun e W' => e = .returned (.int .i64 0) ∧ ∃ v', Own w W' t v' 8 20 aw1 4 ∧ Moved W W' t v v' := fun h => by
    have := own_cut h 160 3 (by decide); rw [aw_e5.1, aw_e5.2] at this; exact this
  have h7 : ∀ {W t v}, Own w W t v 8 20 aw1 4 → Calls Try.prog 15 #[.pointer (some ⟨t, 0, none⟩), .int .u32 128, .int .i64 1] W fun e W' => e = .returned (.tuple #[.int .i64 5, .bool true]) ∧ Below W.heap.size W W' := fun h => by
    have := getC _ _ 8 20 aw1 4 128 1 _ h.tr (by decide) (by decide) (by decide); rw [aw_e6.1, aw_e6.2] at this; exact this
  have h8 : ∀ {W t v}, Own w W t v 8 20 aw1 4 → Calls Try.prog 16 #[.pointer (some ⟨t, 0, none⟩)] W fun e W' => e = .returned (.int .i64 2) ∧ W' = W := fun h => by
    have := nodesC _ _ 8 20 aw1 4 _ h.tr; rw [aw_e4.2] at this; exact this
  have h9 : ∀ {W t v}, Own w W t v 8 20 aw1 4 → Calls Try.prog 17 #[.pointer (some ⟨t, 0, none⟩)] W fun e W' => e = .returned (.int .i64 4) ∧ W' = W := fun h => by
    have := arenaC _ _ 8 20 aw1 4 _ h.tr; exact this
  have h10 : ∀ {W t v}, Own w W t v 8 20 aw1 4 → Calls Try.prog 19 #[.pointer (some ⟨t, 0, none⟩), .int .u32 160, .int .i64 2, .int .i64 0] W fun e W' => e = .returned (.int .i64 120) ∧ ∃ v', Own w W' t v' 8 20 aw1 4 ∧ Moved W W' t v v' := fun h => by
    have := own_put h 160 2 0 (by decide); rw [aw_e7.1, aw_e7.2.1, aw_e7.2.2] at this; exact this
  go_enter Try.func8, Try.ntmps8
  go_wp2_with (fail)
  refine h1.mono ?_
  rintro e W1 ⟨t, rfl, o1, -⟩
  have O1 : Hid (Own w W1 t (.slice none 0 0) 8 20 [] 0) := o1
  clear o1 h1
  go_wp2_with (fail)
  refine (h2 O1.out).mono ?_
  rintro e W2 ⟨rfl, v2, o2, -⟩
  have O2 : Hid (Own w W2 t v2 8 20 aw1 2) := o2
  clear o2 O1
  go_wp2_with (fail)
  refine (h3 O2.out).mono ?_
  rintro e W3 ⟨rfl, v3, o3, -⟩
  have O3 : Hid (Own w W3 t v3 8 20 aw2 4) := o3
  clear o3 O2
  go_wp2_with (fail)
  refine (h4 O3.out).mono ?_
  rintro e W4 ⟨rfl, hb⟩
  have O4 := hidMk ((O3.out.on hb).on ((Below.refl _ _).alloc (Nat.le_refl _) (.cells #[.int .u32 160, .int .i64 3, .int .i64 6] 45)))
  have K4 : Hid (Kb (W4.alloc (.cells #[.int .u32 160, .int .i64 3, .int .i64 6] 45)) t v3 W4.heap.size (.cells #[.int .u32 160, .int .i64 3, .int .i64 6] 45)) := ⟨blk_new _ _, by have := (O3.out.on hb).tr.lt; omega, fun e => by have := (O3.out.on hb).tr.own e; omega⟩
  clear hb O3
  go_wp2_with (fail)
  refine (h5 O4.out).mono ?_
  rintro e W5 ⟨rfl, hw⟩
  obtain rfl := hw.symm
  clear hw
  go_wp2_with (fail)
  refine (h6 O4.out).mono ?_
  rintro e W6 ⟨rfl, v6, o6, m6⟩
  have O6 : Hid (Own w W6 t v6 8 20 aw1 4) := o6
  have K6 := hidMk (K4.out.moved m6)
  clear o6 m6 K4 O4
  go_wp2_with (fail)
  refine (h7 O6.out).mono ?_
  rintro e W7 ⟨rfl, hb⟩
  have O7 := hidMk (O6.out.on hb)
  have K7 := hidMk (K6.out.on hb)
  obtain ⟨x0, x1, x2⟩ := blk3 K7.out.1
  clear hb O6 K6
  go_wp2_with (fail)
  refine (h8 O7.out).mono ?_
  rintro e W8 ⟨rfl, hw⟩
  obtain rfl := hw.symm
  clear hw
  go_wp2_with (fail)
  refine (h9 O7.out).mono ?_
  rintro e W8 ⟨rfl, hw⟩
  obtain rfl := hw.symm
  clear hw
  go_wp2_with (fail)
  refine (h10 O7.out).mono ?_
  rintro e W9 ⟨rfl, v9, o9, -⟩
  clear x0 x1 x2
  have B9 : Hid (Below w.heap.size w W9) := o9.be
  clear o9 O7
  go_wp2_with (fail)
  go_ret
  exact ⟨rfl, B9.out⟩
set_option maxHeartbeats 1000000 in
theorem get_nil (k : Nat) (n : Int) (w : World) : Calls Try.prog 15 #[.pointer none, .int .u32 (k : Int), .int .i64 n] w fun e w' => e = .returned (.tuple #[.int .i64 0, .bool false]) ∧ Below w.heap.size w w' := by
  have HB : Hid (Below w.heap.size w ((((w.alloc (.cells #[.pointer none] 23)).alloc (.cells #[.int .i64 n] 3)).alloc (.cells #[.int .i64 0] 3)).alloc (.cells #[.bool false] 4))) := ((((Below.refl _ _).alloc (Nat.le_refl _) _).alloc (by simp) _).alloc (by simp; omega) _).alloc (by simp; omega) _
  go_enter Try.func15, Try.ntmps15
  go_wp2_with (fail)
  all_goals refine bodyPost_ret (results_cells Try.results15 rfl rfl (load_int _ 0 _ (by simp [go_sem])) (load_bool _ false _ (by simp [go_sem]))) rfl ⟨rfl, HB.out⟩
theorem long_nil0 (k : Nat) (w : World) : Calls Try.prog 14 #[.pointer none, .int .u32 (k : Int)] w fun e w' => e = .returned (.tuple #[.agg #[.int .u32 0, .int .i64 0, .int .i64 0], .bool false]) ∧ Below w.heap.size w w' := long_nil k w
theorem bel_al1 (W : World) (o : Obj) : Below W.heap.size W (W.alloc o) := (Below.refl _ _).alloc (Nat.le_refl _) _
theorem bel_al3 (W : World) (o p q : Obj) : Below W.heap.size W (((W.alloc o).alloc p).alloc q) := ((bel_al1 W o).alloc (bel_al1 W o).size _).alloc (((bel_al1 W o).alloc (bel_al1 W o).size _)).size _
/-- The iterator that a trie that is none hands back, against the empty list. -/
theorem same_nilA (k : Nat) (n : Int) (W : World) : Calls Try.prog 18 #[.func (.func 29) #[] #[.pointer (some ⟨W.heap.size, 0, none⟩), .pointer (some ⟨W.heap.size + 1, 0, none⟩), .pointer (some ⟨W.heap.size + 1 + 1, 0, none⟩)], .slice none 0 0, .int .i64 0]
    (((W.alloc (.cells #[.pointer none] 23)).alloc (.cells #[.int .u32 (k : Int)] 33)).alloc (.cells #[.int .i64 n] 3)) fun e w' => e = .returned (.bool true) ∧ Below W.heap.size W w' :=
  (sameC _ _ _ [] _ 0 _ (itr_above_nil W.heap.size (W.heap.size + 1) (W.heap.size + 1 + 1) k n _ (blk_alloc (blk_alloc (blk_new W _) _) _)) (RowE.nil _ 0).src (by decide) (by decide)).mono fun e w' ⟨a, b⟩ => ⟨a, (bel_al3 W _ _ _).trans (b.mono (bel_al3 W _ _ _).size)⟩
theorem same_nilW (W : World) : Calls Try.prog 18 #[.func (.func 27) #[] #[.pointer (some ⟨W.heap.size, 0, none⟩)], .slice none 0 0, .int .i64 0] (W.alloc (.cells #[.pointer none] 23)) fun e w' => e = .returned (.bool true) ∧ Below W.heap.size W w' :=
  (sameC _ _ _ [] _ 0 _ (itr_walk_nil W.heap.size _ (blk_new W _)) (RowE.nil _ 0).src (by decide) (by decide)).mono fun e w' ⟨a, b⟩ => ⟨a, (bel_al1 W _).trans (b.mono (bel_al1 W _).size)⟩
/-- Walk of a trie against what it holds. -/
theorem same_walk (h : Own w W t v Wd M L ar) (u : Value) (ee : Int) (hS : SrcE (W.alloc (.cells #[.pointer (some ⟨t, 0, none⟩)] 23)) u L) (h1 : 0 ≤ ee) (h2 : ee ≤ 9223372036854775807) : Calls Try.prog 18 #[.func (.func 27) #[] #[.pointer (some ⟨W.heap.size, 0, none⟩)], u, .int .i64 ee] (W.alloc (.cells #[.pointer (some ⟨t, 0, none⟩)] 23)) fun e w' => e = .returned (.bool true) ∧ Below W.heap.size W w' := by
  have hb := bel_al1 W (.cells #[.pointer (some ⟨t, 0, none⟩)] 23)
  have hT := (h.on hb).tr
  refine (sameC _ _ _ L _ ee _ (itr_walk t v Wd M L ar W.heap.size (fun q => q < (W.alloc (.cells #[.pointer (some ⟨t, 0, none⟩)] 23)).heap.size) _ hT h.hw h.hm (blk_new W _) (fun q hq => hq) hT.lt (by simp) (fun q e => hT.own e)) hS h1 h2).mono fun e w' ⟨a, b⟩ => ⟨a, hb.trans (b.mono hb.size)⟩
end Go.Proofs.Ytfbkjghipahipaa
