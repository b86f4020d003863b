/-
  The examples: awake.
-/
import Derived.Test.YtcjpjofoddpfhaaGreatNsV
import Derived.Test.YtcjpjofoddpfhaaGreatNsF
namespace Go.Proofs.YtcjpjofoddpfhaaGreat
open Go.RowKit
set_option linter.unusedVariables false
set_option linter.unusedSimpArgs false

def exL : List (Nat × Nat) := [(3, 5), (0, 3), (0, 9), (4, 4)]
def exU : List (Nat × Nat) := [(0, 9), (0, 3), (3, 5), (4, 4)]
theorem exU_ino : InO exU := by unfold InO exU ahd; simp
theorem ex_u {u : List (Nat × Nat)} (h : InO u) (hm : ∀ x, x ∈ u ↔ x ∈ exL) : u = exU :=
  ino_uniq h exU_ino fun x => by
    rw [hm x]; unfold exL exU
    simp only [List.mem_cons, List.not_mem_nil, or_false]
    constructor <;> (rintro (rfl | rfl | rfl | rfl) <;> simp)
theorem ex_ok : okS exL = true := by decide
theorem ex_lv : ofN (exL.map (lvU exU)) = [2, 1, 0, 1] := by decide +kernel
theorem ex_dep : dep (exL.map (lvU exU)) = 3 := by decide +kernel
theorem ex_fnd : fnds exU exL 4 = [2, 3, 0] := by decide +kernel
def exA : Ru := ⟨1, 0, 0, 0, 0, (0, 65535), (1, 6), (0, 0), 3⟩
def exB : Ru := ⟨2, 167772160, 8, 0, 0, (0, 65535), (1, 6), (0, 0), 3⟩
def exR : List Ru := [exA, exB]
def exH : Hd := ⟨167772161, 0, 0, 0, 0⟩
theorem ex_set : setE exR 64 = 0 := by decide +kernel
theorem ex_prn : prnL exR = 3 := by unfold prnL; rw [if_pos ex_set]; decide +kernel
theorem ex_grd : grdL exR = 3 := by unfold grdL; rw [if_pos ex_set]; decide +kernel
theorem ex_c1 : cS (0, 65535) = 1 := by unfold cS; rw [Xp.tl_span (by decide) (by decide)]; decide +kernel
theorem ex_c2 : cS (1, 6) = 4 := by unfold cS; rw [Xp.tl_span (by decide) (by decide)]; decide +kernel
theorem ex_tup : tupL exR = 8 := by
  have a1 : cS exA.p = 1 := ex_c1
  have a2 : cS exA.q = 4 := ex_c2
  have b1 : cS exB.p = 1 := ex_c1
  have b2 : cS exB.q = 4 := ex_c2
  unfold tupL; rw [if_pos ex_set]
  unfold tupN exR
  rw [List.map_cons, List.map_cons, List.map_nil, List.sum_cons, List.sum_cons, List.sum_nil, a1, a2, b1, b2]
  decide
theorem ex_prs : prsN exR exH = 2 := by decide +kernel
theorem ex_bd : ∀ R ∈ exR, BdR R := by
  intro R hR
  simp only [exR, List.mem_cons, List.not_mem_nil, or_false] at hR
  rcases hR with rfl | rfl <;> (unfold BdR I64; decide)
theorem ex_b16 : ∀ s ∈ exL, Bd16 s := by
  intro s hs
  simp only [exL, List.mem_cons, List.not_mem_nil, or_false] at hs
  rcases hs with rfl | rfl | rfl | rfl <;> (unfold Bd16; decide)
theorem srcS_of {w : World} {g n cap : Nat} {l : List (Nat × Nat)} {cs : Array Value} {T : TypeId} {fr : Nat × Nat} (h : w.heap[g]? = some (.cells cs T fr)) (hc : cs.toList = flatS l) (hn : n = l.length) (hcap : n ≤ cap) : SrcS w (.slice (some ⟨g, 0, none⟩) n cap) l := by
  subst hn
  refine ⟨_, cap, rfl, ⟨hcap, fun e => by cases e⟩, fun _ => ⟨g, 0, rfl, fun k hk j hj => ?_⟩⟩
  rw [Nat.zero_add, cell_of_row w g _ cs _ _ h, ← Array.getElem?_toList, hc]
  exact flatS_at l k hk j hj
theorem srcU_of {w : World} {g n cap : Nat} {l : List Ru} {cs : Array Value} {T : TypeId} {fr : Nat × Nat} (h : w.heap[g]? = some (.cells cs T fr)) (hc : cs.toList = flatU l) (hn : n = l.length) (hcap : n ≤ cap) : SrcU w (.slice (some ⟨g, 0, none⟩) n cap) l := by
  subst hn
  refine ⟨_, cap, rfl, ⟨hcap, fun e => by cases e⟩, fun _ => ⟨g, 0, rfl, fun k hk j hj => ?_⟩⟩
  rw [Nat.zero_add, cell_of_row w g _ cs _ _ h, ← Array.getElem?_toList, hc]
  exact flatU_at l k hk j hj
theorem srcI_of {w : World} {g n cap : Nat} {l : List Int} {cs : Array Value} {T : TypeId} {fr : Nat × Nat} (h : w.heap[g]? = some (.cells cs T fr)) (hc : cs.toList = eI l) (hn : n = l.length) : SrcI w (.slice (some ⟨g, 0, none⟩) n cap) l := by
  subst hn
  refine ⟨_, cap, rfl, fun _ => ⟨g, 0, rfl, fun k hk => ?_⟩⟩
  rw [Nat.zero_add, cell_of_row w g _ cs _ _ h, ← Array.getElem?_toList, hc]
  exact eI_at hk
theorem blk_third (w : World) (a b c : Obj) : (((w.alloc a).alloc b).alloc c).heap[w.heap.size + 1 + 1]? = some c := by
  have := blk_new ((w.alloc a).alloc b) c
  rwa [show ((w.alloc a).alloc b).heap.size = w.heap.size + 1 + 1 by simp] at this
set_option maxRecDepth 20000 in
set_option maxHeartbeats 4000000 in
theorem awakeC (w : World) : Calls Tryz.prog 6 #[] w fun e w' => e = .returned (.bool true) ∧ Below w.heap.size w w' := by
  have hS0 : SrcS (w.alloc (.cells #[.int .u16 3, .int .u16 5, .int .u16 0, .int .u16 3, .int .u16 0, .int .u16 9, .int .u16 4, .int .u16 4] 47)) (.slice (some ⟨w.heap.size, 0, none⟩) 4 4) exL := srcS_of (blk_new w _) rfl rfl (Nat.le_refl _)
  have HB0 : Hid (Below w.heap.size w (w.alloc (.cells #[.int .u16 3, .int .u16 5, .int .u16 0, .int .u16 3, .int .u16 0, .int .u16 9, .int .u16 4, .int .u16 4] 47))) := (Below.refl _ _).alloc (Nat.le_refl _) _
  have hL := levelsC exL _ _ hS0 (by decide) ex_b16
  have HS0 : Hid (SrcS (w.alloc (.cells #[.int .u16 3, .int .u16 5, .int .u16 0, .int .u16 3, .int .u16 0, .int .u16 9, .int .u16 4, .int .u16 4] 47)) (.slice (some ⟨w.heap.size, 0, none⟩) 4 4) exL) := hS0
  clear hS0
  go_enter Tryz.func6, Tryz.ntmps6
  go_wp2_with (fail)
  refine hL.mono ?_
  rintro e w1 ⟨hq, hb1⟩
  rcases hq with ⟨_, v1, u, rfl, h1, h2, h3⟩ | ⟨hno, rfl⟩
  rotate_left
  · rw [ex_ok] at hno; cases hno
  obtain rfl := ex_u h1 h2
  rw [ex_lv] at h3
  have HR1 : Hid (SrcI w1 v1 [2, 1, 0, 1]) := h3.src
  have HS1 : Hid (SrcS w1 (.slice (some ⟨w.heap.size, 0, none⟩) 4 4) exL) := HS0.out.keep hb1
  have HB1 : Hid (Below w.heap.size w w1) := bel_of HB0.out hb1 HB0.out.size
  clear hb1 h1 h2 h3 hL HS0 HB0
  have hD := depthC exL _ w1 HS1.out (by decide) ex_b16
  go_wp2_with (fail)
  refine hD.mono ?_
  rintro e w2 ⟨hq, hb2⟩
  rcases hq with ⟨_, u, h1, h2, rfl⟩ | ⟨hno, rfl⟩
  rotate_left
  · rw [ex_ok] at hno; cases hno
  obtain rfl := ex_u h1 h2
  rw [ex_dep]
  have HR2 : Hid (SrcI w2 v1 [2, 1, 0, 1]) := HR1.out.keep hb2
  have HS2 : Hid (SrcS w2 (.slice (some ⟨w.heap.size, 0, none⟩) 4 4) exL) := HS1.out.keep hb2
  have HB2 : Hid (Below w.heap.size w w2) := bel_of HB1.out hb2 HB1.out.size
  clear hb2 h1 h2 hD HS1 HB1 HR1
  have hF := findC exL 4 _ w2 HS2.out (by decide) ex_b16
  go_wp2_with (fail)
  refine hF.mono ?_
  rintro e w3 ⟨hq, hb3⟩
  rcases hq with ⟨_, v3, u, rfl, h1, h2, h3⟩ | ⟨hno, rfl⟩
  rotate_left
  · rw [ex_ok] at hno; cases hno
  obtain rfl := ex_u h1 h2
  rw [ex_fnd] at h3
  have HR3 : Hid (SrcI w3 v1 [2, 1, 0, 1]) := HR2.out.keep hb3
  have HF3 : Hid (SrcI w3 v3 [2, 3, 0]) := h3.src
  have HB3 : Hid (Below w.heap.size w w3) := bel_of HB2.out hb3 HB2.out.size
  clear hb3 h1 h2 h3 hF HS2 HB2 HR2
  have hS4 : SrcU (((w3.alloc (.cells #[.int .i64 1, .int .u32 0, .int .i64 0, .int .u32 0, .int .i64 0, .int .u16 0, .int .u16 65535, .int .u16 1, .int .u16 6, .int .u8 0, .int .u8 0, .int .i64 3] 54)).alloc (.cells #[.int .i64 2, .int .u32 167772160, .int .i64 8, .int .u32 0, .int .i64 0, .int .u16 0, .int .u16 65535, .int .u16 1, .int .u16 6, .int .u8 0, .int .u8 0, .int .i64 3] 54)).alloc (.cells #[.int .i64 1, .int .u32 0, .int .i64 0, .int .u32 0, .int .i64 0, .int .u16 0, .int .u16 65535, .int .u16 1, .int .u16 6, .int .u8 0, .int .u8 0, .int .i64 3, .int .i64 2, .int .u32 167772160, .int .i64 8, .int .u32 0, .int .i64 0, .int .u16 0, .int .u16 65535, .int .u16 1, .int .u16 6, .int .u8 0, .int .u8 0, .int .i64 3] 54)) (.slice (some ⟨w3.heap.size + 1 + 1, 0, none⟩) 2 2) exR := srcU_of (blk_third w3 _ _ _) rfl rfl (Nat.le_refl _)
  have HB4 : Hid (Below w3.heap.size w3 (((w3.alloc (.cells #[.int .i64 1, .int .u32 0, .int .i64 0, .int .u32 0, .int .i64 0, .int .u16 0, .int .u16 65535, .int .u16 1, .int .u16 6, .int .u8 0, .int .u8 0, .int .i64 3] 54)).alloc (.cells #[.int .i64 2, .int .u32 167772160, .int .i64 8, .int .u32 0, .int .i64 0, .int .u16 0, .int .u16 65535, .int .u16 1, .int .u16 6, .int .u8 0, .int .u8 0, .int .i64 3] 54)).alloc (.cells #[.int .i64 1, .int .u32 0, .int .i64 0, .int .u32 0, .int .i64 0, .int .u16 0, .int .u16 65535, .int .u16 1, .int .u16 6, .int .u8 0, .int .u8 0, .int .i64 3, .int .i64 2, .int .u32 167772160, .int .i64 8, .int .u32 0, .int .i64 0, .int .u16 0, .int .u16 65535, .int .u16 1, .int .u16 6, .int .u8 0, .int .u8 0, .int .i64 3] 54))) := (((Below.refl _ _).alloc (Nat.le_refl _) _).alloc (by simp) _).alloc (by simp; omega) _
  have hP := pruneC exR _ _ hS4 (by decide) ex_bd
  rw [ex_prn, ex_set] at hP
  have HS4 : Hid (SrcU (((w3.alloc (.cells #[.int .i64 1, .int .u32 0, .int .i64 0, .int .u32 0, .int .i64 0, .int .u16 0, .int .u16 65535, .int .u16 1, .int .u16 6, .int .u8 0, .int .u8 0, .int .i64 3] 54)).alloc (.cells #[.int .i64 2, .int .u32 167772160, .int .i64 8, .int .u32 0, .int .i64 0, .int .u16 0, .int .u16 65535, .int .u16 1, .int .u16 6, .int .u8 0, .int .u8 0, .int .i64 3] 54)).alloc (.cells #[.int .i64 1, .int .u32 0, .int .i64 0, .int .u32 0, .int .i64 0, .int .u16 0, .int .u16 65535, .int .u16 1, .int .u16 6, .int .u8 0, .int .u8 0, .int .i64 3, .int .i64 2, .int .u32 167772160, .int .i64 8, .int .u32 0, .int .i64 0, .int .u16 0, .int .u16 65535, .int .u16 1, .int .u16 6, .int .u8 0, .int .u8 0, .int .i64 3] 54)) (.slice (some ⟨w3.heap.size + 1 + 1, 0, none⟩) 2 2) exR) := hS4
  clear hS4
  go_wp2_with (fail)
  refine hP.mono ?_
  rintro e w5 ⟨rfl, hb5⟩
  have B5 : Below w3.heap.size w3 w5 := bel_of HB4.out hb5 HB4.out.size
  have HS5 : Hid (SrcU w5 (.slice (some ⟨w3.heap.size + 1 + 1, 0, none⟩) 2 2) exR) := HS4.out.keep hb5
  have HR5 : Hid (SrcI w5 v1 [2, 1, 0, 1]) := HR3.out.keep B5
  have HF5 : Hid (SrcI w5 v3 [2, 3, 0]) := HF3.out.keep B5
  have HB5 : Hid (Below w.heap.size w w5) := bel_of HB3.out B5 HB3.out.size
  clear hb5 hP HB4 HS4 HR3 HF3 HB3 B5
  generalize w3.heap.size + 1 + 1 = gR at *
  have hG := gridC exR _ w5 HS5.out (by decide) ex_bd
  rw [ex_grd, ex_set] at hG
  go_wp2_with (fail)
  refine hG.mono ?_
  rintro e w6 ⟨rfl, hb6⟩
  have HS6 : Hid (SrcU w6 (.slice (some ⟨gR, 0, none⟩) 2 2) exR) := HS5.out.keep hb6
  have HR6 : Hid (SrcI w6 v1 [2, 1, 0, 1]) := HR5.out.keep hb6
  have HF6 : Hid (SrcI w6 v3 [2, 3, 0]) := HF5.out.keep hb6
  have HB6 : Hid (Below w.heap.size w w6) := bel_of HB5.out hb6 HB5.out.size
  clear hb6 hG HS5 HR5 HF5 HB5
  have hT := tupleC exR _ w6 HS6.out (by decide) ex_bd
  rw [ex_tup, ex_set] at hT
  go_wp2_with (fail)
  refine hT.mono ?_
  rintro e w7 ⟨rfl, hb7⟩
  have HS7 : Hid (SrcU w7 (.slice (some ⟨gR, 0, none⟩) 2 2) exR) := HS6.out.keep hb7
  have HR7 : Hid (SrcI w7 v1 [2, 1, 0, 1]) := HR6.out.keep hb7
  have HF7 : Hid (SrcI w7 v3 [2, 3, 0]) := HF6.out.keep hb7
  have HB7 : Hid (Below w.heap.size w w7) := bel_of HB6.out hb7 HB6.out.size
  clear hb7 hT HS6 HR6 HF6 HB6
  have hI1 := intsC [2, 1, 0, 1] v1 (.slice (some ⟨w7.heap.size, 0, none⟩) 4 4) (w7.alloc (.cells #[.int .i64 2, .int .i64 1, .int .i64 0, .int .i64 1] 3)) (HR7.out.keep ((Below.refl _ _).alloc (Nat.le_refl _) _)) (srcI_of (blk_new w7 _) rfl rfl) (by decide)
  go_wp2_with (go_at_call 10; fail)
  refine hI1.mono ?_
  rintro e w8 ⟨rfl, hb8⟩
  have B8 : Below w7.heap.size w7 w8 := ((Below.refl _ _).alloc (Nat.le_refl _) _).trans (hb8.mono (by simp))
  have HS8 : Hid (SrcU w8 (.slice (some ⟨gR, 0, none⟩) 2 2) exR) := HS7.out.keep B8
  have HF8 : Hid (SrcI w8 v3 [2, 3, 0]) := HF7.out.keep B8
  have HB8 : Hid (Below w.heap.size w w8) := bel_of HB7.out B8 HB7.out.size
  clear hb8 B8 hI1 HS7 HR7 HF7 HB7
  have hI2 := intsC [2, 3, 0] v3 (.slice (some ⟨w8.heap.size, 0, none⟩) 3 3) (w8.alloc (.cells #[.int .i64 2, .int .i64 3, .int .i64 0] 3)) (HF8.out.keep ((Below.refl _ _).alloc (Nat.le_refl _) _)) (srcI_of (blk_new w8 _) rfl rfl) (by decide)
  go_wp2_with (go_at_call 10; fail)
  refine hI2.mono ?_
  rintro e w9 ⟨rfl, hb9⟩
  have B9 : Below w8.heap.size w8 w9 := ((Below.refl _ _).alloc (Nat.le_refl _) _).trans (hb9.mono (by simp))
  have HS9 : Hid (SrcU w9 (.slice (some ⟨gR, 0, none⟩) 2 2) exR) := HS8.out.keep B9
  have HB9 : Hid (Below w.heap.size w w9) := bel_of HB8.out B9 HB8.out.size
  clear hb9 B9 hI2 HS8 HF8 HB8
  have hPr := pairsC exR exH _ w9 HS9.out (by decide) ex_bd (by unfold OkH; decide)
  rw [ex_prs] at hPr
  go_wp2_with (go_at_call 23; fail)
  refine hPr.mono ?_
  rintro e w10 ⟨rfl, hb10⟩
  have HB10 : Hid (Below w.heap.size w w10) := bel_of HB9.out hb10 HB9.out.size
  clear hb10 hPr HS9 HB9
  go_wp2
  go_ret
  exact ⟨rfl, HB10.out⟩
end Go.Proofs.YtcjpjofoddpfhaaGreat
