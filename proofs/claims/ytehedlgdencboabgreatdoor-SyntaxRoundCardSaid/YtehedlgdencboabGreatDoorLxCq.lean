/-
  The landed lex.scanLine: the labels wrong, end, sign, keep, and the front. Written by tools/mkLxCq.py.
-/
import Derived.Test.YtehedlgdencboabGreatDoorLxCp
import Derived.Test.YtehedlgdencboabGreatDoorLxUb
namespace Go.Proofs.YtehedlgdencboabGreatDoor
open Go.RowKit
set_option linter.unusedVariables false
set_option linter.unusedSimpArgs false

set_option maxRecDepth 20000 in
set_option maxHeartbeats 4000000 in
theorem pass0 (r b : ByteArray) (no R T n at_ code : Nat) (v : Value) (w' : World) (J' : Nat → Act → World → Prop) (Φ : Ending → World → Prop) (u3 u4 u5 u6 u12 u13 u14 u15 u16 u17 u18 u19 u20 u21 u22 u23 u24 u25 u26 u27 u28 u29 u30 u31 u32 u33 u34 u35 u36 u37 u38 u39 u40 u41 u42 u43 u44 u45 u46 u47 u48 u49 u50 u51 u52 u53 u54 u55 u56 u57 u58 u59 u60 u61 u62 u63 u64 u65 u66 u67 u68 u69 u70 u71 u72 u73 u74 u75 u76 u77 u78 u79 u80 u81 u82 u83 u84 u85 u86 u87 u88 u89 u90 u91 u92 u93 u94 u95 u96 u97 u98 u99 u100 u101 u102 : Value)
    (K X C : Int) (t : ByteArray) (hT : w'.heap[T]? = some (.cells #[.int .i64 K, .string t, .int .u32 X, .int .i64 (no : Int), .int .i64 C] 84)) (hR : w'.heap[R]? = some (.cells #[.int .i64 0, .int .i64 0, .int .i64 0] 76)) (hne : ¬ R = T) (hne' : ¬ T = R) (hΦ : ∀ w2, Only R w' w2 → w2.heap[R]? = some (.cells #[.int .i64 (code : Int), .int .i64 (no : Int), .int .i64 C] 76) → Φ (.returned (.tuple #[v, .agg #[.int .i64 (code : Int), .int .i64 (no : Int), .int .i64 C]])) w2) :
    ∃ d, behind (scopeOf Tryz.f84) 0 = some d ∧ d.wp Tryz.prog (jumpsTo J' (bodyPost Tryz.prog Tryz.f84 Φ)) { tmps := #[v, .string r, .int .i64 (no : Int), u3, u4, u5, u6, .pointer (some ⟨R, 0, none⟩), .int .i64 (code : Int), .int .i64 (at_ : Int), .pointer (some ⟨T, 0, none⟩), .string b, u12, u13, u14, u15, u16, u17, u18, u19, u20, u21, u22, u23, u24, u25, u26, u27, u28, u29, u30, u31, u32, u33, u34, u35, u36, u37, u38, u39, u40, u41, u42, u43, u44, u45, u46, u47, u48, u49, u50, u51, u52, u53, u54, u55, u56, u57, u58, u59, u60, u61, u62, u63, u64, u65, u66, u67, u68, u69, u70, u71, u72, u73, u74, u75, u76, u77, u78, u79, u80, u81, u82, u83, u84, u85, u86, u87, u88, u89, u90, u91, u92, u93, u94, u95, u96, u97, u98, u99, u100, u101, u102], defers := [] } w' := by
  refine ⟨_, rfl, ?_⟩
  obtain ⟨c0, c1, c2, c3, c4⟩ := blk5 hT
  have z0 := blk_free hT 0
  have z1 := blk_free hT 1
  have q0 := blk_cell (j := 0) hR rfl
  have q1 := blk_cell (j := 1) hR rfl
  have q2 := blk_cell (j := 2) hR rfl
  have f0 := blk_free hR 0
  have f1 := blk_free hR 1
  have f2 := blk_free hR 2
  have hΦ' : Hid _ := hΦ
  have HR' : Hid _ := hR
  clear hΦ hR hT
  go_wp2
  go_region
  all_goals go_wp2
  all_goals
    simp only [jumpsTo]
    have hb : (((w'.setCell ⟨R, 0, none⟩ (.int .i64 (code : Int))).setCell ⟨R, 1, none⟩ (.int .i64 (no : Int))).setCell ⟨R, 2, none⟩ (.int .i64 C)).drew.heap[R]? = some (.cells #[.int .i64 (code : Int), .int .i64 (no : Int), .int .i64 C] 76) := blk_set (blk_set (blk_set HR'.out _) _) _
    exact bodyPost_ret (results_blk3 Tryz.results84 rfl hb Tryz.underlying76 rfl (by kernel_rfl)) rfl (hΦ'.out _ (((only_set _ _ _ _).trans (only_set _ _ _ _)).trans (only_set _ _ _ _)).drew hb)
set_option maxRecDepth 20000 in
set_option maxHeartbeats 4000000 in
theorem pass7 (r b : ByteArray) (no R T n at_ code : Nat) (v : Value) (w' : World) (J' : Nat → Act → World → Prop) (Q : Exit → Act → World → Prop) (u3 u4 u5 u6 u12 u13 u14 u15 u16 u17 u18 u19 u20 u21 u22 u23 u24 u25 u26 u27 u28 u29 u30 u31 u32 u33 u34 u35 u36 u37 u38 u39 u40 u41 u42 u43 u44 u45 u46 u47 u48 u49 u50 u51 u52 u53 u54 u55 u56 u57 u58 u59 u60 u61 u62 u63 u64 u65 u66 u67 u68 u69 u70 u71 u72 u73 u74 u75 u76 u77 u78 u79 u80 u81 u82 u83 u84 u85 u86 u87 u88 u89 u90 u91 u92 u93 u94 u95 u96 u97 u98 u99 u100 u101 u102 : Value)
    (K X C : Int) (t : ByteArray) (tx : ByteArray) (hn : (n : Int) ≤ 200) (hat : (at_ : Int) < (n : Int)) (hsl : ∀ W, (Instr.slice 9 (.string b) (some (.int .i64 (at_ : Int))) (some (.int .i64 ((at_ : Int) + 1))) none).run Tryz.prog W = .ok (.string tx) W) (hT : w'.heap[T]? = some (.cells #[.int .i64 K, .string t, .int .u32 X, .int .i64 (no : Int), .int .i64 C] 84)) (hd : ∀ (u3 u4 u5 u6 u12 u13 u14 u15 u16 u17 u18 u19 u20 u21 u22 u23 u24 u25 u26 u27 u28 u29 u30 u31 u32 u33 u34 u35 u36 u37 u38 u39 u40 u41 u42 u43 u44 u45 u46 u47 u48 u49 u50 u51 u52 u53 u54 u55 u56 u57 u58 u59 u60 u61 u62 u63 u64 u65 u66 u67 u68 u69 u70 u71 u72 u73 u74 u75 u76 u77 u78 u79 u80 u81 u82 u83 u84 u85 u86 u87 u88 u89 u90 u91 u92 u93 u94 u95 u96 u97 u98 u99 u100 u101 u102 : Value), ∃ d, behind (scopeOf Tryz.f84) 8 = some d ∧ d.wp Tryz.prog (jumpsTo J' Q) { tmps := #[v, .string r, .int .i64 (no : Int), u3, u4, u5, u6, .pointer (some ⟨R, 0, none⟩), .int .i64 (code : Int), .int .i64 (at_ : Int), .pointer (some ⟨T, 0, none⟩), .string b, u12, u13, u14, u15, u16, u17, u18, u19, u20, u21, u22, u23, u24, u25, u26, u27, u28, u29, u30, u31, u32, u33, u34, u35, u36, u37, u38, u39, u40, u41, u42, u43, u44, u45, u46, u47, u48, u49, u50, u51, u52, u53, u54, u55, u56, u57, u58, u59, u60, u61, u62, u63, u64, u65, u66, u67, u68, u69, u70, u71, u72, u73, u74, u75, u76, u77, u78, u79, u80, u81, u82, u83, u84, u85, u86, u87, u88, u89, u90, u91, u92, u93, u94, u95, u96, u97, u98, u99, u100, u101, u102], defers := [] } ((w'.setCell ⟨T, 0, none⟩ (.int .i64 3)).setCell ⟨T, 1, none⟩ (.string tx)).drew) :
    ∃ d, behind (scopeOf Tryz.f84) 7 = some d ∧ d.wp Tryz.prog (jumpsTo J' (Q)) { tmps := #[v, .string r, .int .i64 (no : Int), u3, u4, u5, u6, .pointer (some ⟨R, 0, none⟩), .int .i64 (code : Int), .int .i64 (at_ : Int), .pointer (some ⟨T, 0, none⟩), .string b, u12, u13, u14, u15, u16, u17, u18, u19, u20, u21, u22, u23, u24, u25, u26, u27, u28, u29, u30, u31, u32, u33, u34, u35, u36, u37, u38, u39, u40, u41, u42, u43, u44, u45, u46, u47, u48, u49, u50, u51, u52, u53, u54, u55, u56, u57, u58, u59, u60, u61, u62, u63, u64, u65, u66, u67, u68, u69, u70, u71, u72, u73, u74, u75, u76, u77, u78, u79, u80, u81, u82, u83, u84, u85, u86, u87, u88, u89, u90, u91, u92, u93, u94, u95, u96, u97, u98, u99, u100, u101, u102], defers := [] } w' := by
  refine ⟨_, rfl, ?_⟩
  obtain ⟨c0, c1, c2, c3, c4⟩ := blk5 hT
  have z0 := blk_free hT 0
  have z1 := blk_free hT 1
  have hd' : Hid _ := hd
  clear hT hd
  go_wp2
  go_region
  all_goals
    go_wp2
    go_step3
    obtain ⟨d, hf, hp⟩ := hd'.out _ _ _ _ _ _ _ _ _ _ _ _ _ _ _ _ _ _ _ _ _ _ _ _ _ _ _ _ _ _ _ _ _ _ _ _ _ _ _ _ _ _ _ _ _ _ _ _ _ _ _ _ _ _ _ _ _ _ _ _ _ _ _ _ _ _ _ _ _ _ _ _ _ _ _ _ _ _ _ _ _ _ _ _ _ _ _ _ _ _ _ _ _ _ _
    cases hf
    rename_i hK
    exact hK _ _ hp
set_option maxRecDepth 20000 in
set_option maxHeartbeats 4000000 in
theorem pass8 (r b : ByteArray) (no R T n at_ code : Nat) (v : Value) (w' : World) (J' : Nat → Act → World → Prop) (Q : Exit → Act → World → Prop) (u3 u4 u5 u6 u12 u13 u14 u15 u16 u17 u18 u19 u20 u21 u22 u23 u24 u25 u26 u27 u28 u29 u30 u31 u32 u33 u34 u35 u36 u37 u38 u39 u40 u41 u42 u43 u44 u45 u46 u47 u48 u49 u50 u51 u52 u53 u54 u55 u56 u57 u58 u59 u60 u61 u62 u63 u64 u65 u66 u67 u68 u69 u70 u71 u72 u73 u74 u75 u76 u77 u78 u79 u80 u81 u82 u83 u84 u85 u86 u87 u88 u89 u90 u91 u92 u93 u94 u95 u96 u97 u98 u99 u100 u101 u102 : Value)
    (k x c m : Nat) (t : ByteArray) (hlm : ∀ W, (Builtin.len_ #[9] 3 #[.string t]).run Tryz.prog W = .ok (.int .i64 (m : Int)) W) (hat : (at_ : Int) ≤ 200) (hm : (m : Int) ≤ 65536) (B : Nat) (l : List Tk) (hrow : RowT w' B v l) (hB : B ≤ w'.heap.size) (hll : l.length ≤ 1000000) (hvT : some T ≠ v.ownBlock) (hT : w'.heap[T]? = some (.cells #[.int .i64 (k : Int), .string t, .int .u32 (x : Int), .int .i64 (no : Int), .int .i64 (c : Int)] 84)) (hJ : ∀ v5 w5, RowT w5 B v5 (l ++ [⟨k, t, x, no, c⟩]) → (w'.alloc (.cells #[.int .i64 (k : Int), .string t, .int .u32 (x : Int), .int .i64 (no : Int), .int .i64 (c : Int)] 84)).grownBy w5 v.ownBlock → (v5.ownBlock = v.ownBlock ∨ v5.ownBlock = some (w'.alloc (.cells #[.int .i64 (k : Int), .string t, .int .u32 (x : Int), .int .i64 (no : Int), .int .i64 (c : Int)] 84)).heap.size) → ∀ (u3 u4 u5 u6 u12 u13 u14 u15 u16 u17 u18 u19 u20 u21 u22 u23 u24 u25 u26 u27 u28 u29 u30 u31 u32 u33 u34 u35 u36 u37 u38 u39 u40 u41 u42 u43 u44 u45 u46 u47 u48 u49 u50 u51 u52 u53 u54 u55 u56 u57 u58 u59 u60 u61 u62 u63 u64 u65 u66 u67 u68 u69 u70 u71 u72 u73 u74 u75 u76 u77 u78 u79 u80 u81 u82 u83 u84 u85 u86 u87 u88 u89 u90 u91 u92 u93 u94 u95 u96 u97 u98 u99 u100 u101 u102 : Value), J' 1 { tmps := #[v5, .string r, .int .i64 (no : Int), u3, u4, u5, u6, .pointer (some ⟨R, 0, none⟩), .int .i64 (code : Int), .int .i64 ((at_ : Int) + (m : Int)), .pointer (some ⟨T, 0, none⟩), .string b, u12, u13, u14, u15, u16, u17, u18, u19, u20, u21, u22, u23, u24, u25, u26, u27, u28, u29, u30, u31, u32, u33, u34, u35, u36, u37, u38, u39, u40, u41, u42, u43, u44, u45, u46, u47, u48, u49, u50, u51, u52, u53, u54, u55, u56, u57, u58, u59, u60, u61, u62, u63, u64, u65, u66, u67, u68, u69, u70, u71, u72, u73, u74, u75, u76, u77, u78, u79, u80, u81, u82, u83, u84, u85, u86, u87, u88, u89, u90, u91, u92, u93, u94, u95, u96, u97, u98, u99, u100, u101, u102], defers := [] } w5) :
    ∃ d, behind (scopeOf Tryz.f84) 8 = some d ∧ d.wp Tryz.prog (jumpsTo J' (Q)) { tmps := #[v, .string r, .int .i64 (no : Int), u3, u4, u5, u6, .pointer (some ⟨R, 0, none⟩), .int .i64 (code : Int), .int .i64 (at_ : Int), .pointer (some ⟨T, 0, none⟩), .string b, u12, u13, u14, u15, u16, u17, u18, u19, u20, u21, u22, u23, u24, u25, u26, u27, u28, u29, u30, u31, u32, u33, u34, u35, u36, u37, u38, u39, u40, u41, u42, u43, u44, u45, u46, u47, u48, u49, u50, u51, u52, u53, u54, u55, u56, u57, u58, u59, u60, u61, u62, u63, u64, u65, u66, u67, u68, u69, u70, u71, u72, u73, u74, u75, u76, u77, u78, u79, u80, u81, u82, u83, u84, u85, u86, u87, u88, u89, u90, u91, u92, u93, u94, u95, u96, u97, u98, u99, u100, u101, u102], defers := [] } w' := by
  refine ⟨_, rfl, ?_⟩
  obtain ⟨c0, c1, c2, c3, c4⟩ := blk5 hT
  have hJ' : Hid _ := hJ
  have HR : Hid (RowT w' B v l) := hrow
  have HT' : Hid (w'.heap[T]? = some (.cells #[.int .i64 (k : Int), .string t, .int .u32 (x : Int), .int .i64 (no : Int), .int .i64 (c : Int)] 84)) := hT
  have HV : Hid (some T ≠ v.ownBlock) := hvT
  have HBB : Hid (B ≤ w'.heap.size) := hB
  have HLL : Hid (l.length ≤ 1000000) := hll
  clear hJ hrow hT hvT hB hll
  go_wp2_with (at_builtin; refine wpList_appendT2 rfl (.tmp 78) (.tmp 80) rfl B _ l rfl (HR.out.alloc _) B _ [⟨k, t, x, no, c⟩] rfl (RowT.one2 w' B k x no c t (by simp) rfl rfl rfl rfl HBB.out) (by have := HBB.out; simp; omega) (by have := HLL.out; simp; omega) ?_; intro v5 w5 hrow5 hgr5 hob5; have T5 := blk_grown (blk_alloc HT'.out _) hgr5 HV.out; obtain ⟨d0, d1, d2, d3, d4⟩ := blk5 T5; clear T5)
  go_step3
  exact hJ'.out v5 w5 hrow5 hgr5 hob5 ..
set_option maxRecDepth 20000 in
set_option maxHeartbeats 4000000 in
theorem pass2 (r b : ByteArray) (no R T n at_ code : Nat) (v : Value) (w' : World) (J' : Nat → Act → World → Prop) (Φ : Ending → World → Prop) (u3 u4 u5 u6 u12 u13 u14 u15 u16 u17 u18 u19 u20 u21 u22 u23 u24 u25 u26 u27 u28 u29 u30 u31 u32 u33 u34 u35 u36 u37 u38 u39 u40 u41 u42 u43 u44 u45 u46 u47 u48 u49 u50 u51 u52 u53 u54 u55 u56 u57 u58 u59 u60 u61 u62 u63 u64 u65 u66 u67 u68 u69 u70 u71 u72 u73 u74 u75 u76 u77 u78 u79 u80 u81 u82 u83 u84 u85 u86 u87 u88 u89 u90 u91 u92 u93 u94 u95 u96 u97 u98 u99 u100 u101 u102 : Value)
    (c : Nat) (tx t : ByteArray) (hn : (n : Int) ≤ 200) (hat : (at_ : Int) ≤ (n : Int)) (hsl : ∀ W, (Instr.slice 9 (.string r) (some (.int .i64 (at_ : Int))) none none).run Tryz.prog W = .ok (.string tx) W) (B : Nat) (l : List Tk) (hrow : RowT w' B v l) (hB : B ≤ w'.heap.size) (hll : l.length ≤ 1000000) (hvT : some T ≠ v.ownBlock) (hvR : some R ≠ v.ownBlock) (hT : w'.heap[T]? = some (.cells #[.int .i64 0, .string t, .int .u32 0, .int .i64 (no : Int), .int .i64 (c : Int)] 84)) (hR : w'.heap[R]? = some (.cells #[.int .i64 0, .int .i64 0, .int .i64 0] 76)) (hne : ¬ R = T) (hne' : ¬ T = R) (hΦ : ∀ v5 w5 w6, RowT w5 B v5 (l ++ [⟨4, tx, 0, no, c⟩]) → ((((w'.setCell ⟨T, 0, none⟩ (.int .i64 4)).setCell ⟨T, 1, none⟩ (.string tx)).alloc (.cells #[.int .i64 4, .string tx, .int .u32 0, .int .i64 (no : Int), .int .i64 (c : Int)] 84)).drew).grownBy w5 v.ownBlock → (v5.ownBlock = v.ownBlock ∨ v5.ownBlock = some (((w'.setCell ⟨T, 0, none⟩ (.int .i64 4)).setCell ⟨T, 1, none⟩ (.string tx)).alloc (.cells #[.int .i64 4, .string tx, .int .u32 0, .int .i64 (no : Int), .int .i64 (c : Int)] 84)).heap.size) → Only R w5 w6 → Φ (.returned (.tuple #[v5, .agg #[.int .i64 0, .int .i64 0, .int .i64 0]])) w6) :
    ∃ d, behind (scopeOf Tryz.f84) 2 = some d ∧ d.wp Tryz.prog (jumpsTo J' (bodyPost Tryz.prog Tryz.f84 Φ)) { tmps := #[v, .string r, .int .i64 (no : Int), u3, u4, u5, u6, .pointer (some ⟨R, 0, none⟩), .int .i64 (code : Int), .int .i64 (at_ : Int), .pointer (some ⟨T, 0, none⟩), .string b, u12, u13, u14, u15, u16, u17, u18, u19, u20, u21, u22, u23, u24, u25, u26, u27, u28, u29, u30, u31, u32, u33, u34, u35, u36, u37, u38, u39, u40, u41, u42, u43, u44, u45, u46, u47, u48, u49, u50, u51, u52, u53, u54, u55, u56, u57, u58, u59, u60, u61, u62, u63, u64, u65, u66, u67, u68, u69, u70, u71, u72, u73, u74, u75, u76, u77, u78, u79, u80, u81, u82, u83, u84, u85, u86, u87, u88, u89, u90, u91, u92, u93, u94, u95, u96, u97, u98, u99, u100, u101, u102], defers := [] } w' := by
  refine ⟨_, rfl, ?_⟩
  obtain ⟨c0, c1, c2, c3, c4⟩ := blk5 hT
  have z0 := blk_free hT 0
  have z1 := blk_free hT 1
  have hΦ' : Hid (∀ v5 w5 w6, RowT w5 B v5 (l ++ [⟨4, tx, 0, no, c⟩]) → ((((w'.setCell ⟨T, 0, none⟩ (.int .i64 4)).setCell ⟨T, 1, none⟩ (.string tx)).alloc (.cells #[.int .i64 4, .string tx, .int .u32 0, .int .i64 (no : Int), .int .i64 (c : Int)] 84)).drew).grownBy w5 v.ownBlock → (v5.ownBlock = v.ownBlock ∨ v5.ownBlock = some (((w'.setCell ⟨T, 0, none⟩ (.int .i64 4)).setCell ⟨T, 1, none⟩ (.string tx)).alloc (.cells #[.int .i64 4, .string tx, .int .u32 0, .int .i64 (no : Int), .int .i64 (c : Int)] 84)).heap.size) → Only R w5 w6 → Φ (.returned (.tuple #[v5, .agg #[.int .i64 0, .int .i64 0, .int .i64 0]])) w6) := hΦ
  have HR' : Hid (w'.heap[R]? = some (.cells #[.int .i64 0, .int .i64 0, .int .i64 0] 76)) := hR
  have HT' : Hid _ := hT
  have HRow : Hid (RowT ((w'.setCell ⟨T, 0, none⟩ (.int .i64 4)).setCell ⟨T, 1, none⟩ (.string tx)) B v l) := (hrow.put hvT _).put hvT _
  have HVT : Hid (some T ≠ v.ownBlock) := hvT
  have HVR : Hid (some R ≠ v.ownBlock) := hvR
  have HBB : Hid (B ≤ ((w'.setCell ⟨T, 0, none⟩ (.int .i64 4)).setCell ⟨T, 1, none⟩ (.string tx)).heap.size) := by show _ ≤ _; simpa using hB
  have HLL : Hid (l.length ≤ 1000000) := hll
  have HR4 : Hid (((w'.setCell ⟨T, 0, none⟩ (.int .i64 4)).setCell ⟨T, 1, none⟩ (.string tx)).heap[R]? = some (.cells #[.int .i64 0, .int .i64 0, .int .i64 0] 76)) := blk_far (blk_far hR hne _) hne _
  clear hΦ hrow hT hvT hvR hB hll hR
  go_wp2
  go_region
  all_goals
    go_wp2_with (first | (at_builtin; refine wpList_appendT2 rfl (.tmp 92) (.tmp 94) rfl B _ l rfl (RowT.drew (HRow.out.alloc _)) B _ [⟨4, tx, 0, no, c⟩] rfl (RowT.drew (RowT.one2 _ B 4 0 no c tx (by simp) rfl rfl rfl rfl HBB.out)) (by have := HBB.out; simp at this; simp; omega) (by have := HLL.out; simp; omega) ?_; intro v5 w5 hrow5 hgr5 hob5; have R5 : Hid (w5.heap[R]? = some (.cells #[.int .i64 0, .int .i64 0, .int .i64 0] 76)) := blk_grown (blk_drew (blk_alloc HR4.out _)) hgr5 HVR.out) | (refine wpList_store_blk rfl 76 (.tmp 7) (.tmp 96) rfl R 0 #[.int .i64 0, .int .i64 0, .int .i64 0] #[.int .i64 0, .int .i64 0, .int .i64 0] rfl rfl 76 _ R5.out (Nat.le_of_ble_eq_true rfl) rfl (by kernel_rfl) rfl ?_; intro w6 hw6 ho6))
    simp only [jumpsTo]
    exact bodyPost_ret (results_blk3 Tryz.results84 rfl hw6 Tryz.underlying76 rfl (by kernel_rfl)) rfl (hΦ'.out v5 w5 w6 hrow5 hgr5 hob5 ho6)
set_option maxRecDepth 20000 in
set_option maxHeartbeats 4000000 in
theorem frontx (r b : ByteArray) (no R n : Nat) (v : Value) (w' : World) (J' : Nat → Act → World → Prop) (Q : Exit → Act → World → Prop) (u3 u4 u5 u6 u8 u9 u10 u11 u12 u13 u14 u15 u16 u17 u18 u19 u20 u21 u22 u23 u24 u25 u26 u27 u28 u29 u30 u31 u32 u33 u34 u35 u36 u37 u38 u39 u40 u41 u42 u43 u44 u45 u46 u47 u48 u49 u50 u51 u52 u53 u54 u55 u56 u57 u58 u59 u60 u61 u62 u63 u64 u65 u66 u67 u68 u69 u70 u71 u72 u73 u74 u75 u76 u77 u78 u79 u80 u81 u82 u83 u84 u85 u86 u87 u88 u89 u90 u91 u92 u93 u94 u95 u96 u97 u98 u99 u100 u101 u102 : Value) (hT : ∀ W, Calls Tryz.prog 92 #[.string r, .string ⟨#[10]⟩] W fun e w1 => e = .returned (.string b) ∧ w1 = W) (hlb : ∀ W, (Builtin.len_ #[9] 3 #[.string b]).run Tryz.prog W = .ok (.int .i64 (n : Int)) W) (hn : (200 : Int) < (n : Int)) (hJ : ∀ (u3 u4 u5 u6 u12 u13 u14 u15 u16 u17 u18 u19 u20 u21 u22 u23 u24 u25 u26 u27 u28 u29 u30 u31 u32 u33 u34 u35 u36 u37 u38 u39 u40 u41 u42 u43 u44 u45 u46 u47 u48 u49 u50 u51 u52 u53 u54 u55 u56 u57 u58 u59 u60 u61 u62 u63 u64 u65 u66 u67 u68 u69 u70 u71 u72 u73 u74 u75 u76 u77 u78 u79 u80 u81 u82 u83 u84 u85 u86 u87 u88 u89 u90 u91 u92 u93 u94 u95 u96 u97 u98 u99 u100 u101 u102 : Value), J' 0 { tmps := #[v, .string r, .int .i64 (no : Int), u3, u4, u5, u6, .pointer (some ⟨R, 0, none⟩), .int .i64 (93), .int .i64 0, .pointer (some ⟨w'.heap.size, 0, none⟩), .string b, u12, u13, u14, u15, u16, u17, u18, u19, u20, u21, u22, u23, u24, u25, u26, u27, u28, u29, u30, u31, u32, u33, u34, u35, u36, u37, u38, u39, u40, u41, u42, u43, u44, u45, u46, u47, u48, u49, u50, u51, u52, u53, u54, u55, u56, u57, u58, u59, u60, u61, u62, u63, u64, u65, u66, u67, u68, u69, u70, u71, u72, u73, u74, u75, u76, u77, u78, u79, u80, u81, u82, u83, u84, u85, u86, u87, u88, u89, u90, u91, u92, u93, u94, u95, u96, u97, u98, u99, u100, u101, u102], defers := [] } (w'.alloc (.cells #[.int .i64 0, .string ⟨#[]⟩, .int .u32 0, .int .i64 (no : Int), .int .i64 1] 84))) :
    (scopeOf Tryz.f84).wp Tryz.prog (jumpsTo J' Q) { tmps := #[v, .string r, .int .i64 (no : Int), u3, u4, u5, u6, .pointer (some ⟨R, 0, none⟩), u8, u9, u10, u11, u12, u13, u14, u15, u16, u17, u18, u19, u20, u21, u22, u23, u24, u25, u26, u27, u28, u29, u30, u31, u32, u33, u34, u35, u36, u37, u38, u39, u40, u41, u42, u43, u44, u45, u46, u47, u48, u49, u50, u51, u52, u53, u54, u55, u56, u57, u58, u59, u60, u61, u62, u63, u64, u65, u66, u67, u68, u69, u70, u71, u72, u73, u74, u75, u76, u77, u78, u79, u80, u81, u82, u83, u84, u85, u86, u87, u88, u89, u90, u91, u92, u93, u94, u95, u96, u97, u98, u99, u100, u101, u102], defers := [] } w' := by
  unfold scopeOf
  simp only [Tryz.f84, Option.bind, inScope, Option.getD]
  go_wp2_with (go_at_call 92; refine (hT _).mono ?_; rintro e w2 ⟨rfl, hw2⟩; obtain rfl := hw2.symm; clear hw2)
  go_step3
  exact hJ ..
set_option maxRecDepth 20000 in
set_option maxHeartbeats 4000000 in
theorem front (r b : ByteArray) (no R n : Nat) (v : Value) (w' : World) (J' : Nat → Act → World → Prop) (Q : Exit → Act → World → Prop) (u3 u4 u5 u6 u8 u9 u10 u11 u12 u13 u14 u15 u16 u17 u18 u19 u20 u21 u22 u23 u24 u25 u26 u27 u28 u29 u30 u31 u32 u33 u34 u35 u36 u37 u38 u39 u40 u41 u42 u43 u44 u45 u46 u47 u48 u49 u50 u51 u52 u53 u54 u55 u56 u57 u58 u59 u60 u61 u62 u63 u64 u65 u66 u67 u68 u69 u70 u71 u72 u73 u74 u75 u76 u77 u78 u79 u80 u81 u82 u83 u84 u85 u86 u87 u88 u89 u90 u91 u92 u93 u94 u95 u96 u97 u98 u99 u100 u101 u102 : Value) (hT : ∀ W, Calls Tryz.prog 92 #[.string r, .string ⟨#[10]⟩] W fun e w1 => e = .returned (.string b) ∧ w1 = W) (hlb : ∀ W, (Builtin.len_ #[9] 3 #[.string b]).run Tryz.prog W = .ok (.int .i64 (n : Int)) W) (hn : ¬ (200 : Int) < (n : Int)) (hd : ∀ (u3 u4 u5 u6 u12 u13 u14 u15 u16 u17 u18 u19 u20 u21 u22 u23 u24 u25 u26 u27 u28 u29 u30 u31 u32 u33 u34 u35 u36 u37 u38 u39 u40 u41 u42 u43 u44 u45 u46 u47 u48 u49 u50 u51 u52 u53 u54 u55 u56 u57 u58 u59 u60 u61 u62 u63 u64 u65 u66 u67 u68 u69 u70 u71 u72 u73 u74 u75 u76 u77 u78 u79 u80 u81 u82 u83 u84 u85 u86 u87 u88 u89 u90 u91 u92 u93 u94 u95 u96 u97 u98 u99 u100 u101 u102 : Value), ∃ d, behind (scopeOf Tryz.f84) 1 = some d ∧ d.wp Tryz.prog (jumpsTo J' Q) { tmps := #[v, .string r, .int .i64 (no : Int), u3, u4, u5, u6, .pointer (some ⟨R, 0, none⟩), .int .i64 (0), .int .i64 0, .pointer (some ⟨w'.heap.size, 0, none⟩), .string b, u12, u13, u14, u15, u16, u17, u18, u19, u20, u21, u22, u23, u24, u25, u26, u27, u28, u29, u30, u31, u32, u33, u34, u35, u36, u37, u38, u39, u40, u41, u42, u43, u44, u45, u46, u47, u48, u49, u50, u51, u52, u53, u54, u55, u56, u57, u58, u59, u60, u61, u62, u63, u64, u65, u66, u67, u68, u69, u70, u71, u72, u73, u74, u75, u76, u77, u78, u79, u80, u81, u82, u83, u84, u85, u86, u87, u88, u89, u90, u91, u92, u93, u94, u95, u96, u97, u98, u99, u100, u101, u102], defers := [] } (w'.alloc (.cells #[.int .i64 0, .string ⟨#[]⟩, .int .u32 0, .int .i64 (no : Int), .int .i64 1] 84))) :
    (scopeOf Tryz.f84).wp Tryz.prog (jumpsTo J' Q) { tmps := #[v, .string r, .int .i64 (no : Int), u3, u4, u5, u6, .pointer (some ⟨R, 0, none⟩), u8, u9, u10, u11, u12, u13, u14, u15, u16, u17, u18, u19, u20, u21, u22, u23, u24, u25, u26, u27, u28, u29, u30, u31, u32, u33, u34, u35, u36, u37, u38, u39, u40, u41, u42, u43, u44, u45, u46, u47, u48, u49, u50, u51, u52, u53, u54, u55, u56, u57, u58, u59, u60, u61, u62, u63, u64, u65, u66, u67, u68, u69, u70, u71, u72, u73, u74, u75, u76, u77, u78, u79, u80, u81, u82, u83, u84, u85, u86, u87, u88, u89, u90, u91, u92, u93, u94, u95, u96, u97, u98, u99, u100, u101, u102], defers := [] } w' := by
  unfold scopeOf
  simp only [Tryz.f84, Option.bind, inScope, Option.getD]
  have hd' : Hid _ := hd
  clear hd
  go_wp2_with (go_at_call 92; refine (hT _).mono ?_; rintro e w2 ⟨rfl, hw2⟩; obtain rfl := hw2.symm; clear hw2)
  go_step3
  obtain ⟨d, hf, hp⟩ := hd'.out _ _ _ _ _ _ _ _ _ _ _ _ _ _ _ _ _ _ _ _ _ _ _ _ _ _ _ _ _ _ _ _ _ _ _ _ _ _ _ _ _ _ _ _ _ _ _ _ _ _ _ _ _ _ _ _ _ _ _ _ _ _ _ _ _ _ _ _ _ _ _ _ _ _ _ _ _ _ _ _ _ _ _ _ _ _ _ _ _ _ _ _ _ _ _
  cases hf
  rename_i hK
  exact hK _ _ hp
end Go.Proofs.YtehedlgdencboabGreatDoor
