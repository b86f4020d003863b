/-
  The landed lex.scanLine, put together out of its labels. Written by tools/mkLxCs.py.
-/
import Derived.Test.YtehedlgdencboabGreatDoorLxCq
namespace Go.Proofs.YtehedlgdencboabGreatDoor
open Go.RowKit
set_option linter.unusedVariables false
set_option linter.unusedSimpArgs false

def FrL (r b : ByteArray) (no R T : Nat) (v : Value) (x8 x9 : Int) (a : Act) : Prop := ∃ U : Nat → Value, a = { tmps := #[v, .string r, .int .i64 (no : Int), U 3, U 4, U 5, U 6, .pointer (some ⟨R, 0, none⟩), .int .i64 x8, .int .i64 x9, .pointer (some ⟨T, 0, none⟩), .string b, U 12, U 13, U 14, U 15, U 16, U 17, U 18, U 19, U 20, U 21, U 22, U 23, U 24, U 25, U 26, U 27, U 28, U 29, U 30, U 31, U 32, U 33, U 34, U 35, U 36, U 37, U 38, U 39, U 40, U 41, U 42, U 43, U 44, U 45, U 46, U 47, U 48, U 49, U 50, U 51, U 52, U 53, U 54, U 55, U 56, U 57, U 58, U 59, U 60, U 61, U 62, U 63, U 64, U 65, U 66, U 67, U 68, U 69, U 70, U 71, U 72, U 73, U 74, U 75, U 76, U 77, U 78, U 79, U 80, U 81, U 82, U 83, U 84, U 85, U 86, U 87, U 88, U 89, U 90, U 91, U 92, U 93, U 94, U 95, U 96, U 97, U 98, U 99, U 100, U 101, U 102], defers := [] }
theorem frL_mk {r b : ByteArray} {no R T : Nat} {v : Value} {x8 x9 : Int} {u3 u4 u5 u6 u12 u13 u14 u15 u16 u17 u18 u19 u20 u21 u22 u23 u24 u25 u26 u27 u28 u29 u30 u31 u32 u33 u34 u35 u36 u37 u38 u39 u40 u41 u42 u43 u44 u45 u46 u47 u48 u49 u50 u51 u52 u53 u54 u55 u56 u57 u58 u59 u60 u61 u62 u63 u64 u65 u66 u67 u68 u69 u70 u71 u72 u73 u74 u75 u76 u77 u78 u79 u80 u81 u82 u83 u84 u85 u86 u87 u88 u89 u90 u91 u92 u93 u94 u95 u96 u97 u98 u99 u100 u101 u102 : Value} : FrL r b no R T v x8 x9 { tmps := #[v, .string r, .int .i64 (no : Int), u3, u4, u5, u6, .pointer (some ⟨R, 0, none⟩), .int .i64 x8, .int .i64 x9, .pointer (some ⟨T, 0, none⟩), .string b, u12, u13, u14, u15, u16, u17, u18, u19, u20, u21, u22, u23, u24, u25, u26, u27, u28, u29, u30, u31, u32, u33, u34, u35, u36, u37, u38, u39, u40, u41, u42, u43, u44, u45, u46, u47, u48, u49, u50, u51, u52, u53, u54, u55, u56, u57, u58, u59, u60, u61, u62, u63, u64, u65, u66, u67, u68, u69, u70, u71, u72, u73, u74, u75, u76, u77, u78, u79, u80, u81, u82, u83, u84, u85, u86, u87, u88, u89, u90, u91, u92, u93, u94, u95, u96, u97, u98, u99, u100, u101, u102], defers := [] } := ⟨fun i => ([undef, undef, undef, u3, u4, u5, u6, undef, undef, undef, undef, undef, u12, u13, u14, u15, u16, u17, u18, u19, u20, u21, u22, u23, u24, u25, u26, u27, u28, u29, u30, u31, u32, u33, u34, u35, u36, u37, u38, u39, u40, u41, u42, u43, u44, u45, u46, u47, u48, u49, u50, u51, u52, u53, u54, u55, u56, u57, u58, u59, u60, u61, u62, u63, u64, u65, u66, u67, u68, u69, u70, u71, u72, u73, u74, u75, u76, u77, u78, u79, u80, u81, u82, u83, u84, u85, u86, u87, u88, u89, u90, u91, u92, u93, u94, u95, u96, u97, u98, u99, u100, u101, u102] : List Value).getD i undef, rfl⟩
def MuL (n l : Nat) (a : Act) (_ : World) : Nat := 100 * (n - (intOf (a.tmps.getD 9 undef)).toNat) + rk l
def JL (B : Nat) (w : World) (r b : ByteArray) (no : Nat) (l0 : List Tk) (l : Nat) (a : Act) (w' : World) : Prop :=
  ∃ (v : Value) (at_ code : Nat) (pre : List Tk) (K X C : Int) (t : ByteArray), FrL r b no w.heap.size (w.heap.size + 1) v (code : Int) (at_ : Int) a ∧ SL B w w' v (l0 ++ pre) K t X (no : Int) C ∧ Lab b no l at_ code pre K t X C
theorem mu_of {r b : ByteArray} {no R T n l : Nat} {v : Value} {x8 : Int} {at_ : Nat} {a : Act} {w' : World} (h : FrL r b no R T v x8 (at_ : Int) a) : MuL n l a w' = 100 * (n - at_) + rk l := by
  obtain ⟨U, rfl⟩ := h
  unfold MuL
  simp [intOf]
theorem mu_low {m l k : Nat} (h : rk l < rk k) : 100 * m + rk l < 100 * m + rk k := Nat.add_lt_add_left h _
theorem mu_next {n i j k : Nat} (h : i < j) (hj : j ≤ n) : 100 * (n - j) + rk 1 < 100 * (n - i) + rk k := by
  have : rk 1 = 9 := rfl
  omega
theorem jump_ok {B : Nat} {w : World} {r b : ByteArray} {no n : Nat} {l0 : List Tk} {a : Act} {w1 : World} {v : Value} {at_ code : Nat} {pre : List Tk} {K X C : Int} {t : ByteArray} {x8 x9 : Int} {l M : Nat} (hF : FrL r b no w.heap.size (w.heap.size + 1) v x8 x9 a) (h8 : x8 = (code : Int)) (h9 : x9 = (at_ : Int))
    (hS : SL B w w1 v (l0 ++ pre) K t X (no : Int) C) (hL : Lab b no l at_ code pre K t X C) (hM : 100 * (n - at_) + rk l < M) : JL B w r b no l0 l a w1 ∧ MuL n l a w1 < M := by
  subst h8 h9
  exact ⟨⟨v, at_, code, pre, K, X, C, t, hF, hS, hL⟩, by rw [mu_of hF]; exact hM⟩
theorem ent_of {B : Nat} {w : World} {r b : ByteArray} {no n : Nat} {l0 : List Tk} {Q : Exit → Act → World → Prop} {M l : Nat} {a : Act} {w1 : World} (enter : ∀ l' a' w1, JL B w r b no l0 l' a' w1 → MuL n l' a' w1 < M → ∃ d, behind (scopeOf Tryz.f84) l' = some d ∧ d.wp Tryz.prog (jumpsTo (fun l' a' w1 => JL B w r b no l0 l' a' w1 ∧ MuL n l' a' w1 < M) Q) a' w1) (h : JL B w r b no l0 l a w1 ∧ MuL n l a w1 < M) :
    ∃ d, behind (scopeOf Tryz.f84) l = some d ∧ d.wp Tryz.prog (jumpsTo (fun l' a' w1 => JL B w r b no l0 l' a' w1 ∧ MuL n l' a' w1 < M) Q) a w1 := enter l a w1 h.1 h.2
theorem SL.drew {B : Nat} {w0 w : World} {v : Value} {l : List Tk} {K : Int} {t : ByteArray} {X L C : Int} (h : SL B w0 w v l K t X L C) : SL B w0 w.drew v l K t X L C := ⟨h.bel.drew, RowT.drew h.row, h.nR, h.nT, h.hR, h.hT⟩
set_option maxRecDepth 20000 in
theorem lbl3 (B : Nat) (w : World) (r b : ByteArray) (no n : Nat) (l0 : List Tk) (Φ : Ending → World → Prop) (hn : n = b.size) (hB : B ≤ w.heap.size) (hl0 : l0.length ≤ 200000) (a : Act) (w' : World) (v : Value) (at_ code : Nat) (pre : List Tk) (K X C : Int) (t : ByteArray) (hF : FrL r b no w.heap.size (w.heap.size + 1) v (code : Int) (at_ : Int) a) (hS : SL B w w' v (l0 ++ pre) K t X (no : Int) C) (Q : Exit → Act → World → Prop) (hL : Lab b no 3 at_ code pre K t X C) :
    ∃ d, behind (scopeOf Tryz.f84) 3 = some d ∧ d.wp Tryz.prog (jumpsTo (fun l' a' w1 => JL B w r b no l0 l' a' w1 ∧ MuL n l' a' w1 < MuL n 3 a w') (Q)) a w' := by
  rw [mu_of hF]
  obtain ⟨U, rfl⟩ := hF
  obtain ⟨h200, hat, hA, hpl, hx⟩ := hL
  obtain ⟨hlt, hk⟩ := hx
  have e := lineT_skip (no := no) hlt (fun h => by rw [(kd2 _).2 h] at hk; cases hk) (by rw [step1 hk]) (by rw [step1 hk])
  rw [step1 hk] at e
  rw [e] at hA
  have hlt' : (at_ : Int) < (n : Int) := by omega
  exact pass3 r b no _ _ n at_ code v w' _ Q _ _ _ _ _ _ _ _ _ _ _ _ _ _ _ _ _ _ _ _ _ _ _ _ _ _ _ _ _ _ _ _ _ _ _ _ _ _ _ _ _ _ _ _ _ _ _ _ _ _ _ _ _ _ _ _ _ _ _ _ _ _ _ _ _ _ _ _ _ _ _ _ _ _ _ _ _ _ _ _ _ _ _ _ _ _ _ _ _ _ _ _ _ _ _ (by omega) hlt' (fun u3 u4 u5 u6 u12 u13 u14 u15 u16 u17 u18 u19 u20 u21 u22 u23 u24 u25 u26 u27 u28 u29 u30 u31 u32 u33 u34 u35 u36 u37 u38 u39 u40 u41 u42 u43 u44 u45 u46 u47 u48 u49 u50 u51 u52 u53 u54 u55 u56 u57 u58 u59 u60 u61 u62 u63 u64 u65 u66 u67 u68 u69 u70 u71 u72 u73 u74 u75 u76 u77 u78 u79 u80 u81 u82 u83 u84 u85 u86 u87 u88 u89 u90 u91 u92 u93 u94 u95 u96 u97 u98 u99 u100 u101 u102 => jump_ok (at_ := at_ + 1) (code := code) frL_mk rfl (by omega) hS (show Lab b no 1 (at_ + 1) code pre K t X C from ⟨h200, by omega, hA, by omega, trivial⟩) (mu_next (by omega) (by omega)))
set_option maxRecDepth 20000 in
theorem lbl4 (B : Nat) (w : World) (r b : ByteArray) (no n : Nat) (l0 : List Tk) (Φ : Ending → World → Prop) (hn : n = b.size) (hB : B ≤ w.heap.size) (hl0 : l0.length ≤ 200000) (a : Act) (w' : World) (v : Value) (at_ code : Nat) (pre : List Tk) (K X C : Int) (t : ByteArray) (hF : FrL r b no w.heap.size (w.heap.size + 1) v (code : Int) (at_ : Int) a) (hS : SL B w w' v (l0 ++ pre) K t X (no : Int) C) (Q : Exit → Act → World → Prop) (hL : Lab b no 4 at_ code pre K t X C) :
    ∃ d, behind (scopeOf Tryz.f84) 4 = some d ∧ d.wp Tryz.prog (jumpsTo (fun l' a' w1 => JL B w r b no l0 l' a' w1 ∧ MuL n l' a' w1 < MuL n 4 a w') (Q)) a w' := by
  rw [mu_of hF]
  obtain ⟨U, rfl⟩ := hF
  obtain ⟨h200, hat, hA, hpl, hx⟩ := hL
  obtain ⟨hlt, hk⟩ := hx
  have e1 := lineT_end (s := b) (no := no) (i := at_) (fun h => h.2 ((kd2 _).1 hk))
  have e2 := lineT_end (s := b) (no := no) (i := n) (fun h => by have := h.1; omega)
  rw [e1, ← e2] at hA
  exact pass4 r b no _ _ n at_ code v w' _ Q _ _ _ _ _ _ _ _ _ _ _ _ _ _ _ _ _ _ _ _ _ _ _ _ _ _ _ _ _ _ _ _ _ _ _ _ _ _ _ _ _ _ _ _ _ _ _ _ _ _ _ _ _ _ _ _ _ _ _ _ _ _ _ _ _ _ _ _ _ _ _ _ _ _ _ _ _ _ _ _ _ _ _ _ _ _ _ _ _ _ _ _ _ _ _ (lenS b n hn) (fun u3 u4 u5 u6 u12 u13 u14 u15 u16 u17 u18 u19 u20 u21 u22 u23 u24 u25 u26 u27 u28 u29 u30 u31 u32 u33 u34 u35 u36 u37 u38 u39 u40 u41 u42 u43 u44 u45 u46 u47 u48 u49 u50 u51 u52 u53 u54 u55 u56 u57 u58 u59 u60 u61 u62 u63 u64 u65 u66 u67 u68 u69 u70 u71 u72 u73 u74 u75 u76 u77 u78 u79 u80 u81 u82 u83 u84 u85 u86 u87 u88 u89 u90 u91 u92 u93 u94 u95 u96 u97 u98 u99 u100 u101 u102 => jump_ok (at_ := n) (code := code) frL_mk rfl rfl hS (show Lab b no 1 n code pre K t X C from ⟨h200, by omega, hA, by omega, trivial⟩) (mu_next (by omega) (by omega)))
set_option maxRecDepth 20000 in
theorem lbl1 (B : Nat) (w : World) (r b : ByteArray) (no n : Nat) (l0 : List Tk) (Φ : Ending → World → Prop) (hn : n = b.size) (hB : B ≤ w.heap.size) (hl0 : l0.length ≤ 200000) (a : Act) (w' : World) (v : Value) (at_ code : Nat) (pre : List Tk) (K X C : Int) (t : ByteArray) (hF : FrL r b no w.heap.size (w.heap.size + 1) v (code : Int) (at_ : Int) a) (hS : SL B w w' v (l0 ++ pre) K t X (no : Int) C) (Q : Exit → Act → World → Prop) (hL : Lab b no 1 at_ code pre K t X C) :
    ∃ d, behind (scopeOf Tryz.f84) 1 = some d ∧ d.wp Tryz.prog (jumpsTo (fun l' a' w1 => JL B w r b no l0 l' a' w1 ∧ MuL n l' a' w1 < MuL n 1 a w') (Q)) a w' := by
  rw [mu_of hF]
  obtain ⟨U, rfl⟩ := hF
  obtain ⟨h200, hat, hA, hpl, hx⟩ := hL
  by_cases he : at_ = b.size
  · exact pass1e r b no _ _ n at_ code v w' _ Q _ _ _ _ _ _ _ _ _ _ _ _ _ _ _ _ _ _ _ _ _ _ _ _ _ _ _ _ _ _ _ _ _ _ _ _ _ _ _ _ _ _ _ _ _ _ _ _ _ _ _ _ _ _ _ _ _ _ _ _ _ _ _ _ _ _ _ _ _ _ _ _ _ _ _ _ _ _ _ _ _ _ _ _ _ _ _ _ _ _ _ _ _ _ _ K X C t (by omega) (by omega) hS.hT (lenS b n hn) (fun w1 hT1 ho1 u3 u4 u5 u6 u12 u13 u14 u15 u16 u17 u18 u19 u20 u21 u22 u23 u24 u25 u26 u27 u28 u29 u30 u31 u32 u33 u34 u35 u36 u37 u38 u39 u40 u41 u42 u43 u44 u45 u46 u47 u48 u49 u50 u51 u52 u53 u54 u55 u56 u57 u58 u59 u60 u61 u62 u63 u64 u65 u66 u67 u68 u69 u70 u71 u72 u73 u74 u75 u76 u77 u78 u79 u80 u81 u82 u83 u84 u85 u86 u87 u88 u89 u90 u91 u92 u93 u94 u95 u96 u97 u98 u99 u100 u101 u102 => jump_ok (at_ := at_) (code := code) frL_mk rfl rfl (hS.all hB ho1 hT1) (show Lab b no 2 at_ code pre 0 ⟨#[]⟩ 0 ((at_ : Int) + 1) from ⟨h200, hat, hA, hpl, he, rfl, rfl, rfl, rfl⟩) (mu_low (by decide)))
  · have hlt : at_ < b.size := by omega
    have hk5 := kd_le (bt b at_)
    have hk : kd (bt b at_) = 0 ∨ kd (bt b at_) = 1 ∨ kd (bt b at_) = 2 ∨ kd (bt b at_) = 3 ∨ kd (bt b at_) = 4 ∨ kd (bt b at_) = 5 := by omega
    rcases hk with hk | hk | hk | hk | hk | hk
    · have e := lineT_bad (no := no) hlt (fun h => by rw [(kd2 _).2 h] at hk; cases hk) (by rw [step0 (Or.inl hk)]; simp)
      rw [step0 (Or.inl hk)] at e
      rw [e, List.append_nil] at hA
      exact pass1_0 r b no _ _ n at_ code v w' _ Q _ _ _ _ _ _ _ _ _ _ _ _ _ _ _ _ _ _ _ _ _ _ _ _ _ _ _ _ _ _ _ _ _ _ _ _ _ _ _ _ _ _ _ _ _ _ _ _ _ _ _ _ _ _ _ _ _ _ _ _ _ _ _ _ _ _ _ _ _ _ _ _ _ _ _ _ _ _ _ _ _ _ _ _ _ _ _ _ _ _ _ _ _ _ _ K X C t (by omega) (by omega) hlt hk hS.hT (lenS b n hn) (fun w1 hT1 ho1 u3 u4 u5 u6 u12 u13 u14 u15 u16 u17 u18 u19 u20 u21 u22 u23 u24 u25 u26 u27 u28 u29 u30 u31 u32 u33 u34 u35 u36 u37 u38 u39 u40 u41 u42 u43 u44 u45 u46 u47 u48 u49 u50 u51 u52 u53 u54 u55 u56 u57 u58 u59 u60 u61 u62 u63 u64 u65 u66 u67 u68 u69 u70 u71 u72 u73 u74 u75 u76 u77 u78 u79 u80 u81 u82 u83 u84 u85 u86 u87 u88 u89 u90 u91 u92 u93 u94 u95 u96 u97 u98 u99 u100 u101 u102 => jump_ok (at_ := at_) (code := 90) frL_mk rfl rfl (hS.all hB ho1 hT1) (show Lab b no 0 at_ 90 pre 0 ⟨#[]⟩ 0 ((at_ : Int) + 1) from ⟨by decide, at_ + 1, by omega, hA⟩) (mu_low (by decide)))
    · exact pass1_1 r b no _ _ n at_ code v w' _ Q _ _ _ _ _ _ _ _ _ _ _ _ _ _ _ _ _ _ _ _ _ _ _ _ _ _ _ _ _ _ _ _ _ _ _ _ _ _ _ _ _ _ _ _ _ _ _ _ _ _ _ _ _ _ _ _ _ _ _ _ _ _ _ _ _ _ _ _ _ _ _ _ _ _ _ _ _ _ _ _ _ _ _ _ _ _ _ _ _ _ _ _ _ _ _ K X C t (by omega) (by omega) hlt hk hS.hT (lenS b n hn) (fun w1 hT1 ho1 u3 u4 u5 u6 u12 u13 u14 u15 u16 u17 u18 u19 u20 u21 u22 u23 u24 u25 u26 u27 u28 u29 u30 u31 u32 u33 u34 u35 u36 u37 u38 u39 u40 u41 u42 u43 u44 u45 u46 u47 u48 u49 u50 u51 u52 u53 u54 u55 u56 u57 u58 u59 u60 u61 u62 u63 u64 u65 u66 u67 u68 u69 u70 u71 u72 u73 u74 u75 u76 u77 u78 u79 u80 u81 u82 u83 u84 u85 u86 u87 u88 u89 u90 u91 u92 u93 u94 u95 u96 u97 u98 u99 u100 u101 u102 => jump_ok (at_ := at_) (code := code) frL_mk rfl rfl (hS.all hB ho1 hT1) (show Lab b no 3 at_ code pre 0 ⟨#[]⟩ 0 ((at_ : Int) + 1) from ⟨h200, hat, hA, hpl, hlt, hk⟩) (mu_low (by decide)))
    · exact pass1_2 r b no _ _ n at_ code v w' _ Q _ _ _ _ _ _ _ _ _ _ _ _ _ _ _ _ _ _ _ _ _ _ _ _ _ _ _ _ _ _ _ _ _ _ _ _ _ _ _ _ _ _ _ _ _ _ _ _ _ _ _ _ _ _ _ _ _ _ _ _ _ _ _ _ _ _ _ _ _ _ _ _ _ _ _ _ _ _ _ _ _ _ _ _ _ _ _ _ _ _ _ _ _ _ _ K X C t (by omega) (by omega) hlt hk hS.hT (lenS b n hn) (fun w1 hT1 ho1 u3 u4 u5 u6 u12 u13 u14 u15 u16 u17 u18 u19 u20 u21 u22 u23 u24 u25 u26 u27 u28 u29 u30 u31 u32 u33 u34 u35 u36 u37 u38 u39 u40 u41 u42 u43 u44 u45 u46 u47 u48 u49 u50 u51 u52 u53 u54 u55 u56 u57 u58 u59 u60 u61 u62 u63 u64 u65 u66 u67 u68 u69 u70 u71 u72 u73 u74 u75 u76 u77 u78 u79 u80 u81 u82 u83 u84 u85 u86 u87 u88 u89 u90 u91 u92 u93 u94 u95 u96 u97 u98 u99 u100 u101 u102 => jump_ok (at_ := at_) (code := code) frL_mk rfl rfl (hS.all hB ho1 hT1) (show Lab b no 4 at_ code pre 0 ⟨#[]⟩ 0 ((at_ : Int) + 1) from ⟨h200, hat, hA, hpl, hlt, hk⟩) (mu_low (by decide)))
    · exact pass1_3 r b no _ _ n at_ code v w' _ Q _ _ _ _ _ _ _ _ _ _ _ _ _ _ _ _ _ _ _ _ _ _ _ _ _ _ _ _ _ _ _ _ _ _ _ _ _ _ _ _ _ _ _ _ _ _ _ _ _ _ _ _ _ _ _ _ _ _ _ _ _ _ _ _ _ _ _ _ _ _ _ _ _ _ _ _ _ _ _ _ _ _ _ _ _ _ _ _ _ _ _ _ _ _ _ K X C t (by omega) (by omega) hlt hk hS.hT (lenS b n hn) (fun w1 hT1 ho1 u3 u4 u5 u6 u12 u13 u14 u15 u16 u17 u18 u19 u20 u21 u22 u23 u24 u25 u26 u27 u28 u29 u30 u31 u32 u33 u34 u35 u36 u37 u38 u39 u40 u41 u42 u43 u44 u45 u46 u47 u48 u49 u50 u51 u52 u53 u54 u55 u56 u57 u58 u59 u60 u61 u62 u63 u64 u65 u66 u67 u68 u69 u70 u71 u72 u73 u74 u75 u76 u77 u78 u79 u80 u81 u82 u83 u84 u85 u86 u87 u88 u89 u90 u91 u92 u93 u94 u95 u96 u97 u98 u99 u100 u101 u102 => jump_ok (at_ := at_) (code := code) frL_mk rfl rfl (hS.all hB ho1 hT1) (show Lab b no 5 at_ code pre 0 ⟨#[]⟩ 0 ((at_ : Int) + 1) from ⟨h200, hat, hA, hpl, hlt, hk, rfl, rfl, rfl, rfl⟩) (mu_low (by decide)))
    · exact pass1_4 r b no _ _ n at_ code v w' _ Q _ _ _ _ _ _ _ _ _ _ _ _ _ _ _ _ _ _ _ _ _ _ _ _ _ _ _ _ _ _ _ _ _ _ _ _ _ _ _ _ _ _ _ _ _ _ _ _ _ _ _ _ _ _ _ _ _ _ _ _ _ _ _ _ _ _ _ _ _ _ _ _ _ _ _ _ _ _ _ _ _ _ _ _ _ _ _ _ _ _ _ _ _ _ _ K X C t (by omega) (by omega) hlt hk hS.hT (lenS b n hn) (fun w1 hT1 ho1 u3 u4 u5 u6 u12 u13 u14 u15 u16 u17 u18 u19 u20 u21 u22 u23 u24 u25 u26 u27 u28 u29 u30 u31 u32 u33 u34 u35 u36 u37 u38 u39 u40 u41 u42 u43 u44 u45 u46 u47 u48 u49 u50 u51 u52 u53 u54 u55 u56 u57 u58 u59 u60 u61 u62 u63 u64 u65 u66 u67 u68 u69 u70 u71 u72 u73 u74 u75 u76 u77 u78 u79 u80 u81 u82 u83 u84 u85 u86 u87 u88 u89 u90 u91 u92 u93 u94 u95 u96 u97 u98 u99 u100 u101 u102 => jump_ok (at_ := at_) (code := code) frL_mk rfl rfl (hS.all hB ho1 hT1) (show Lab b no 6 at_ code pre 0 ⟨#[]⟩ 0 ((at_ : Int) + 1) from ⟨h200, hat, hA, hpl, hlt, hk, rfl, rfl, rfl, rfl⟩) (mu_low (by decide)))
    · exact pass1_5 r b no _ _ n at_ code v w' _ Q _ _ _ _ _ _ _ _ _ _ _ _ _ _ _ _ _ _ _ _ _ _ _ _ _ _ _ _ _ _ _ _ _ _ _ _ _ _ _ _ _ _ _ _ _ _ _ _ _ _ _ _ _ _ _ _ _ _ _ _ _ _ _ _ _ _ _ _ _ _ _ _ _ _ _ _ _ _ _ _ _ _ _ _ _ _ _ _ _ _ _ _ _ _ _ K X C t (by omega) (by omega) hlt hk hS.hT (lenS b n hn) (fun w1 hT1 ho1 u3 u4 u5 u6 u12 u13 u14 u15 u16 u17 u18 u19 u20 u21 u22 u23 u24 u25 u26 u27 u28 u29 u30 u31 u32 u33 u34 u35 u36 u37 u38 u39 u40 u41 u42 u43 u44 u45 u46 u47 u48 u49 u50 u51 u52 u53 u54 u55 u56 u57 u58 u59 u60 u61 u62 u63 u64 u65 u66 u67 u68 u69 u70 u71 u72 u73 u74 u75 u76 u77 u78 u79 u80 u81 u82 u83 u84 u85 u86 u87 u88 u89 u90 u91 u92 u93 u94 u95 u96 u97 u98 u99 u100 u101 u102 => jump_ok (at_ := at_) (code := code) frL_mk rfl rfl (hS.all hB ho1 hT1) (show Lab b no 7 at_ code pre 0 ⟨#[]⟩ 0 ((at_ : Int) + 1) from ⟨h200, hat, hA, hpl, hlt, hk, rfl, rfl, rfl, rfl⟩) (mu_low (by decide)))
set_option maxRecDepth 20000 in
theorem lbl5 (B : Nat) (w : World) (r b : ByteArray) (no n : Nat) (l0 : List Tk) (Φ : Ending → World → Prop) (hn : n = b.size) (hB : B ≤ w.heap.size) (hl0 : l0.length ≤ 200000) (a : Act) (w' : World) (v : Value) (at_ code : Nat) (pre : List Tk) (K X C : Int) (t : ByteArray) (hF : FrL r b no w.heap.size (w.heap.size + 1) v (code : Int) (at_ : Int) a) (hS : SL B w w' v (l0 ++ pre) K t X (no : Int) C) (Q : Exit → Act → World → Prop) (hL : Lab b no 5 at_ code pre K t X C) :
    ∃ d, behind (scopeOf Tryz.f84) 5 = some d ∧ d.wp Tryz.prog (jumpsTo (fun l' a' w1 => JL B w r b no l0 l' a' w1 ∧ MuL n l' a' w1 < MuL n 5 a w') (Q)) a w' := by
  rw [mu_of hF]
  obtain ⟨U, rfl⟩ := hF
  obtain ⟨h200, hat, hA, hpl, hx⟩ := hL
  obtain ⟨hlt, hk, rfl, rfl, rfl, rfl⟩ := hx
  have hg := rowE_gt hlt
  have hge := rowE_le hlt
  have hrs := rowE_rest hlt
  have hzr : (b.extract at_ b.size).size = b.size - at_ := ex_size b at_ b.size (by omega) (Nat.le_refl _)
  have htx : (b.extract at_ b.size).extract 0 (rowE (b.extract at_ b.size) 0) = b.extract at_ (rowE b at_) := by
    rw [ex_ex b at_ b.size 0 _ (by omega), Nat.add_zero, hrs]
  have hlr : ∀ W, Calls Tryz.prog 94 #[.string (b.extract at_ b.size)] W fun e w1 => e = .returned (.string (b.extract at_ (rowE b at_))) ∧ w1 = W := fun W => by
    have := longestC (b.extract at_ b.size) W (by omega) (by omega)
    rw [htx] at this
    exact this
  have hzt : (b.extract at_ (rowE b at_)).size = rowE b at_ - at_ := ex_size b at_ _ (by omega) hge
  have h35 : bt b at_ ≠ 35 := fun h => by rw [(kd2 _).2 h] at hk; cases hk
  by_cases hm : 16 < rowE b at_ - at_
  · have e := lineT_bad (no := no) hlt h35 (by rw [step3 hk, if_pos hm]; simp)
    rw [step3 hk, if_pos hm] at e
    rw [e, List.append_nil] at hA
    exact pass5x r b no _ _ n at_ code v w' _ Q _ _ _ _ _ _ _ _ _ _ _ _ _ _ _ _ _ _ _ _ _ _ _ _ _ _ _ _ _ _ _ _ _ _ _ _ _ _ _ _ _ _ _ _ _ _ _ _ _ _ _ _ _ _ _ _ _ _ _ _ _ _ _ _ _ _ _ _ _ _ _ _ _ _ _ _ _ _ _ _ _ _ _ _ _ _ _ _ _ _ _ _ _ _ _ 0 0 _ ⟨#[]⟩ (b.extract at_ (rowE b at_)) (rowE b at_ - at_) (lenS _ _ hzt.symm) _ (slFrom b at_ hat) hlr (by omega) hS.hT (fun u3 u4 u5 u6 u12 u13 u14 u15 u16 u17 u18 u19 u20 u21 u22 u23 u24 u25 u26 u27 u28 u29 u30 u31 u32 u33 u34 u35 u36 u37 u38 u39 u40 u41 u42 u43 u44 u45 u46 u47 u48 u49 u50 u51 u52 u53 u54 u55 u56 u57 u58 u59 u60 u61 u62 u63 u64 u65 u66 u67 u68 u69 u70 u71 u72 u73 u74 u75 u76 u77 u78 u79 u80 u81 u82 u83 u84 u85 u86 u87 u88 u89 u90 u91 u92 u93 u94 u95 u96 u97 u98 u99 u100 u101 u102 => jump_ok (at_ := at_) (code := 92) frL_mk rfl rfl ((hS.put hB 0 (.int .i64 1) rfl).put hB 1 (.string (b.extract at_ (rowE b at_))) rfl) (show Lab b no 0 at_ 92 pre 1 _ 0 ((at_ : Int) + 1) from ⟨by decide, at_ + 1, by omega, hA⟩) (mu_low (by decide)))
  · have hst := step3 hk
    rw [if_neg hm] at hst
    exact pass5 r b no _ _ n at_ code v w' _ Q _ _ _ _ _ _ _ _ _ _ _ _ _ _ _ _ _ _ _ _ _ _ _ _ _ _ _ _ _ _ _ _ _ _ _ _ _ _ _ _ _ _ _ _ _ _ _ _ _ _ _ _ _ _ _ _ _ _ _ _ _ _ _ _ _ _ _ _ _ _ _ _ _ _ _ _ _ _ _ _ _ _ _ _ _ _ _ _ _ _ _ _ _ _ _ 0 0 _ ⟨#[]⟩ (b.extract at_ (rowE b at_)) (rowE b at_ - at_) (lenS _ _ hzt.symm) _ (slFrom b at_ hat) hlr (by omega) hS.hT (fun u3 u4 u5 u6 u12 u13 u14 u15 u16 u17 u18 u19 u20 u21 u22 u23 u24 u25 u26 u27 u28 u29 u30 u31 u32 u33 u34 u35 u36 u37 u38 u39 u40 u41 u42 u43 u44 u45 u46 u47 u48 u49 u50 u51 u52 u53 u54 u55 u56 u57 u58 u59 u60 u61 u62 u63 u64 u65 u66 u67 u68 u69 u70 u71 u72 u73 u74 u75 u76 u77 u78 u79 u80 u81 u82 u83 u84 u85 u86 u87 u88 u89 u90 u91 u92 u93 u94 u95 u96 u97 u98 u99 u100 u101 u102 => jump_ok (at_ := at_) (code := code) frL_mk rfl rfl ((hS.put hB 0 (.int .i64 1) rfl).put hB 1 (.string (b.extract at_ (rowE b at_))) rfl) (show Lab b no 8 at_ code pre 1 (b.extract at_ (rowE b at_)) 0 ((at_ : Int) + 1) from ⟨h200, hat, hA, hpl, hlt, h35, by rw [hst], by rw [hst]; simp, by rw [hst]; rfl, by rw [hst], by rw [hst]; rfl, rfl⟩) (mu_low (by decide)))
set_option maxRecDepth 20000 in
theorem lbl6 (B : Nat) (w : World) (r b : ByteArray) (no n : Nat) (l0 : List Tk) (Φ : Ending → World → Prop) (hn : n = b.size) (hB : B ≤ w.heap.size) (hl0 : l0.length ≤ 200000) (a : Act) (w' : World) (v : Value) (at_ code : Nat) (pre : List Tk) (K X C : Int) (t : ByteArray) (hF : FrL r b no w.heap.size (w.heap.size + 1) v (code : Int) (at_ : Int) a) (hS : SL B w w' v (l0 ++ pre) K t X (no : Int) C) (Q : Exit → Act → World → Prop) (hL : Lab b no 6 at_ code pre K t X C) (hg0 : Hnd w) (hgB : 8 < B) :
    ∃ d, behind (scopeOf Tryz.f84) 6 = some d ∧ d.wp Tryz.prog (jumpsTo (fun l' a' w1 => JL B w r b no l0 l' a' w1 ∧ MuL n l' a' w1 < MuL n 6 a w') (Q)) a w' := by
  rw [mu_of hF]
  obtain ⟨U, rfl⟩ := hF
  obtain ⟨h200, hat, hA, hpl, hx⟩ := hL
  obtain ⟨hlt, hk, rfl, rfl, rfl, rfl⟩ := hx
  have hg := rowE_gt hlt
  have hge := rowE_le hlt
  have hrs := rowE_rest hlt
  have hzr : (b.extract at_ b.size).size = b.size - at_ := ex_size b at_ b.size (by omega) (Nat.le_refl _)
  have htx : (b.extract at_ b.size).extract 0 (rowE (b.extract at_ b.size) 0) = b.extract at_ (rowE b at_) := by
    rw [ex_ex b at_ b.size 0 _ (by omega), Nat.add_zero, hrs]
  have hlr : ∀ W, Calls Tryz.prog 94 #[.string (b.extract at_ b.size)] W fun e w1 => e = .returned (.string (b.extract at_ (rowE b at_))) ∧ w1 = W := fun W => by
    have := longestC (b.extract at_ b.size) W (by omega) (by omega)
    rw [htx] at this
    exact this
  have hzt : (b.extract at_ (rowE b at_)).size = rowE b at_ - at_ := ex_size b at_ _ (by omega) hge
  have h35 : bt b at_ ≠ 35 := fun h => by rw [(kd2 _).2 h] at hk; cases hk
  have hS2 := ((hS.put hB 0 (.int .i64 2) rfl).put hB 1 (.string (b.extract at_ (rowE b at_))) rfl)
  have hvo := valueC (b.extract at_ (rowE b at_)) _ (by omega) (by omega) (fun k h => by rw [row_kind hlt k h]; exact hk) (hg0.onB hS2.bel hgB)
  have hst := val_row hlt hk
  by_cases hm : valE (b.extract at_ (rowE b at_)) = 0
  · exact pass6 r b no _ _ n at_ code v w' _ Q _ _ _ _ _ _ _ _ _ _ _ _ _ _ _ _ _ _ _ _ _ _ _ _ _ _ _ _ _ _ _ _ _ _ _ _ _ _ _ _ _ _ _ _ _ _ _ _ _ _ _ _ _ _ _ _ _ _ _ _ _ _ _ _ _ _ _ _ _ _ _ _ _ _ _ _ _ _ _ _ _ _ _ _ _ _ _ _ _ _ _ _ _ _ _ 0 0 _ ⟨#[]⟩ (b.extract at_ (rowE b at_)) (rowE b at_ - at_) (lenS _ _ hzt.symm) _ (slFrom b at_ hat) hlr _ _ hvo hm hS.hT (fun w2 hb2 u3 u4 u5 u6 u12 u13 u14 u15 u16 u17 u18 u19 u20 u21 u22 u23 u24 u25 u26 u27 u28 u29 u30 u31 u32 u33 u34 u35 u36 u37 u38 u39 u40 u41 u42 u43 u44 u45 u46 u47 u48 u49 u50 u51 u52 u53 u54 u55 u56 u57 u58 u59 u60 u61 u62 u63 u64 u65 u66 u67 u68 u69 u70 u71 u72 u73 u74 u75 u76 u77 u78 u79 u80 u81 u82 u83 u84 u85 u86 u87 u88 u89 u90 u91 u92 u93 u94 u95 u96 u97 u98 u99 u100 u101 u102 => jump_ok (at_ := at_) (code := 0) frL_mk rfl rfl ((hS2.on hb2 hB).put hB 2 _ rfl) (show Lab b no 8 at_ 0 pre 2 (b.extract at_ (rowE b at_)) _ ((at_ : Int) + 1) from ⟨h200, hat, hA, hpl, hlt, h35, by rw [hst]; exact hm, by rw [hst]; simp, by rw [hst]; rfl, by rw [hst], by rw [hst], rfl⟩) (mu_low (by decide)))
  · have e := lineT_bad (no := no) hlt h35 (by rw [hst]; exact hm)
    rw [hst] at e
    rw [e, List.append_nil] at hA
    exact pass6x r b no _ _ n at_ code v w' _ Q _ _ _ _ _ _ _ _ _ _ _ _ _ _ _ _ _ _ _ _ _ _ _ _ _ _ _ _ _ _ _ _ _ _ _ _ _ _ _ _ _ _ _ _ _ _ _ _ _ _ _ _ _ _ _ _ _ _ _ _ _ _ _ _ _ _ _ _ _ _ _ _ _ _ _ _ _ _ _ _ _ _ _ _ _ _ _ _ _ _ _ _ _ _ _ 0 0 _ ⟨#[]⟩ (b.extract at_ (rowE b at_)) (rowE b at_ - at_) (lenS _ _ hzt.symm) _ (slFrom b at_ hat) hlr _ _ hvo (by omega) hS.hT (fun w2 hb2 u3 u4 u5 u6 u12 u13 u14 u15 u16 u17 u18 u19 u20 u21 u22 u23 u24 u25 u26 u27 u28 u29 u30 u31 u32 u33 u34 u35 u36 u37 u38 u39 u40 u41 u42 u43 u44 u45 u46 u47 u48 u49 u50 u51 u52 u53 u54 u55 u56 u57 u58 u59 u60 u61 u62 u63 u64 u65 u66 u67 u68 u69 u70 u71 u72 u73 u74 u75 u76 u77 u78 u79 u80 u81 u82 u83 u84 u85 u86 u87 u88 u89 u90 u91 u92 u93 u94 u95 u96 u97 u98 u99 u100 u101 u102 => jump_ok (at_ := at_) (code := valE (b.extract at_ (rowE b at_))) frL_mk rfl rfl ((hS2.on hb2 hB).put hB 2 _ rfl) (show Lab b no 0 at_ _ pre 2 (b.extract at_ (rowE b at_)) _ ((at_ : Int) + 1) from ⟨hm, at_ + 1, by omega, hA⟩) (mu_low (by decide)))
set_option maxRecDepth 20000 in
theorem lbl7 (B : Nat) (w : World) (r b : ByteArray) (no n : Nat) (l0 : List Tk) (Φ : Ending → World → Prop) (hn : n = b.size) (hB : B ≤ w.heap.size) (hl0 : l0.length ≤ 200000) (a : Act) (w' : World) (v : Value) (at_ code : Nat) (pre : List Tk) (K X C : Int) (t : ByteArray) (hF : FrL r b no w.heap.size (w.heap.size + 1) v (code : Int) (at_ : Int) a) (hS : SL B w w' v (l0 ++ pre) K t X (no : Int) C) (Q : Exit → Act → World → Prop) (hL : Lab b no 7 at_ code pre K t X C) (enter : ∀ l' a' w1, JL B w r b no l0 l' a' w1 → MuL n l' a' w1 < MuL n 7 a w' → ∃ d, behind (scopeOf Tryz.f84) l' = some d ∧ d.wp Tryz.prog (jumpsTo (fun l' a' w1 => JL B w r b no l0 l' a' w1 ∧ MuL n l' a' w1 < MuL n 7 a w') Q) a' w1) :
    ∃ d, behind (scopeOf Tryz.f84) 7 = some d ∧ d.wp Tryz.prog (jumpsTo (fun l' a' w1 => JL B w r b no l0 l' a' w1 ∧ MuL n l' a' w1 < MuL n 7 a w') (Q)) a w' := by
  rw [mu_of hF] at enter ⊢
  obtain ⟨U, rfl⟩ := hF
  obtain ⟨h200, hat, hA, hpl, hx⟩ := hL
  obtain ⟨hlt, hk, rfl, rfl, rfl, rfl⟩ := hx
  have h35 : bt b at_ ≠ 35 := fun h => by rw [(kd2 _).2 h] at hk; cases hk
  have hst := step5 hk
  have hsl := slS b at_ (at_ + 1) (by omega) (by omega)
  rw [show ((at_ + 1 : Nat) : Int) = (at_ : Int) + 1 by omega] at hsl
  exact pass7 r b no _ _ n at_ code v w' _ Q _ _ _ _ _ _ _ _ _ _ _ _ _ _ _ _ _ _ _ _ _ _ _ _ _ _ _ _ _ _ _ _ _ _ _ _ _ _ _ _ _ _ _ _ _ _ _ _ _ _ _ _ _ _ _ _ _ _ _ _ _ _ _ _ _ _ _ _ _ _ _ _ _ _ _ _ _ _ _ _ _ _ _ _ _ _ _ _ _ _ _ _ _ _ _ 0 0 _ ⟨#[]⟩ (b.extract at_ (at_ + 1)) (by omega) (by omega) hsl hS.hT (fun u3 u4 u5 u6 u12 u13 u14 u15 u16 u17 u18 u19 u20 u21 u22 u23 u24 u25 u26 u27 u28 u29 u30 u31 u32 u33 u34 u35 u36 u37 u38 u39 u40 u41 u42 u43 u44 u45 u46 u47 u48 u49 u50 u51 u52 u53 u54 u55 u56 u57 u58 u59 u60 u61 u62 u63 u64 u65 u66 u67 u68 u69 u70 u71 u72 u73 u74 u75 u76 u77 u78 u79 u80 u81 u82 u83 u84 u85 u86 u87 u88 u89 u90 u91 u92 u93 u94 u95 u96 u97 u98 u99 u100 u101 u102 => ent_of enter (jump_ok (at_ := at_) (code := code) (pre := pre) frL_mk rfl rfl (((hS.put hB 0 (.int .i64 3) rfl).put hB 1 (.string (b.extract at_ (at_ + 1))) rfl).drew) (show Lab b no 8 at_ code pre 3 (b.extract at_ (at_ + 1)) 0 ((at_ : Int) + 1) from ⟨h200, hat, hA, hpl, hlt, h35, by rw [hst], by rw [hst]; simp, by rw [hst]; rfl, by rw [hst], by rw [hst]; rfl, rfl⟩) (mu_low (by decide))))
set_option maxRecDepth 20000 in
theorem lbl8 (B : Nat) (w : World) (r b : ByteArray) (no n : Nat) (l0 : List Tk) (Φ : Ending → World → Prop) (hn : n = b.size) (hB : B ≤ w.heap.size) (hl0 : l0.length ≤ 200000) (a : Act) (w' : World) (v : Value) (at_ code : Nat) (pre : List Tk) (K X C : Int) (t : ByteArray) (hF : FrL r b no w.heap.size (w.heap.size + 1) v (code : Int) (at_ : Int) a) (hS : SL B w w' v (l0 ++ pre) K t X (no : Int) C) (Q : Exit → Act → World → Prop) (hL : Lab b no 8 at_ code pre K t X C) :
    ∃ d, behind (scopeOf Tryz.f84) 8 = some d ∧ d.wp Tryz.prog (jumpsTo (fun l' a' w1 => JL B w r b no l0 l' a' w1 ∧ MuL n l' a' w1 < MuL n 8 a w') (Q)) a w' := by
  rw [mu_of hF]
  obtain ⟨U, rfl⟩ := hF
  obtain ⟨h200, hat, hA, hpl, hx⟩ := hL
  obtain ⟨hlt, h35, he, hk, rfl, rfl, rfl, rfl⟩ := hx
  have hj1 := step_gt hlt
  have hj2 := step_le hlt
  have e := lineT_tok (no := no) hlt h35 he hk
  rw [e] at hA
  have hzt : (b.extract at_ (stepS b at_).j).size = (stepS b at_).j - at_ := ex_size b at_ _ (by omega) hj2
  have hlT := blk_lt hS.hT
  have hlR := blk_lt hS.hR
  exact pass8 r b no _ _ n at_ code v w' _ Q _ _ _ _ _ _ _ _ _ _ _ _ _ _ _ _ _ _ _ _ _ _ _ _ _ _ _ _ _ _ _ _ _ _ _ _ _ _ _ _ _ _ _ _ _ _ _ _ _ _ _ _ _ _ _ _ _ _ _ _ _ _ _ _ _ _ _ _ _ _ _ _ _ _ _ _ _ _ _ _ _ _ _ _ _ _ _ _ _ _ _ _ _ _ _ (stepS b at_).k (stepS b at_).v (at_ + 1) ((stepS b at_).j - at_) (b.extract at_ (stepS b at_).j) (lenS _ _ hzt.symm) (by omega) (by omega) B (l0 ++ pre) hS.row (by omega) (by simp; omega) hS.nT hS.hT (fun v5 w5 hrow5 hgr5 hob5 u3 u4 u5 u6 u12 u13 u14 u15 u16 u17 u18 u19 u20 u21 u22 u23 u24 u25 u26 u27 u28 u29 u30 u31 u32 u33 u34 u35 u36 u37 u38 u39 u40 u41 u42 u43 u44 u45 u46 u47 u48 u49 u50 u51 u52 u53 u54 u55 u56 u57 u58 u59 u60 u61 u62 u63 u64 u65 u66 u67 u68 u69 u70 u71 u72 u73 u74 u75 u76 u77 u78 u79 u80 u81 u82 u83 u84 u85 u86 u87 u88 u89 u90 u91 u92 u93 u94 u95 u96 u97 u98 u99 u100 u101 u102 => by
    have hsz : (w'.alloc (.cells #[.int .i64 ((stepS b at_).k : Int), .string (b.extract at_ (stepS b at_).j), .int .u32 ((stepS b at_).v : Int), .int .i64 (no : Int), .int .i64 ((at_ + 1 : Nat) : Int)] 84)).heap.size = w'.heap.size + 1 := by simp
    rw [hsz] at hob5
    refine jump_ok (at_ := (stepS b at_).j) (code := code) (pre := pre ++ [⟨(stepS b at_).k, b.extract at_ (stepS b at_).j, (stepS b at_).v, no, at_ + 1⟩]) frL_mk rfl (by omega) (K := ((stepS b at_).k : Int)) (X := ((stepS b at_).v : Int)) (C := (at_ : Int) + 1) (t := b.extract at_ (stepS b at_).j) ⟨?_, ?_, ?_, ?_, ?_, ?_⟩ ?_ (mu_next (by omega) (by omega))
    · exact bel_grownT (hS.bel.alloc (by omega) _) (hS.row.alloc _) hgr5 (by rw [hsz]; omega) (Nat.le_refl _)
    · rw [← List.append_assoc]; exact hrow5
    · rcases hob5 with h | h
      · rw [h]; exact hS.nR
      · rw [h]; intro hc; have := Option.some.inj hc; omega
    · rcases hob5 with h | h
      · rw [h]; exact hS.nT
      · rw [h]; intro hc; have := Option.some.inj hc; omega
    · exact blk_grown (blk_alloc hS.hR _) hgr5 hS.nR
    · exact blk_grown (blk_alloc hS.hT _) hgr5 hS.nT
    · show Lab b no 1 (stepS b at_).j code _ _ _ _ _
      exact ⟨h200, hj2, by rw [hA]; simp, by simp; omega, trivial⟩)
set_option maxRecDepth 20000 in
theorem lbl2 (B : Nat) (w : World) (r b : ByteArray) (no n : Nat) (l0 : List Tk) (Φ : Ending → World → Prop) (hn : n = b.size) (hB : B ≤ w.heap.size) (hl0 : l0.length ≤ 200000) (a : Act) (w' : World) (v : Value) (at_ code : Nat) (pre : List Tk) (K X C : Int) (t : ByteArray) (hF : FrL r b no w.heap.size (w.heap.size + 1) v (code : Int) (at_ : Int) a) (hS : SL B w w' v (l0 ++ pre) K t X (no : Int) C) (hL : Lab b no 2 at_ code pre K t X C) (hr : r.size ≤ 65536) (hbr : b = bodyOf r) (hΦ : ∀ v5 w6, RowT w6 B v5 (l0 ++ (scanL r no).1) → Below B w w6 → Φ (.returned (.tuple #[v5, .agg #[.int .i64 ((scanL r no).2.e : Int), .int .i64 ((scanL r no).2.l : Int), .int .i64 ((scanL r no).2.c : Int)]])) w6) :
    ∃ d, behind (scopeOf Tryz.f84) 2 = some d ∧ d.wp Tryz.prog (jumpsTo (fun l' a' w1 => JL B w r b no l0 l' a' w1 ∧ MuL n l' a' w1 < MuL n 2 a w') (bodyPost Tryz.prog Tryz.f84 Φ)) a w' := by
  rw [mu_of hF]
  obtain ⟨U, rfl⟩ := hF
  obtain ⟨h200, hat, hA, hpl, hx⟩ := hL
  obtain ⟨he, rfl, rfl, rfl, rfl⟩ := hx
  have hbl := bodyOf_le r
  rw [← hbr] at hbl
  have e1 := lineT_end (s := b) (no := no) (i := at_) (fun h => by have := h.1; omega)
  rw [e1, List.append_nil] at hA
  have hsc : scanL r no = (pre ++ [⟨4, r.extract at_ r.size, 0, no, at_ + 1⟩], ⟨0, 0, 0⟩) := by
    unfold scanL
    rw [← hbr, hA, ← he]
    rfl
  have hlT := blk_lt hS.hT
  have hlR := blk_lt hS.hR
  exact pass2 r b no _ _ n at_ code v w' _ Φ _ _ _ _ _ _ _ _ _ _ _ _ _ _ _ _ _ _ _ _ _ _ _ _ _ _ _ _ _ _ _ _ _ _ _ _ _ _ _ _ _ _ _ _ _ _ _ _ _ _ _ _ _ _ _ _ _ _ _ _ _ _ _ _ _ _ _ _ _ _ _ _ _ _ _ _ _ _ _ _ _ _ _ _ _ _ _ _ _ _ _ _ _ _ _ (at_ + 1) (r.extract at_ r.size) ⟨#[]⟩ (by omega) (by omega) (slFrom r at_ (by omega)) B (l0 ++ pre) hS.row (by omega) (by simp; omega) hS.nT hS.nR hS.hT hS.hR (by omega) (by omega) (fun v5 w5 w6 hrow5 hgr5 hob5 ho6 => by
    have hS4 := (hS.put hB 0 (.int .i64 4) rfl).put hB 1 (.string (r.extract at_ r.size)) rfl
    have hsz : (((w'.setCell ⟨w.heap.size + 1, 0, none⟩ (.int .i64 4)).setCell ⟨w.heap.size + 1, 1, none⟩ (.string (r.extract at_ r.size))).alloc (.cells #[.int .i64 4, .string (r.extract at_ r.size), .int .u32 0, .int .i64 (no : Int), .int .i64 ((at_ + 1 : Nat) : Int)] 84)).heap.size = w'.heap.size + 1 := by simp
    have hsz2 : ((w'.setCell ⟨w.heap.size + 1, 0, none⟩ (.int .i64 4)).setCell ⟨w.heap.size + 1, 1, none⟩ (.string (r.extract at_ r.size))).heap.size = w'.heap.size := by simp
    rw [hsz] at hob5
    have hBz : B ≤ w'.heap.size + 1 := by omega
    rw [← hsz] at hBz
    have hb5 : Below B w w5 := bel_grownT (hS4.bel.alloc (by omega) _).drew (RowT.drew (hS4.row.alloc _)) hgr5 hBz (Nat.le_refl _)
    have hnR : some w.heap.size ≠ v5.ownBlock := by
      rcases hob5 with h | h
      · rw [h]; exact hS.nR
      · rw [h]; intro hc; have := Option.some.inj hc; omega
    have := hΦ v5 w6 (by rw [hsc, ← List.append_assoc]; exact hrow5.only2 ho6 hnR) (hb5.trans (ho6.below hB))
    rw [hsc] at this
    exact this)
set_option maxRecDepth 20000 in
theorem lbl0 (B : Nat) (w : World) (r b : ByteArray) (no n : Nat) (l0 : List Tk) (Φ : Ending → World → Prop) (hn : n = b.size) (hB : B ≤ w.heap.size) (hl0 : l0.length ≤ 200000) (a : Act) (w' : World) (v : Value) (at_ code : Nat) (pre : List Tk) (K X C : Int) (t : ByteArray) (hF : FrL r b no w.heap.size (w.heap.size + 1) v (code : Int) (at_ : Int) a) (hS : SL B w w' v (l0 ++ pre) K t X (no : Int) C) (hL : Lab b no 0 at_ code pre K t X C) (hr : r.size ≤ 65536) (hbr : b = bodyOf r) (hΦ : ∀ v5 w6, RowT w6 B v5 (l0 ++ (scanL r no).1) → Below B w w6 → Φ (.returned (.tuple #[v5, .agg #[.int .i64 ((scanL r no).2.e : Int), .int .i64 ((scanL r no).2.l : Int), .int .i64 ((scanL r no).2.c : Int)]])) w6) :
    ∃ d, behind (scopeOf Tryz.f84) 0 = some d ∧ d.wp Tryz.prog (jumpsTo (fun l' a' w1 => JL B w r b no l0 l' a' w1 ∧ MuL n l' a' w1 < MuL n 0 a w') (bodyPost Tryz.prog Tryz.f84 Φ)) a w' := by
  rw [mu_of hF]
  obtain ⟨U, rfl⟩ := hF
  obtain ⟨hc, cn, rfl, hA⟩ := hL
  have hsc : scanL r no = (pre, ⟨code, no, cn⟩) := by
    unfold scanL
    rw [← hbr, hA, if_pos hc]
  exact pass0 r b no _ _ n at_ code v w' _ Φ _ _ _ _ _ _ _ _ _ _ _ _ _ _ _ _ _ _ _ _ _ _ _ _ _ _ _ _ _ _ _ _ _ _ _ _ _ _ _ _ _ _ _ _ _ _ _ _ _ _ _ _ _ _ _ _ _ _ _ _ _ _ _ _ _ _ _ _ _ _ _ _ _ _ _ _ _ _ _ _ _ _ _ _ _ _ _ _ _ _ _ _ _ _ _ K X _ t hS.hT hS.hR (by omega) (by omega) (fun w6 ho6 _ => by
    have := hΦ v w6 (by rw [hsc]; exact hS.row.only2 ho6 hS.nR) (hS.bel.trans (ho6.below hB))
    rw [hsc] at this
    exact this)
set_option maxRecDepth 20000 in
set_option maxHeartbeats 4000000 in
theorem scanLineC (r : ByteArray) (no : Nat) (v0 : Value) (l0 : List Tk) (B : Nat) (w : World) (hr : r.size ≤ 65536) (hrow : RowT w B v0 l0) (hB : B ≤ w.heap.size) (hl0 : l0.length ≤ 200000) (hg : Hnd w) (hgB : 8 < B) :
    Calls Tryz.prog 84 #[v0, .string r, .int .i64 (no : Int)] w fun e w' => ∃ v' : Value, e = .returned (.tuple #[v', .agg #[.int .i64 ((scanL r no).2.e : Int), .int .i64 ((scanL r no).2.l : Int), .int .i64 ((scanL r no).2.c : Int)]]) ∧ RowT w' B v' (l0 ++ (scanL r no).1) ∧ Below B w w' := by
  obtain ⟨Φ, hΦ⟩ : ∃ Φ : Ending → World → Prop, Φ = fun e w' => ∃ v' : Value, e = .returned (.tuple #[v', .agg #[.int .i64 ((scanL r no).2.e : Int), .int .i64 ((scanL r no).2.l : Int), .int .i64 ((scanL r no).2.c : Int)]]) ∧ RowT w' B v' (l0 ++ (scanL r no).1) ∧ Below B w w' := ⟨_, rfl⟩
  rw [← hΦ]
  have hP : ∀ v5 w6, RowT w6 B v5 (l0 ++ (scanL r no).1) → Below B w w6 → Φ (.returned (.tuple #[v5, .agg #[.int .i64 ((scanL r no).2.e : Int), .int .i64 ((scanL r no).2.l : Int), .int .i64 ((scanL r no).2.c : Int)]])) w6 := fun v5 w6 h1 h2 => by rw [hΦ]; exact ⟨v5, rfl, h1, h2⟩
  clear hΦ
  have HP : Hid _ := hP
  have HG : Hid (Hnd w) := hg
  have HRow : Hid (RowT w B v0 l0) := hrow
  clear hP hg hrow
  go_enter Tryz.func84, Tryz.ntmps84
  go_wp2
  change (Code.scope (scopeOf Tryz.f84)).wp _ _ _ _
  have hT := trimNl r (by omega)
  have hbr : bodyOf r = bodyOf r := rfl
  generalize hb : bodyOf r = b at hT hbr
  have hlR := HRow.out.lt
  have hS0 : SL B w ((w.alloc (.cells #[.int .i64 0, .int .i64 0, .int .i64 0] 76)).alloc (.cells #[.int .i64 0, .string ⟨#[]⟩, .int .u32 0, .int .i64 (no : Int), .int .i64 1] 84)) v0 (l0 ++ []) 0 ⟨#[]⟩ 0 (no : Int) 1 := by
    refine ⟨((Below.refl B w).alloc hB _).alloc (by simp; omega) _, by rw [List.append_nil]; exact (HRow.out.alloc _).alloc _, fun h => ?_, fun h => ?_, blk_alloc (blk_new w _) _, ?_⟩
    · have := (hlR _ h.symm).2; omega
    · have := (hlR _ h.symm).2; omega
    · have := blk_new (w.alloc (.cells #[.int .i64 0, .int .i64 0, .int .i64 0] 76)) (.cells #[.int .i64 0, .string ⟨#[]⟩, .int .u32 0, .int .i64 (no : Int), .int .i64 1] 84)
      rw [show (w.alloc (.cells #[.int .i64 0, .int .i64 0, .int .i64 0] 76)).heap.size = w.heap.size + 1 by simp] at this
      exact this
  refine scope_enters (JL B w r b no l0) (MuL b.size) ?_ ?_
  · rintro l a w' ⟨v, at_, code, pre, K, X, C, t, hF, hS, hL⟩ enter
    rcases lab_cases hL with rfl | rfl | rfl | rfl | rfl | rfl | rfl | rfl | rfl
    · exact lbl0 B w r b no _ l0 Φ rfl hB hl0 a w' v at_ code pre K X C t hF hS hL hr hb.symm HP.out
    · exact lbl1 B w r b no _ l0 Φ rfl hB hl0 a w' v at_ code pre K X C t hF hS _ hL
    · exact lbl2 B w r b no _ l0 Φ rfl hB hl0 a w' v at_ code pre K X C t hF hS hL hr hb.symm HP.out
    · exact lbl3 B w r b no _ l0 Φ rfl hB hl0 a w' v at_ code pre K X C t hF hS _ hL
    · exact lbl4 B w r b no _ l0 Φ rfl hB hl0 a w' v at_ code pre K X C t hF hS _ hL
    · exact lbl5 B w r b no _ l0 Φ rfl hB hl0 a w' v at_ code pre K X C t hF hS _ hL
    · exact lbl6 B w r b no _ l0 Φ rfl hB hl0 a w' v at_ code pre K X C t hF hS _ hL HG.out hgB
    · exact lbl7 B w r b no _ l0 Φ rfl hB hl0 a w' v at_ code pre K X C t hF hS _ hL enter
    · exact lbl8 B w r b no _ l0 Φ rfl hB hl0 a w' v at_ code pre K X C t hF hS _ hL
  · intro enter
    by_cases hbig : 200 < b.size
    · refine frontx r b no _ b.size v0 _ _ _ _ _ _ _ _ _ _ _ _ _ _ _ _ _ _ _ _ _ _ _ _ _ _ _ _ _ _ _ _ _ _ _ _ _ _ _ _ _ _ _ _ _ _ _ _ _ _ _ _ _ _ _ _ _ _ _ _ _ _ _ _ _ _ _ _ _ _ _ _ _ _ _ _ _ _ _ _ _ _ _ _ _ _ _ _ _ _ _ _ _ _ _ _ _ _ _ _ _ _ hT (lenS b _ rfl) (by omega) (fun u3 u4 u5 u6 u12 u13 u14 u15 u16 u17 u18 u19 u20 u21 u22 u23 u24 u25 u26 u27 u28 u29 u30 u31 u32 u33 u34 u35 u36 u37 u38 u39 u40 u41 u42 u43 u44 u45 u46 u47 u48 u49 u50 u51 u52 u53 u54 u55 u56 u57 u58 u59 u60 u61 u62 u63 u64 u65 u66 u67 u68 u69 u70 u71 u72 u73 u74 u75 u76 u77 u78 u79 u80 u81 u82 u83 u84 u85 u86 u87 u88 u89 u90 u91 u92 u93 u94 u95 u96 u97 u98 u99 u100 u101 u102 => ?_)
      have hA : lineA b no = ([], ⟨93, no, 1⟩) := by unfold lineA; rw [if_pos hbig]
      have hz : (w.alloc (.cells #[.int .i64 0, .int .i64 0, .int .i64 0] 76)).heap.size = w.heap.size + 1 := by simp
      rw [hz]
      exact ⟨v0, 0, 93, [], 0, 0, 1, ⟨#[]⟩, frL_mk, hS0, by decide, 1, rfl, hA⟩
    · refine front r b no _ b.size v0 _ _ _ _ _ _ _ _ _ _ _ _ _ _ _ _ _ _ _ _ _ _ _ _ _ _ _ _ _ _ _ _ _ _ _ _ _ _ _ _ _ _ _ _ _ _ _ _ _ _ _ _ _ _ _ _ _ _ _ _ _ _ _ _ _ _ _ _ _ _ _ _ _ _ _ _ _ _ _ _ _ _ _ _ _ _ _ _ _ _ _ _ _ _ _ _ _ _ _ _ _ _ hT (lenS b _ rfl) (by omega) (fun u3 u4 u5 u6 u12 u13 u14 u15 u16 u17 u18 u19 u20 u21 u22 u23 u24 u25 u26 u27 u28 u29 u30 u31 u32 u33 u34 u35 u36 u37 u38 u39 u40 u41 u42 u43 u44 u45 u46 u47 u48 u49 u50 u51 u52 u53 u54 u55 u56 u57 u58 u59 u60 u61 u62 u63 u64 u65 u66 u67 u68 u69 u70 u71 u72 u73 u74 u75 u76 u77 u78 u79 u80 u81 u82 u83 u84 u85 u86 u87 u88 u89 u90 u91 u92 u93 u94 u95 u96 u97 u98 u99 u100 u101 u102 => enter 1 _ _ ?_)
      have hA : lineA b no = lineT b no 0 := by unfold lineA; rw [if_neg hbig]
      have hz : (w.alloc (.cells #[.int .i64 0, .int .i64 0, .int .i64 0] 76)).heap.size = w.heap.size + 1 := by simp
      rw [hz]
      exact ⟨v0, 0, 0, [], 0, 0, 1, ⟨#[]⟩, frL_mk, hS0, by omega, Nat.zero_le _, by rw [hA]; rfl, Nat.zero_le _, trivial⟩
end Go.Proofs.YtehedlgdencboabGreatDoor
