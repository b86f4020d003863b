/-
  What is done to one engine of tuples is not seen by another one with the same rules (R2), whatever rules, rule, id and header are handed in; the examples of the document hold.
  Conditions: none; the law holds for every input.
-/
import Derived.Test.YtfpmljgmfapoiaaPkBD
import Derived.Test.YtfpmljgmfapoiaaPkBC
namespace Go.Proofs.Ytfpmljgmfapoiaa
open Go.ChangeShapes Go.WideShapes Go.ChangeAt Go.RowKit Go.Joins
set_option linter.unusedVariables false
set_option linter.unusedSimpArgs false

def eD : Cf := ⟨64, 1, 100, 100, 100, 4, 8⟩
theorem eD_bd : BdC eD := by unfold BdC I64 eD; decide
theorem eD_ok : okC eD = true := by decide
theorem blk4 {w : World} {B : Nat} {v0 v1 v2 v3 : Value} {t : TypeId} {fr : Nat × Nat} (h : w.heap[B]? = some (.cells #[v0, v1, v2, v3] t fr)) : w.cell? ⟨B, 0, none⟩ = some v0 ∧ w.cell? ⟨B, 1, none⟩ = some v1 ∧ w.cell? ⟨B, 2, none⟩ = some v2 ∧ w.cell? ⟨B, 3, none⟩ = some v3 := ⟨blk_cell h rfl, blk_cell h rfl, blk_cell h rfl, blk_cell h rfl⟩
theorem blk7 {w : World} {B : Nat} {v0 v1 v2 v3 v4 v5 v6 : Value} {t : TypeId} {fr : Nat × Nat} (h : w.heap[B]? = some (.cells #[v0, v1, v2, v3, v4, v5, v6] t fr)) : w.cell? ⟨B, 0, none⟩ = some v0 ∧ w.cell? ⟨B, 1, none⟩ = some v1 ∧ w.cell? ⟨B, 2, none⟩ = some v2 ∧ w.cell? ⟨B, 3, none⟩ = some v3 ∧ w.cell? ⟨B, 4, none⟩ = some v4 ∧ w.cell? ⟨B, 5, none⟩ = some v5 ∧ w.cell? ⟨B, 6, none⟩ = some v6 := ⟨blk_cell h rfl, blk_cell h rfl, blk_cell h rfl, blk_cell h rfl, blk_cell h rfl, blk_cell h rfl, blk_cell h rfl⟩
set_option maxRecDepth 20000 in
set_option maxHeartbeats 8000000 in
theorem tupleApart_walk (l : List Ru) (v : Value) (bl : ∀ R ∈ l, BdR R) (R : Ru) (bR : BdR R) (id : Int) (wi : (Lit.int .i64 id).wf = true) (h : Hd) (oh : OkH h) (w : World) (hs : SrcU w v l) :
    Calls Try.prog 5 #[v, .agg #[.int .i64 R.i, .int .u32 (R.s : Int), .int .i64 R.sl, .int .u32 (R.d : Int), .int .i64 R.dl, .int .u16 (R.p.1 : Int), .int .u16 (R.p.2 : Int), .int .u16 (R.q.1 : Int), .int .u16 (R.q.2 : Int), .int .u8 (R.m.1 : Int), .int .u8 (R.m.2 : Int), .int .i64 R.act], .int .i64 id, .agg #[.int .u32 (h.s : Int), .int .u32 (h.d : Int), .int .u16 (h.p : Int), .int .u16 (h.q : Int), .int .u8 (h.r : Int)]] w fun e w' => e = .returned (.bool true) ∧ Below w.heap.size w w' := by
  have HS : Hid (SrcU w v l) := hs
  have Hb : Hid (∀ R ∈ l, BdR R) := bl
  obtain ⟨ad, cap, rfl, _, _⟩ := hs
  obtain ⟨nl, hnl⟩ : ∃ n, n = l.length := ⟨_, rfl⟩
  rw [← hnl] at HS ⊢
  have Kr_0 : Hid (((w.alloc (.cells #[.int .i64 R.i, .int .u32 (R.s : Int), .int .i64 R.sl, .int .u32 (R.d : Int), .int .i64 R.dl, .int .u16 (R.p.1 : Int), .int .u16 (R.p.2 : Int), .int .u16 (R.q.1 : Int), .int .u16 (R.q.2 : Int), .int .u8 (R.m.1 : Int), .int .u8 (R.m.2 : Int), .int .i64 R.act] 60)).alloc (.cells #[.int .u32 (h.s : Int), .int .u32 (h.d : Int), .int .u16 (h.p : Int), .int .u16 (h.q : Int), .int .u8 (h.r : Int)] 28)).heap[w.heap.size]? = some (.cells #[.int .i64 R.i, .int .u32 (R.s : Int), .int .i64 R.sl, .int .u32 (R.d : Int), .int .i64 R.dl, .int .u16 (R.p.1 : Int), .int .u16 (R.p.2 : Int), .int .u16 (R.q.1 : Int), .int .u16 (R.q.2 : Int), .int .u8 (R.m.1 : Int), .int .u8 (R.m.2 : Int), .int .i64 R.act] 60 (0, 0))) := blk_alloc (blk_new w _) _
  have Kh_0 : Hid (((w.alloc (.cells #[.int .i64 R.i, .int .u32 (R.s : Int), .int .i64 R.sl, .int .u32 (R.d : Int), .int .i64 R.dl, .int .u16 (R.p.1 : Int), .int .u16 (R.p.2 : Int), .int .u16 (R.q.1 : Int), .int .u16 (R.q.2 : Int), .int .u8 (R.m.1 : Int), .int .u8 (R.m.2 : Int), .int .i64 R.act] 60)).alloc (.cells #[.int .u32 (h.s : Int), .int .u32 (h.d : Int), .int .u16 (h.p : Int), .int .u16 (h.q : Int), .int .u8 (h.r : Int)] 28)).heap[w.heap.size + 1]? = some (.cells #[.int .u32 (h.s : Int), .int .u32 (h.d : Int), .int .u16 (h.p : Int), .int .u16 (h.q : Int), .int .u8 (h.r : Int)] 28 (0, 0))) := by
    have := blk_new (w.alloc (.cells #[.int .i64 R.i, .int .u32 (R.s : Int), .int .i64 R.sl, .int .u32 (R.d : Int), .int .i64 R.dl, .int .u16 (R.p.1 : Int), .int .u16 (R.p.2 : Int), .int .u16 (R.q.1 : Int), .int .u16 (R.q.2 : Int), .int .u8 (R.m.1 : Int), .int .u8 (R.m.2 : Int), .int .i64 R.act] 60)) (.cells #[.int .u32 (h.s : Int), .int .u32 (h.d : Int), .int .u16 (h.p : Int), .int .u16 (h.q : Int), .int .u8 (h.r : Int)] 28)
    show _ = _
    simpa using this
  have HB_0 : Hid (Below w.heap.size w ((w.alloc (.cells #[.int .i64 R.i, .int .u32 (R.s : Int), .int .i64 R.sl, .int .u32 (R.d : Int), .int .i64 R.dl, .int .u16 (R.p.1 : Int), .int .u16 (R.p.2 : Int), .int .u16 (R.q.1 : Int), .int .u16 (R.q.2 : Int), .int .u8 (R.m.1 : Int), .int .u8 (R.m.2 : Int), .int .i64 R.act] 60)).alloc (.cells #[.int .u32 (h.s : Int), .int .u32 (h.d : Int), .int .u16 (h.p : Int), .int .u16 (h.q : Int), .int .u8 (h.r : Int)] 28))) := ((Below.refl _ _).alloc (Nat.le_refl _) _).alloc (by simp) _
  by_cases hn : l.length ≤ 64
  · have Hl : Hid (l.length ≤ 200000) := by show _ ≤ _; omega
    have hni : ¬ (64 : Int) < (nl : Int) := by omega
    clear hnl bl hn
    go_enter Try.func5, Try.ntmps5
    go_upto_region 1 with (fail)
    try simp only [World.size_alloc]
    generalize (w.alloc (.cells #[.int .i64 R.i, .int .u32 (R.s : Int), .int .i64 R.sl, .int .u32 (R.d : Int), .int .i64 R.dl, .int .u16 (R.p.1 : Int), .int .u16 (R.p.2 : Int), .int .u16 (R.q.1 : Int), .int .u16 (R.q.2 : Int), .int .u8 (R.m.1 : Int), .int .u8 (R.m.2 : Int), .int .i64 R.act] 60)).alloc (.cells #[.int .u32 (h.s : Int), .int .u32 (h.d : Int), .int .u16 (h.p : Int), .int .u16 (h.q : Int), .int .u8 (h.r : Int)] 28) = U0 at *
    go_wp2_with (go_at_call 17; fail)
    refine (example19 _).mono ?_
    rintro e U1 ⟨rfl, hb⟩
    have HB_1 : Hid (Below w.heap.size w U1) := HB_0.out.trans (Below.mono (hb) HB_0.out.size)
    have Kr_1 : Hid (U1.heap[w.heap.size]? = some (.cells #[.int .i64 R.i, .int .u32 (R.s : Int), .int .i64 R.sl, .int .u32 (R.d : Int), .int .i64 R.dl, .int .u16 (R.p.1 : Int), .int .u16 (R.p.2 : Int), .int .u16 (R.q.1 : Int), .int .u16 (R.q.2 : Int), .int .u8 (R.m.1 : Int), .int .u8 (R.m.2 : Int), .int .i64 R.act] 60 (0, 0))) := blk_on Kr_0.out (hb)
    have Kh_1 : Hid (U1.heap[w.heap.size + 1]? = some (.cells #[.int .u32 (h.s : Int), .int .u32 (h.d : Int), .int .u16 (h.p : Int), .int .u16 (h.q : Int), .int .u8 (h.r : Int)] 28 (0, 0))) := blk_on Kh_0.out (hb)
    clear HB_0 Kr_0 Kh_0
    clear hb
    go_upto_region 5 with (fail)
    try simp only [World.size_alloc]
    obtain ⟨U2, hUU⟩ : ∃ U, U = (U1.alloc (.cells #[.int .i64 64, .int .i64 1, .int .i64 100, .int .i64 100, .int .i64 100, .int .i64 4, .int .i64 8] 24)) := ⟨_, rfl⟩
    have hbU : Below U1.heap.size U1 U2 := by rw [hUU]; exact (Below.alloc (Below.refl _ _) (Nat.le_refl _) _)
    have Kc_n : U2.heap[U1.heap.size]? = some (.cells #[.int .i64 64, .int .i64 1, .int .i64 100, .int .i64 100, .int .i64 100, .int .i64 4, .int .i64 8] 24 (0, 0)) := by have := blk_new U1 (.cells #[.int .i64 64, .int .i64 1, .int .i64 100, .int .i64 100, .int .i64 100, .int .i64 4, .int .i64 8] 24); rw [← hUU] at this; simpa using this
    rw [← hUU]
    clear hUU
    have HB_2 : Hid (Below w.heap.size w U2) := HB_1.out.trans (Below.mono (hbU) HB_1.out.size)
    have Kr_2 : Hid (U2.heap[w.heap.size]? = some (.cells #[.int .i64 R.i, .int .u32 (R.s : Int), .int .i64 R.sl, .int .u32 (R.d : Int), .int .i64 R.dl, .int .u16 (R.p.1 : Int), .int .u16 (R.p.2 : Int), .int .u16 (R.q.1 : Int), .int .u16 (R.q.2 : Int), .int .u8 (R.m.1 : Int), .int .u8 (R.m.2 : Int), .int .i64 R.act] 60 (0, 0))) := blk_on Kr_1.out (hbU)
    have Kh_2 : Hid (U2.heap[w.heap.size + 1]? = some (.cells #[.int .u32 (h.s : Int), .int .u32 (h.d : Int), .int .u16 (h.p : Int), .int .u16 (h.q : Int), .int .u8 (h.r : Int)] 28 (0, 0))) := blk_on Kh_1.out (hbU)
    clear HB_1 Kr_1 Kh_1
    have Kc_2 : Hid (U2.heap[U1.heap.size]? = some (.cells #[.int .i64 64, .int .i64 1, .int .i64 100, .int .i64 100, .int .i64 100, .int .i64 4, .int .i64 8] 24 (0, 0))) := Kc_n
    clear Kc_n
    obtain ⟨Bc, hBc⟩ : ∃ B, B = U1.heap.size := ⟨_, rfl⟩
    rw [← hBc] at Kc_2 ⊢
    clear hbU hBc
    obtain ⟨q0, q1, q2, q3, q4, q5, q6⟩ := blk7 Kc_2.out
    go_wp2_with (go_at_call 8; fail)
    refine (newE eD eD_bd eD_ok _).mono ?_
    rintro er U3 ⟨X, rfl, hE, hX, hb⟩
    have WX : Hid (w.heap.size ≤ X) := Nat.le_trans HB_2.out.size hX
    have HB_3 : Hid (Below w.heap.size w U3) := HB_2.out.trans (Below.mono (hb) HB_2.out.size)
    have Kr_3 : Hid (U3.heap[w.heap.size]? = some (.cells #[.int .i64 R.i, .int .u32 (R.s : Int), .int .i64 R.sl, .int .u32 (R.d : Int), .int .i64 R.dl, .int .u16 (R.p.1 : Int), .int .u16 (R.p.2 : Int), .int .u16 (R.q.1 : Int), .int .u16 (R.q.2 : Int), .int .u8 (R.m.1 : Int), .int .u8 (R.m.2 : Int), .int .i64 R.act] 60 (0, 0))) := blk_on Kr_2.out (hb)
    have Kh_3 : Hid (U3.heap[w.heap.size + 1]? = some (.cells #[.int .u32 (h.s : Int), .int .u32 (h.d : Int), .int .u16 (h.p : Int), .int .u16 (h.q : Int), .int .u8 (h.r : Int)] 28 (0, 0))) := blk_on Kh_2.out (hb)
    have Kc_3 : Hid (U3.heap[Bc]? = some (.cells #[.int .i64 64, .int .i64 1, .int .i64 100, .int .i64 100, .int .i64 100, .int .i64 4, .int .i64 8] 24 (0, 0))) := blk_on Kc_2.out (hb)
    have HU2 : Hid (w.heap.size + 1 < U2.heap.size) := blk_lt Kh_2.out
    have HX2 : Hid (U2.heap.size ≤ X) := hX
    clear HB_2 Kr_2 Kh_2 Kc_2
    have EX_3 : Hid (Eng U3 X eD [] (fun _ => []) (fun k => U2.heap.size ≤ k ∧ k < X)) := hE
    clear hE hX hb
    clear q0 q1 q2 q3 q4 q5 q6
    obtain ⟨q0, q1, q2, q3, q4, q5, q6⟩ := blk7 Kc_3.out
    go_wp2_with (go_at_call 8; fail)
    refine (newE eD eD_bd eD_ok _).mono ?_
    rintro er U4 ⟨Y, rfl, hE, hX, hb⟩
    have MXY : Hid (X ≠ Y) := by have := EX_3.out.lt; show _ ≠ _; omega
    have MYX : Hid (Y ≠ X) := fun h => MXY.out h.symm
    have AYX : Hid (¬ (fun k => U3.heap.size ≤ k ∧ k < Y) X) := fun h => by have := EX_3.out.lt; have := h.1; omega
    have AXY : Hid (¬ (fun k => U2.heap.size ≤ k ∧ k < X) Y) := fun h => by have := EX_3.out.lt; have := h.2; omega
    have WY : Hid (w.heap.size ≤ Y) := Nat.le_trans HB_3.out.size hX
    have HB_4 : Hid (Below w.heap.size w U4) := HB_3.out.trans (Below.mono (hb) HB_3.out.size)
    have Kr_4 : Hid (U4.heap[w.heap.size]? = some (.cells #[.int .i64 R.i, .int .u32 (R.s : Int), .int .i64 R.sl, .int .u32 (R.d : Int), .int .i64 R.dl, .int .u16 (R.p.1 : Int), .int .u16 (R.p.2 : Int), .int .u16 (R.q.1 : Int), .int .u16 (R.q.2 : Int), .int .u8 (R.m.1 : Int), .int .u8 (R.m.2 : Int), .int .i64 R.act] 60 (0, 0))) := blk_on Kr_3.out (hb)
    have Kh_4 : Hid (U4.heap[w.heap.size + 1]? = some (.cells #[.int .u32 (h.s : Int), .int .u32 (h.d : Int), .int .u16 (h.p : Int), .int .u16 (h.q : Int), .int .u8 (h.r : Int)] 28 (0, 0))) := blk_on Kh_3.out (hb)
    have Kc_4 : Hid (U4.heap[Bc]? = some (.cells #[.int .i64 64, .int .i64 1, .int .i64 100, .int .i64 100, .int .i64 100, .int .i64 4, .int .i64 8] 24 (0, 0))) := blk_on Kc_3.out (hb)
    have EX_4 : Hid (Eng U4 X eD [] (fun _ => []) (fun k => U2.heap.size ≤ k ∧ k < X)) := EX_3.out.on (hb)
    have HX3 : Hid (X < U3.heap.size) := EX_3.out.lt
    have HY3 : Hid (U3.heap.size ≤ Y) := hX
    clear HB_3 Kr_3 Kh_3 Kc_3 EX_3
    have EY_4 : Hid (Eng U4 Y eD [] (fun _ => []) (fun k => U3.heap.size ≤ k ∧ k < Y)) := hE
    clear hE hX hb
    clear q0 q1 q2 q3 q4 q5 q6
    clear Kc_4
    have TW_4 : Hid (Two w U4 X Y eD (fun _ => []) [] [] [w.heap.size, w.heap.size + 1]) := by
      have e1 := HU2.out; have e2 := HX2.out; have e3 := HX3.out; have e4 := HY3.out; have e5 := EY_4.out.lt; have e6 := EX_4.out.lt
      refine ⟨⟨_, _, _, EX_4.out, EY_4.out, AXY.out, AYX.out, fun k a b => by omega, fun k a => by omega, fun k a => by omega, fun k hk => ?_⟩, MXY.out, WX.out, WY.out, HB_4.out⟩
      simp only [List.mem_cons, List.not_mem_nil, or_false] at hk
      rcases hk with rfl | rfl <;> exact ⟨by omega, by omega, by omega, by omega, by omega⟩
    clear EX_4 EY_4 AXY AYX MXY MYX WX WY HU2 HX2 HX3 HY3
    go_wp2_with (go_at_call 13; fail)
    obtain ⟨LF, hF⟩ := TW_4.out.flip
    refine (hF.set _ _ _ l (HS.out.keep HB_4.out) Hl.out Hb.out eD_bd (by decide)).mono ?_
    rintro er U5 ⟨rfl, hT, hK⟩
    have HB_5 : Hid (Below w.heap.size w U5) := hT.bel
    have Kr_5 : Hid (U5.heap[w.heap.size]? = some (.cells #[.int .i64 R.i, .int .u32 (R.s : Int), .int .i64 R.sl, .int .u32 (R.d : Int), .int .i64 R.dl, .int .u16 (R.p.1 : Int), .int .u16 (R.p.2 : Int), .int .u16 (R.q.1 : Int), .int .u16 (R.q.2 : Int), .int .u8 (R.m.1 : Int), .int .u8 (R.m.2 : Int), .int .i64 R.act] 60 (0, 0))) := by show _ = _; rw [hK _ (by simp)]; exact Kr_4.out
    have Kh_5 : Hid (U5.heap[w.heap.size + 1]? = some (.cells #[.int .u32 (h.s : Int), .int .u32 (h.d : Int), .int .u16 (h.p : Int), .int .u16 (h.q : Int), .int .u8 (h.r : Int)] 28 (0, 0))) := by show _ = _; rw [hK _ (by simp)]; exact Kh_4.out
    obtain ⟨LX, hTX⟩ := hT.flip
    have TW_5 : Hid (Two w U5 X Y eD LX (psetL eD l []) [] [w.heap.size, w.heap.size + 1]) := hTX
    clear hT hTX hF hK HB_4 Kr_4 Kh_4 TW_4
    go_wp2_with (go_at_call 13; fail)
    refine (TW_5.out.set _ _ _ l (HS.out.keep HB_5.out) Hl.out Hb.out eD_bd (by decide)).mono ?_
    rintro er U6 ⟨rfl, hT, hK⟩
    have HB_6 : Hid (Below w.heap.size w U6) := hT.bel
    have Kr_6 : Hid (U6.heap[w.heap.size]? = some (.cells #[.int .i64 R.i, .int .u32 (R.s : Int), .int .i64 R.sl, .int .u32 (R.d : Int), .int .i64 R.dl, .int .u16 (R.p.1 : Int), .int .u16 (R.p.2 : Int), .int .u16 (R.q.1 : Int), .int .u16 (R.q.2 : Int), .int .u8 (R.m.1 : Int), .int .u8 (R.m.2 : Int), .int .i64 R.act] 60 (0, 0))) := by show _ = _; rw [hK _ (by simp)]; exact Kr_5.out
    have Kh_6 : Hid (U6.heap[w.heap.size + 1]? = some (.cells #[.int .u32 (h.s : Int), .int .u32 (h.d : Int), .int .u16 (h.p : Int), .int .u16 (h.q : Int), .int .u8 (h.r : Int)] 28 (0, 0))) := by show _ = _; rw [hK _ (by simp)]; exact Kh_5.out
    have TW_6 : Hid (Two w U6 X Y eD LX (psetL eD l []) (psetL eD l []) [w.heap.size, w.heap.size + 1]) := hT
    clear hT hK HB_5 Kr_5 Kh_5 TW_5
    have hAsk := fun W M K2 (hT : Two w W X Y eD LX (psetL eD l []) M K2) => hT.ask h oh
    have hSta := fun W M K2 (hT : Two w W X Y eD LX (psetL eD l []) M K2) => hT.stats
    unfold vdV stC at hAsk
    unfold saC at hSta
    generalize (askR (psetL eD l []) LX h).tb = K at hAsk
    generalize (askR (psetL eD l []) LX h).pb = P at hAsk
    generalize (askR (psetL eD l []) LX h).ru = C at hAsk
    generalize vdH (mat (psetL eD l []) h) = vb at hAsk
    generalize vdI (psetL eD l []) (mat (psetL eD l []) h) = vi at hAsk
    generalize vdA eD.a (psetL eD l []) (mat (psetL eD l []) h) = va at hAsk
    generalize (allS (psetL eD l [])).length = T at hSta
    generalize maxS LX (tpsK (psetL eD l [])) = Q at hSta
    generalize (tpsK (psetL eD l [])).length = n at hSta
    obtain ⟨z0, z1, z2, z3, z4⟩ := blk5 Kh_6.out
    go_wp2_with (go_at_call 10; fail)
    refine (hAsk _ _ _ TW_6.out).mono ?_
    rintro e U7 ⟨rfl, hb⟩
    have HB_7 : Hid (Below w.heap.size w U7) := HB_6.out.trans (Below.mono (hb) HB_6.out.size)
    have Kr_7 : Hid (U7.heap[w.heap.size]? = some (.cells #[.int .i64 R.i, .int .u32 (R.s : Int), .int .i64 R.sl, .int .u32 (R.d : Int), .int .i64 R.dl, .int .u16 (R.p.1 : Int), .int .u16 (R.p.2 : Int), .int .u16 (R.q.1 : Int), .int .u16 (R.q.2 : Int), .int .u8 (R.m.1 : Int), .int .u8 (R.m.2 : Int), .int .i64 R.act] 60 (0, 0))) := blk_on Kr_6.out (hb)
    have Kh_7 : Hid (U7.heap[w.heap.size + 1]? = some (.cells #[.int .u32 (h.s : Int), .int .u32 (h.d : Int), .int .u16 (h.p : Int), .int .u16 (h.q : Int), .int .u8 (h.r : Int)] 28 (0, 0))) := blk_on Kh_6.out (hb)
    have TW_7 : Hid (Two w U7 X Y eD LX (psetL eD l []) (psetL eD l []) [w.heap.size, w.heap.size + 1]) := TW_6.out.on (hb)
    clear HB_6 Kr_6 Kh_6 TW_6
    clear hb z0 z1 z2 z3 z4
    go_upto_region 12 with (fail)
    try simp only [World.size_alloc]
    obtain ⟨U8, hUU⟩ : ∃ U, U = ((U7.alloc (.cells #[.bool vb, .int .i64 vi, .int .i64 va] 36)).alloc (.cells #[.int .i64 0, .int .i64 (C : Int), .int .i64 0, .int .i64 (K : Int), .int .i64 (P : Int)] 38)) := ⟨_, rfl⟩
    have hbU : Below U7.heap.size U7 U8 := by rw [hUU]; exact (Below.alloc (Below.alloc (Below.refl _ _) (Nat.le_refl _) _) (by simp <;> omega) _)
    have Kv_n : U8.heap[U7.heap.size]? = some (.cells #[.bool vb, .int .i64 vi, .int .i64 va] 36 (0, 0)) := by have := blk_alloc (blk_new U7 (.cells #[.bool vb, .int .i64 vi, .int .i64 va] 36)) (.cells #[.int .i64 0, .int .i64 (C : Int), .int .i64 0, .int .i64 (K : Int), .int .i64 (P : Int)] 38); rw [← hUU] at this; simpa using this
    have Ks_n : U8.heap[U7.heap.size + 1]? = some (.cells #[.int .i64 0, .int .i64 (C : Int), .int .i64 0, .int .i64 (K : Int), .int .i64 (P : Int)] 38 (0, 0)) := by have := blk_new (U7.alloc (.cells #[.bool vb, .int .i64 vi, .int .i64 va] 36)) (.cells #[.int .i64 0, .int .i64 (C : Int), .int .i64 0, .int .i64 (K : Int), .int .i64 (P : Int)] 38); rw [← hUU] at this; simpa using this
    rw [← hUU]
    clear hUU
    have HB_8 : Hid (Below w.heap.size w U8) := HB_7.out.trans (Below.mono (hbU) HB_7.out.size)
    have Kr_8 : Hid (U8.heap[w.heap.size]? = some (.cells #[.int .i64 R.i, .int .u32 (R.s : Int), .int .i64 R.sl, .int .u32 (R.d : Int), .int .i64 R.dl, .int .u16 (R.p.1 : Int), .int .u16 (R.p.2 : Int), .int .u16 (R.q.1 : Int), .int .u16 (R.q.2 : Int), .int .u8 (R.m.1 : Int), .int .u8 (R.m.2 : Int), .int .i64 R.act] 60 (0, 0))) := blk_on Kr_7.out (hbU)
    have Kh_8 : Hid (U8.heap[w.heap.size + 1]? = some (.cells #[.int .u32 (h.s : Int), .int .u32 (h.d : Int), .int .u16 (h.p : Int), .int .u16 (h.q : Int), .int .u8 (h.r : Int)] 28 (0, 0))) := blk_on Kh_7.out (hbU)
    have TW_8 : Hid (Two w U8 X Y eD LX (psetL eD l []) (psetL eD l []) [U7.heap.size + 1, U7.heap.size, w.heap.size, w.heap.size + 1]) := TW_7.out.news hbU [U7.heap.size + 1, U7.heap.size] (fun B hB => by
      have e1 := blk_lt Kv_n; have e2 := blk_lt Ks_n
      simp only [List.mem_cons, List.not_mem_nil, or_false] at hB
      rcases hB with rfl | rfl <;> omega)
    clear HB_7 Kr_7 Kh_7 TW_7
    have Kv_8 : Hid (U8.heap[U7.heap.size]? = some (.cells #[.bool vb, .int .i64 vi, .int .i64 va] 36 (0, 0))) := Kv_n
    clear Kv_n
    have Ks_8 : Hid (U8.heap[U7.heap.size + 1]? = some (.cells #[.int .i64 0, .int .i64 (C : Int), .int .i64 0, .int .i64 (K : Int), .int .i64 (P : Int)] 38 (0, 0))) := Ks_n
    clear Ks_n
    obtain ⟨Bs, hBs⟩ : ∃ B, B = U7.heap.size + 1 := ⟨_, rfl⟩
    rw [← hBs] at Ks_8 TW_8 ⊢
    obtain ⟨Bv, hBv⟩ : ∃ B, B = U7.heap.size := ⟨_, rfl⟩
    rw [← hBv] at Kv_8 TW_8 ⊢
    clear hbU hBv hBs
    go_wp2_with (go_at_call 12; fail)
    refine (hSta _ _ _ TW_8.out).mono ?_
    rintro e U9 ⟨rfl, hb⟩
    have HB_9 : Hid (Below w.heap.size w U9) := HB_8.out.trans (Below.mono (hb) HB_8.out.size)
    have Kr_9 : Hid (U9.heap[w.heap.size]? = some (.cells #[.int .i64 R.i, .int .u32 (R.s : Int), .int .i64 R.sl, .int .u32 (R.d : Int), .int .i64 R.dl, .int .u16 (R.p.1 : Int), .int .u16 (R.p.2 : Int), .int .u16 (R.q.1 : Int), .int .u16 (R.q.2 : Int), .int .u8 (R.m.1 : Int), .int .u8 (R.m.2 : Int), .int .i64 R.act] 60 (0, 0))) := blk_on Kr_8.out (hb)
    have Kh_9 : Hid (U9.heap[w.heap.size + 1]? = some (.cells #[.int .u32 (h.s : Int), .int .u32 (h.d : Int), .int .u16 (h.p : Int), .int .u16 (h.q : Int), .int .u8 (h.r : Int)] 28 (0, 0))) := blk_on Kh_8.out (hb)
    have Ks_9 : Hid (U9.heap[Bs]? = some (.cells #[.int .i64 0, .int .i64 (C : Int), .int .i64 0, .int .i64 (K : Int), .int .i64 (P : Int)] 38 (0, 0))) := blk_on Ks_8.out (hb)
    have Kv_9 : Hid (U9.heap[Bv]? = some (.cells #[.bool vb, .int .i64 vi, .int .i64 va] 36 (0, 0))) := blk_on Kv_8.out (hb)
    have TW_9 : Hid (Two w U9 X Y eD LX (psetL eD l []) (psetL eD l []) [Bs, Bv, w.heap.size, w.heap.size + 1]) := TW_8.out.on (hb)
    clear HB_8 Kr_8 Kh_8 Ks_8 Kv_8 TW_8
    clear hb
    go_upto_region 13 with (fail)
    try simp only [World.size_alloc]
    obtain ⟨U10, hUU⟩ : ∃ U, U = (U9.alloc (.cells #[.int .i64 0, .int .i64 (T : Int), .int .i64 (n : Int), .int .i64 (Q : Int)] 43)) := ⟨_, rfl⟩
    have hbU : Below U9.heap.size U9 U10 := by rw [hUU]; exact (Below.alloc (Below.refl _ _) (Nat.le_refl _) _)
    have Kt_n : U10.heap[U9.heap.size]? = some (.cells #[.int .i64 0, .int .i64 (T : Int), .int .i64 (n : Int), .int .i64 (Q : Int)] 43 (0, 0)) := by have := blk_new U9 (.cells #[.int .i64 0, .int .i64 (T : Int), .int .i64 (n : Int), .int .i64 (Q : Int)] 43); rw [← hUU] at this; simpa using this
    rw [← hUU]
    clear hUU
    have HB_10 : Hid (Below w.heap.size w U10) := HB_9.out.trans (Below.mono (hbU) HB_9.out.size)
    have Kr_10 : Hid (U10.heap[w.heap.size]? = some (.cells #[.int .i64 R.i, .int .u32 (R.s : Int), .int .i64 R.sl, .int .u32 (R.d : Int), .int .i64 R.dl, .int .u16 (R.p.1 : Int), .int .u16 (R.p.2 : Int), .int .u16 (R.q.1 : Int), .int .u16 (R.q.2 : Int), .int .u8 (R.m.1 : Int), .int .u8 (R.m.2 : Int), .int .i64 R.act] 60 (0, 0))) := blk_on Kr_9.out (hbU)
    have Kh_10 : Hid (U10.heap[w.heap.size + 1]? = some (.cells #[.int .u32 (h.s : Int), .int .u32 (h.d : Int), .int .u16 (h.p : Int), .int .u16 (h.q : Int), .int .u8 (h.r : Int)] 28 (0, 0))) := blk_on Kh_9.out (hbU)
    have Ks_10 : Hid (U10.heap[Bs]? = some (.cells #[.int .i64 0, .int .i64 (C : Int), .int .i64 0, .int .i64 (K : Int), .int .i64 (P : Int)] 38 (0, 0))) := blk_on Ks_9.out (hbU)
    have Kv_10 : Hid (U10.heap[Bv]? = some (.cells #[.bool vb, .int .i64 vi, .int .i64 va] 36 (0, 0))) := blk_on Kv_9.out (hbU)
    have TW_10 : Hid (Two w U10 X Y eD LX (psetL eD l []) (psetL eD l []) [U9.heap.size, Bs, Bv, w.heap.size, w.heap.size + 1]) := TW_9.out.new hbU (Nat.le_refl _) (blk_lt Kt_n)
    clear HB_9 Kr_9 Kh_9 Ks_9 Kv_9 TW_9
    have Kt_10 : Hid (U10.heap[U9.heap.size]? = some (.cells #[.int .i64 0, .int .i64 (T : Int), .int .i64 (n : Int), .int .i64 (Q : Int)] 43 (0, 0))) := Kt_n
    clear Kt_n
    obtain ⟨Bt, hBt⟩ : ∃ B, B = U9.heap.size := ⟨_, rfl⟩
    rw [← hBt] at Kt_10 TW_10 ⊢
    clear hbU hBt
    obtain ⟨y0, y1, y2, y3, y4, y5, y6, y7, y8, y9, y10, y11⟩ := blk12 Kr_10.out
    go_wp2_with (go_at_call 15; fail)
    refine (TW_10.out.ins 0 R bR eD_bd (by decide)).mono ?_
    rintro er U11 ⟨rfl, hT, hK⟩
    have HB_11 : Hid (Below w.heap.size w U11) := hT.bel
    have Kr_11 : Hid (U11.heap[w.heap.size]? = some (.cells #[.int .i64 R.i, .int .u32 (R.s : Int), .int .i64 R.sl, .int .u32 (R.d : Int), .int .i64 R.dl, .int .u16 (R.p.1 : Int), .int .u16 (R.p.2 : Int), .int .u16 (R.q.1 : Int), .int .u16 (R.q.2 : Int), .int .u8 (R.m.1 : Int), .int .u8 (R.m.2 : Int), .int .i64 R.act] 60 (0, 0))) := by show _ = _; rw [hK _ (by simp)]; exact Kr_10.out
    have Kh_11 : Hid (U11.heap[w.heap.size + 1]? = some (.cells #[.int .u32 (h.s : Int), .int .u32 (h.d : Int), .int .u16 (h.p : Int), .int .u16 (h.q : Int), .int .u8 (h.r : Int)] 28 (0, 0))) := by show _ = _; rw [hK _ (by simp)]; exact Kh_10.out
    have Ks_11 : Hid (U11.heap[Bs]? = some (.cells #[.int .i64 0, .int .i64 (C : Int), .int .i64 0, .int .i64 (K : Int), .int .i64 (P : Int)] 38 (0, 0))) := by show _ = _; rw [hK _ (by simp)]; exact Ks_10.out
    have Kv_11 : Hid (U11.heap[Bv]? = some (.cells #[.bool vb, .int .i64 vi, .int .i64 va] 36 (0, 0))) := by show _ = _; rw [hK _ (by simp)]; exact Kv_10.out
    have Kt_11 : Hid (U11.heap[Bt]? = some (.cells #[.int .i64 0, .int .i64 (T : Int), .int .i64 (n : Int), .int .i64 (Q : Int)] 43 (0, 0))) := by show _ = _; rw [hK _ (by simp)]; exact Kt_10.out
    have TW_11 : Hid (Two w U11 X Y eD LX (psetL eD l []) (pinL eD (psetL eD l []) 0 R) [Bt, Bs, Bv, w.heap.size, w.heap.size + 1]) := hT
    clear hT hK HB_10 Kr_10 Kh_10 Ks_10 Kv_10 Kt_10 TW_10
    clear y0 y1 y2 y3 y4 y5 y6 y7 y8 y9 y10 y11
    generalize pinE eD (psetL eD l []) 0 R = EE1 at *
    go_wp2_with (go_at_call 16; fail)
    refine (TW_11.out.del id).mono ?_
    rintro er U12 ⟨rfl, hT, hK⟩
    have HB_12 : Hid (Below w.heap.size w U12) := hT.bel
    have Kr_12 : Hid (U12.heap[w.heap.size]? = some (.cells #[.int .i64 R.i, .int .u32 (R.s : Int), .int .i64 R.sl, .int .u32 (R.d : Int), .int .i64 R.dl, .int .u16 (R.p.1 : Int), .int .u16 (R.p.2 : Int), .int .u16 (R.q.1 : Int), .int .u16 (R.q.2 : Int), .int .u8 (R.m.1 : Int), .int .u8 (R.m.2 : Int), .int .i64 R.act] 60 (0, 0))) := by show _ = _; rw [hK _ (by simp)]; exact Kr_11.out
    have Kh_12 : Hid (U12.heap[w.heap.size + 1]? = some (.cells #[.int .u32 (h.s : Int), .int .u32 (h.d : Int), .int .u16 (h.p : Int), .int .u16 (h.q : Int), .int .u8 (h.r : Int)] 28 (0, 0))) := by show _ = _; rw [hK _ (by simp)]; exact Kh_11.out
    have Ks_12 : Hid (U12.heap[Bs]? = some (.cells #[.int .i64 0, .int .i64 (C : Int), .int .i64 0, .int .i64 (K : Int), .int .i64 (P : Int)] 38 (0, 0))) := by show _ = _; rw [hK _ (by simp)]; exact Ks_11.out
    have Kv_12 : Hid (U12.heap[Bv]? = some (.cells #[.bool vb, .int .i64 vi, .int .i64 va] 36 (0, 0))) := by show _ = _; rw [hK _ (by simp)]; exact Kv_11.out
    have Kt_12 : Hid (U12.heap[Bt]? = some (.cells #[.int .i64 0, .int .i64 (T : Int), .int .i64 (n : Int), .int .i64 (Q : Int)] 43 (0, 0))) := by show _ = _; rw [hK _ (by simp)]; exact Kt_11.out
    have TW_12 : Hid (Two w U12 X Y eD LX (psetL eD l []) (delL (pinL eD (psetL eD l []) 0 R) id) [Bt, Bs, Bv, w.heap.size, w.heap.size + 1]) := hT
    clear hT hK HB_11 Kr_11 Kh_11 Ks_11 Kv_11 Kt_11 TW_11
    generalize delE (pinL eD (psetL eD l []) 0 R) id = EE2 at *
    go_wp2_with (go_at_call 13; fail)
    refine (TW_12.out.set _ _ _ [] (RowU.nil _ 0).src (by simp) (by simp) eD_bd (by decide)).mono ?_
    rintro er U13 ⟨rfl, hT, hK⟩
    have HB_13 : Hid (Below w.heap.size w U13) := hT.bel
    have Kr_13 : Hid (U13.heap[w.heap.size]? = some (.cells #[.int .i64 R.i, .int .u32 (R.s : Int), .int .i64 R.sl, .int .u32 (R.d : Int), .int .i64 R.dl, .int .u16 (R.p.1 : Int), .int .u16 (R.p.2 : Int), .int .u16 (R.q.1 : Int), .int .u16 (R.q.2 : Int), .int .u8 (R.m.1 : Int), .int .u8 (R.m.2 : Int), .int .i64 R.act] 60 (0, 0))) := by show _ = _; rw [hK _ (by simp)]; exact Kr_12.out
    have Kh_13 : Hid (U13.heap[w.heap.size + 1]? = some (.cells #[.int .u32 (h.s : Int), .int .u32 (h.d : Int), .int .u16 (h.p : Int), .int .u16 (h.q : Int), .int .u8 (h.r : Int)] 28 (0, 0))) := by show _ = _; rw [hK _ (by simp)]; exact Kh_12.out
    have Ks_13 : Hid (U13.heap[Bs]? = some (.cells #[.int .i64 0, .int .i64 (C : Int), .int .i64 0, .int .i64 (K : Int), .int .i64 (P : Int)] 38 (0, 0))) := by show _ = _; rw [hK _ (by simp)]; exact Ks_12.out
    have Kv_13 : Hid (U13.heap[Bv]? = some (.cells #[.bool vb, .int .i64 vi, .int .i64 va] 36 (0, 0))) := by show _ = _; rw [hK _ (by simp)]; exact Kv_12.out
    have Kt_13 : Hid (U13.heap[Bt]? = some (.cells #[.int .i64 0, .int .i64 (T : Int), .int .i64 (n : Int), .int .i64 (Q : Int)] 43 (0, 0))) := by show _ = _; rw [hK _ (by simp)]; exact Kt_12.out
    have TW_13 : Hid (Two w U13 X Y eD LX (psetL eD l []) (psetL eD [] (delL (pinL eD (psetL eD l []) 0 R) id)) [Bt, Bs, Bv, w.heap.size, w.heap.size + 1]) := hT
    clear hT hK HB_12 Kr_12 Kh_12 Ks_12 Kv_12 Kt_12 TW_12
    generalize psetE eD [] = EE3 at *
    obtain ⟨z0, z1, z2, z3, z4⟩ := blk5 Kh_13.out
    go_wp2_with (go_at_call 10; fail)
    refine (hAsk _ _ _ TW_13.out).mono ?_
    rintro e U14 ⟨rfl, hb⟩
    have HB_14 : Hid (Below w.heap.size w U14) := HB_13.out.trans (Below.mono (hb) HB_13.out.size)
    have Kr_14 : Hid (U14.heap[w.heap.size]? = some (.cells #[.int .i64 R.i, .int .u32 (R.s : Int), .int .i64 R.sl, .int .u32 (R.d : Int), .int .i64 R.dl, .int .u16 (R.p.1 : Int), .int .u16 (R.p.2 : Int), .int .u16 (R.q.1 : Int), .int .u16 (R.q.2 : Int), .int .u8 (R.m.1 : Int), .int .u8 (R.m.2 : Int), .int .i64 R.act] 60 (0, 0))) := blk_on Kr_13.out (hb)
    have Kh_14 : Hid (U14.heap[w.heap.size + 1]? = some (.cells #[.int .u32 (h.s : Int), .int .u32 (h.d : Int), .int .u16 (h.p : Int), .int .u16 (h.q : Int), .int .u8 (h.r : Int)] 28 (0, 0))) := blk_on Kh_13.out (hb)
    have Ks_14 : Hid (U14.heap[Bs]? = some (.cells #[.int .i64 0, .int .i64 (C : Int), .int .i64 0, .int .i64 (K : Int), .int .i64 (P : Int)] 38 (0, 0))) := blk_on Ks_13.out (hb)
    have Kv_14 : Hid (U14.heap[Bv]? = some (.cells #[.bool vb, .int .i64 vi, .int .i64 va] 36 (0, 0))) := blk_on Kv_13.out (hb)
    have Kt_14 : Hid (U14.heap[Bt]? = some (.cells #[.int .i64 0, .int .i64 (T : Int), .int .i64 (n : Int), .int .i64 (Q : Int)] 43 (0, 0))) := blk_on Kt_13.out (hb)
    have TW_14 : Hid (Two w U14 X Y eD LX (psetL eD l []) (psetL eD [] (delL (pinL eD (psetL eD l []) 0 R) id)) [Bt, Bs, Bv, w.heap.size, w.heap.size + 1]) := TW_13.out.on (hb)
    clear HB_13 Kr_13 Kh_13 Ks_13 Kv_13 Kt_13 TW_13
    clear hb z0 z1 z2 z3 z4
    go_upto_region 17 with (fail)
    try simp only [World.size_alloc]
    obtain ⟨U15, hUU⟩ : ∃ U, U = ((U14.alloc (.cells #[.bool vb, .int .i64 vi, .int .i64 va] 36)).alloc (.cells #[.int .i64 0, .int .i64 (C : Int), .int .i64 0, .int .i64 (K : Int), .int .i64 (P : Int)] 38)) := ⟨_, rfl⟩
    have hbU : Below U14.heap.size U14 U15 := by rw [hUU]; exact (Below.alloc (Below.alloc (Below.refl _ _) (Nat.le_refl _) _) (by simp <;> omega) _)
    have Kp_n : U15.heap[U14.heap.size]? = some (.cells #[.bool vb, .int .i64 vi, .int .i64 va] 36 (0, 0)) := by have := blk_alloc (blk_new U14 (.cells #[.bool vb, .int .i64 vi, .int .i64 va] 36)) (.cells #[.int .i64 0, .int .i64 (C : Int), .int .i64 0, .int .i64 (K : Int), .int .i64 (P : Int)] 38); rw [← hUU] at this; simpa using this
    have Kq_n : U15.heap[U14.heap.size + 1]? = some (.cells #[.int .i64 0, .int .i64 (C : Int), .int .i64 0, .int .i64 (K : Int), .int .i64 (P : Int)] 38 (0, 0)) := by have := blk_new (U14.alloc (.cells #[.bool vb, .int .i64 vi, .int .i64 va] 36)) (.cells #[.int .i64 0, .int .i64 (C : Int), .int .i64 0, .int .i64 (K : Int), .int .i64 (P : Int)] 38); rw [← hUU] at this; simpa using this
    rw [← hUU]
    clear hUU
    have HB_15 : Hid (Below w.heap.size w U15) := HB_14.out.trans (Below.mono (hbU) HB_14.out.size)
    have Kr_15 : Hid (U15.heap[w.heap.size]? = some (.cells #[.int .i64 R.i, .int .u32 (R.s : Int), .int .i64 R.sl, .int .u32 (R.d : Int), .int .i64 R.dl, .int .u16 (R.p.1 : Int), .int .u16 (R.p.2 : Int), .int .u16 (R.q.1 : Int), .int .u16 (R.q.2 : Int), .int .u8 (R.m.1 : Int), .int .u8 (R.m.2 : Int), .int .i64 R.act] 60 (0, 0))) := blk_on Kr_14.out (hbU)
    have Kh_15 : Hid (U15.heap[w.heap.size + 1]? = some (.cells #[.int .u32 (h.s : Int), .int .u32 (h.d : Int), .int .u16 (h.p : Int), .int .u16 (h.q : Int), .int .u8 (h.r : Int)] 28 (0, 0))) := blk_on Kh_14.out (hbU)
    have Ks_15 : Hid (U15.heap[Bs]? = some (.cells #[.int .i64 0, .int .i64 (C : Int), .int .i64 0, .int .i64 (K : Int), .int .i64 (P : Int)] 38 (0, 0))) := blk_on Ks_14.out (hbU)
    have Kv_15 : Hid (U15.heap[Bv]? = some (.cells #[.bool vb, .int .i64 vi, .int .i64 va] 36 (0, 0))) := blk_on Kv_14.out (hbU)
    have Kt_15 : Hid (U15.heap[Bt]? = some (.cells #[.int .i64 0, .int .i64 (T : Int), .int .i64 (n : Int), .int .i64 (Q : Int)] 43 (0, 0))) := blk_on Kt_14.out (hbU)
    have TW_15 : Hid (Two w U15 X Y eD LX (psetL eD l []) (psetL eD [] (delL (pinL eD (psetL eD l []) 0 R) id)) [Bt, Bs, Bv, w.heap.size, w.heap.size + 1]) := TW_14.out.on (hbU)
    clear HB_14 Kr_14 Kh_14 Ks_14 Kv_14 Kt_14 TW_14
    have Kp_15 : Hid (U15.heap[U14.heap.size]? = some (.cells #[.bool vb, .int .i64 vi, .int .i64 va] 36 (0, 0))) := Kp_n
    clear Kp_n
    have Kq_15 : Hid (U15.heap[U14.heap.size + 1]? = some (.cells #[.int .i64 0, .int .i64 (C : Int), .int .i64 0, .int .i64 (K : Int), .int .i64 (P : Int)] 38 (0, 0))) := Kq_n
    clear Kq_n
    obtain ⟨Bq, hBq⟩ : ∃ B, B = U14.heap.size + 1 := ⟨_, rfl⟩
    rw [← hBq] at Kq_15 ⊢
    obtain ⟨Bp, hBp⟩ : ∃ B, B = U14.heap.size := ⟨_, rfl⟩
    rw [← hBp] at Kp_15 ⊢
    clear hbU hBp hBq
    obtain ⟨v0, v1, v2⟩ := blk3 Kv_15.out
    obtain ⟨p0, p1, p2⟩ := blk3 Kp_15.out
    obtain ⟨s0, s1, s2, s3, s4⟩ := blk5 Ks_15.out
    obtain ⟨q0, q1, q2, q3, q4⟩ := blk5 Kq_15.out
    obtain ⟨t0, t1, t2, t3⟩ := blk4 Kt_15.out
    have lv := blk_lt Kv_15.out
    have ls := blk_lt Ks_15.out
    have lp := blk_lt Kp_15.out
    have lq := blk_lt Kq_15.out
    have lt := blk_lt Kt_15.out
    generalize psetE eD l = EE0 at *
    have HEX : Hid (∀ W, Below U15.heap.size U15 W → Two w W X Y eD LX (psetL eD l []) (psetL eD [] (delL (pinL eD (psetL eD l []) 0 R) id)) [Bt, Bs, Bv, w.heap.size, w.heap.size + 1]) := fun W hb => TW_15.out.on hb
    have kne : Nonempty (Kin (U15)) := ⟨⟨_, Below.refl _ _⟩⟩
    have kc0 : ∀ y : Kin (U15), y.val.cell? ⟨Bv, 0, none⟩ = some (.bool vb) := fun y => by rw [kin_cell (by first | omega | (simp <;> omega))]; first | assumption | (simp [go_sem]; done) | simp [go_sem, *]
    have kc1 : ∀ y : Kin (U15), y.val.cell? ⟨Bv, 1, none⟩ = some (.int .i64 vi) := fun y => by rw [kin_cell (by first | omega | (simp <;> omega))]; first | assumption | (simp [go_sem]; done) | simp [go_sem, *]
    have kc2 : ∀ y : Kin (U15), y.val.cell? ⟨Bv, 2, none⟩ = some (.int .i64 va) := fun y => by rw [kin_cell (by first | omega | (simp <;> omega))]; first | assumption | (simp [go_sem]; done) | simp [go_sem, *]
    have kc3 : ∀ y : Kin (U15), y.val.cell? ⟨Bp, 0, none⟩ = some (.bool vb) := fun y => by rw [kin_cell (by first | omega | (simp <;> omega))]; first | assumption | (simp [go_sem]; done) | simp [go_sem, *]
    have kc4 : ∀ y : Kin (U15), y.val.cell? ⟨Bp, 1, none⟩ = some (.int .i64 vi) := fun y => by rw [kin_cell (by first | omega | (simp <;> omega))]; first | assumption | (simp [go_sem]; done) | simp [go_sem, *]
    have kc5 : ∀ y : Kin (U15), y.val.cell? ⟨Bp, 2, none⟩ = some (.int .i64 va) := fun y => by rw [kin_cell (by first | omega | (simp <;> omega))]; first | assumption | (simp [go_sem]; done) | simp [go_sem, *]
    have kc6 : ∀ y : Kin (U15), y.val.cell? ⟨Bs, 0, none⟩ = some (.int .i64 0) := fun y => by rw [kin_cell (by first | omega | (simp <;> omega))]; first | assumption | (simp [go_sem]; done) | simp [go_sem, *]
    have kc7 : ∀ y : Kin (U15), y.val.cell? ⟨Bs, 1, none⟩ = some (.int .i64 (C : Int)) := fun y => by rw [kin_cell (by first | omega | (simp <;> omega))]; first | assumption | (simp [go_sem]; done) | simp [go_sem, *]
    have kc8 : ∀ y : Kin (U15), y.val.cell? ⟨Bs, 2, none⟩ = some (.int .i64 0) := fun y => by rw [kin_cell (by first | omega | (simp <;> omega))]; first | assumption | (simp [go_sem]; done) | simp [go_sem, *]
    have kc9 : ∀ y : Kin (U15), y.val.cell? ⟨Bs, 3, none⟩ = some (.int .i64 (K : Int)) := fun y => by rw [kin_cell (by first | omega | (simp <;> omega))]; first | assumption | (simp [go_sem]; done) | simp [go_sem, *]
    have kc10 : ∀ y : Kin (U15), y.val.cell? ⟨Bs, 4, none⟩ = some (.int .i64 (P : Int)) := fun y => by rw [kin_cell (by first | omega | (simp <;> omega))]; first | assumption | (simp [go_sem]; done) | simp [go_sem, *]
    have kc11 : ∀ y : Kin (U15), y.val.cell? ⟨Bq, 0, none⟩ = some (.int .i64 0) := fun y => by rw [kin_cell (by first | omega | (simp <;> omega))]; first | assumption | (simp [go_sem]; done) | simp [go_sem, *]
    have kc12 : ∀ y : Kin (U15), y.val.cell? ⟨Bq, 1, none⟩ = some (.int .i64 (C : Int)) := fun y => by rw [kin_cell (by first | omega | (simp <;> omega))]; first | assumption | (simp [go_sem]; done) | simp [go_sem, *]
    have kc13 : ∀ y : Kin (U15), y.val.cell? ⟨Bq, 2, none⟩ = some (.int .i64 0) := fun y => by rw [kin_cell (by first | omega | (simp <;> omega))]; first | assumption | (simp [go_sem]; done) | simp [go_sem, *]
    have kc14 : ∀ y : Kin (U15), y.val.cell? ⟨Bq, 3, none⟩ = some (.int .i64 (K : Int)) := fun y => by rw [kin_cell (by first | omega | (simp <;> omega))]; first | assumption | (simp [go_sem]; done) | simp [go_sem, *]
    have kc15 : ∀ y : Kin (U15), y.val.cell? ⟨Bq, 4, none⟩ = some (.int .i64 (P : Int)) := fun y => by rw [kin_cell (by first | omega | (simp <;> omega))]; first | assumption | (simp [go_sem]; done) | simp [go_sem, *]
    have kc16 : ∀ y : Kin (U15), y.val.cell? ⟨Bt, 0, none⟩ = some (.int .i64 0) := fun y => by rw [kin_cell (by first | omega | (simp <;> omega))]; first | assumption | (simp [go_sem]; done) | simp [go_sem, *]
    have kc17 : ∀ y : Kin (U15), y.val.cell? ⟨Bt, 1, none⟩ = some (.int .i64 (T : Int)) := fun y => by rw [kin_cell (by first | omega | (simp <;> omega))]; first | assumption | (simp [go_sem]; done) | simp [go_sem, *]
    have kc18 : ∀ y : Kin (U15), y.val.cell? ⟨Bt, 2, none⟩ = some (.int .i64 (n : Int)) := fun y => by rw [kin_cell (by first | omega | (simp <;> omega))]; first | assumption | (simp [go_sem]; done) | simp [go_sem, *]
    have kc19 : ∀ y : Kin (U15), y.val.cell? ⟨Bt, 3, none⟩ = some (.int .i64 (Q : Int)) := fun y => by rw [kin_cell (by first | omega | (simp <;> omega))]; first | assumption | (simp [go_sem]; done) | simp [go_sem, *]
    refine wp_region_kin (U15) (Below.refl _ _) (by kernel_rfl) (by kernel_rfl) ?_
    repeat (go_big_quiet_step (first | (go_at_call 9; exact kin_call (awake19 _)) | (go_at_call 12; exact kin_call (hSta _ _ _ (HEX.out _ (Kin.is _))))))
    refine wpQuiet_nil ?_
    rintro wq ⟨⟨xq, hxq⟩, hyq⟩
    have hq : Below (U15).heap.size (U15) wq := by rw [hyq]; exact hxq
    clear hyq hxq xq
    clear kne kc0 kc1 kc2 kc3 kc4 kc5 kc6 kc7 kc8 kc9 kc10 kc11 kc12 kc13 kc14 kc15 kc16 kc17 kc18 kc19
    obtain ⟨hcq, hfq⟩ := bcell hq
    have hzq := hq.size
    try simp at hzq
    go_wp2_with (fail)
    go_ret
    exact ⟨rfl, HB_15.out.trans (Below.mono hq HB_15.out.size)⟩
  · have hni : (64 : Int) < (nl : Int) := by omega
    clear hnl bl hn
    go_enter Try.func5, Try.ntmps5
    go_wp2_with (fail)
    go_ret
    exact ⟨rfl, HB_0.out⟩

set_option maxRecDepth 100000 in
theorem tupleApart_lifted (os : Os) (started : os.Started) (H : Type) (enc : TypeId × Value → H) :
    ReturnsInHanded {} Try.checked os 5 .any (Rows.tupleApartSpec.pre6 enc Try.prog Try.f5 Rows.tupleApartRow.domain false) (Rows.tupleApartSpec.post enc Try.prog Try.f5 false true false false) := by
  refine returnsInHanded_of_change (C := Try.checked) own started (by kernel_rfl) Try.func5
    (ChangeSpec.witness6 (enc := enc) (C := Try.checked) false ⟨#[], #[.slice none 0 0, .agg #[.int .i64 0, .int .u32 0, .int .i64 0, .int .u32 0, .int .i64 0, .int .u16 0, .int .u16 0, .int .u16 0, .int .u16 0, .int .u8 0, .int .u8 0, .int .i64 0], .int .i64 0, .agg #[.int .u32 0, .int .u32 0, .int .u16 0, .int .u16 0, .int .u8 0]], []⟩ 8 (by kernel_rfl) (by kernel_rfl) (by kernel_rfl) (by kernel_rfl)) ?_
  intro W base args ds gs before hval0 hW hcnd _
  have hval : ∀ (j : Nat) t v, Try.f5.params[j]? = some t → args[j]? = some v → Value.okWide Try.prog W .any base t v := hval0
  have hW' := hW
  obtain ⟨p, q, hA0, hV, rfl, hfz, hnd⟩ := hW
  have hA : DataW.TrodAll enc Try.prog W 0 (fun _ => true) true Try.f5.params.toList args.toList ds p := hA0
  rw [Try.params5] at hA hval
  obtain ⟨v0, vs0, d0, ds0, p0, q0, hargs, rfl, rfl, h0, r0⟩ := trodAll_cons hA
  obtain ⟨v1, vs1, d1, ds1, p1, q1, rfl, rfl, rfl, h1, r1⟩ := trodAll_cons r0
  obtain ⟨v2, vs2, d2, ds2, p2, q2, rfl, rfl, rfl, h2, r2⟩ := trodAll_cons r1
  obtain ⟨v3, vs3, d3, ds3, p3, q3, rfl, rfl, rfl, h3, r3⟩ := trodAll_cons r2
  obtain ⟨rfl, rfl, rfl⟩ := trodAll_nil r3
  obtain rfl : args = #[v0, v1, v2, v3] := by cases args; simp_all
  obtain ⟨rfl, rfl⟩ := trodVars_none hV
  have hlt0 : ∀ x ∈ p0, x.block < W.heap.size := fun x hx => by simpa using hW'.lt x (by simp [hx])
  obtain ⟨l0, s0, bd0⟩ := open_rus (hval 0 46 v0 rfl rfl) h0
  have hlt1 : ∀ x ∈ p1, x.block < W.heap.size := fun x hx => by simpa using hW'.lt x (by simp [hx])
  obtain ⟨g1, rfl, o1⟩ := open_ru (hval 1 60 v1 rfl rfl) h1
  have hlt2 : ∀ x ∈ p2, x.block < W.heap.size := fun x hx => by simpa using hW'.lt x (by simp [hx])
  obtain ⟨a2, rfl, _, _, w2⟩ := open_int Try.underlying3 (hval 2 3 v2 rfl rfl) h2
  have hlt3 : ∀ x ∈ p3, x.block < W.heap.size := fun x hx => by simpa using hW'.lt x (by simp [hx])
  obtain ⟨g3, rfl, o3⟩ := open_hd (hval 3 28 v3 rfl rfl) h3
  clear hA0 hval0
  simp only [List.append_nil] at hW'
  refine (tupleApart_walk l0 v0 bd0 g1 o1 a2 w2 g3 o3 W s0).mono fun e W' ⟨he, bel⟩ => ?_
  subst he
  exact ⟨_, rfl, _, _, _, [], _, [], hW', trodAll_mk1 (shut_bool Try.underlying4 _), (trodAll_cons_mk (Below.trod laidOut (by kernel_rfl) (of_decide_eq_true (by kernel_rfl)) h0 bel hlt0) (trodAll_cons_mk (Below.trod laidOut (by kernel_rfl) (of_decide_eq_true (by kernel_rfl)) h1 bel hlt1) (trodAll_cons_mk (Below.trod laidOut (by kernel_rfl) (of_decide_eq_true (by kernel_rfl)) h2 bel hlt2) (trodAll_cons_mk (Below.trod laidOut (by kernel_rfl) (of_decide_eq_true (by kernel_rfl)) h3 bel hlt3) trodAll_mk0)))), rfl, bel.frame _, fun h => by cases h⟩

/-- The given statement. -/
theorem tupleApart_holds : Rows.TupleApartSaid :=
  OpenClaim.holds_of_wide 5 Try.f5 rfl rfl rfl rfl rfl rfl rfl ⟨rfl, rfl, rfl, rfl, rfl⟩ rfl rfl rfl rfl rfl (by kernel_rfl) Try.func5 (by kernel_rfl)
    (of_decide_eq_true (by kernel_rfl)) (by unfold Func.isWrapper; first | (rw [if_pos (by decide +kernel)]; kernel_rfl) | (rw [if_neg (by decide +kernel)]; exact ⟨rfl, rfl⟩))
    (fun os started H enc _ => tupleApart_lifted os started H enc)
#print axioms tupleApart_holds
end Go.Proofs.Ytfpmljgmfapoiaa
