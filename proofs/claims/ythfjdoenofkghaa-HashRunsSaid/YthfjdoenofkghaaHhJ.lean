/-
  The iterator that (*Table).All hands back.
-/
import Derived.Test.YthfjdoenofkghaaHhV
import Derived.Test.YthfjdoenofkghaaHhI
namespace Go.Proofs.Ythfjdoenofkghaa
open Go.RowKit Go.Shelf
set_option linter.unusedVariables false
set_option linter.unusedSimpArgs false
attribute [local go_sem] Oper.semAt_some

def encD (x : Ey) : Array Value := #[.agg #[.int .u32 ((x.k).s : Int), .int .u32 ((x.k).d : Int), .int .u16 ((x.k).p : Int), .int .u16 ((x.k).q : Int), .int .u8 ((x.k).r : Int)], .int .i64 x.v]
theorem grown_of_below {w w' : World} (h : Below w.heap.size w w') : w.grownBy w' none := ⟨h.os, h.tape, h.output, h.size, fun k hk _ => h.block k hk⟩
theorem rowL_rk {B g n cap : Nat} {U : World → Nat → Prop} {V V' : World} {r : List SlI} (h : RowL V B (.slice (some ⟨g, 0, none⟩) n cap) r) (hk : RK B U V V') (hu : ¬ U V g) : RowL V' B (.slice (some ⟨g, 0, none⟩) n cap) r := by
  refine ⟨h.1, ?_⟩
  rcases h.2 with h2 | ⟨g', cap', cur, e, hb, hh, q⟩
  · exact .inl h2
  · cases e
    exact .inr ⟨g, cap, cur, rfl, hb, by rw [hk.2.1 g hb (blk_lt hh) hu]; exact hh, q⟩
theorem take_snoc {D : List Ey} {k : Nat} {x : Ey} (h : D[k]? = some x) : D.take k ++ [x] = D.take (k + 1) := by
  rw [List.take_add_one, h]; rfl
set_option maxRecDepth 100000 in
set_option maxHeartbeats 4000000 in
theorem all1_seq (t : Nat) (v : Value) (M c P : Nat) (m : Hd → Option Int) (D : List Ey) (Bt : Nat) (w : World) (hT : Tb w t v M c P m) (hD : Tells m D) (hC : w.heap[Bt]? = some (.cells #[.pointer (some ⟨t, 0, none⟩)] 22)) :
    SeqX Fence.wide Try.prog 28 #[.pointer (some ⟨Bt, 0, none⟩)] encD (fun _ _ => True) (fun ys => ys = D) (fun pre => pre <+: D) D.length w := by
  intro l mm U J Jx W hW hl hU hUW hJ hJx hY h0
  have y1 := blk_cell (blk_on hC hW) (j := 0) rfl
  have hris := risingC t v M c P m W (hT.on hW)
  have HD : Hid (Tells m D) := hD
  have HJo : Hid (OwnFrom W.heap.size J) := hJ
  have HU : Hid (Stab W.heap.size U) := hU
  have HUW : Hid (∀ k, U W k → k < W.heap.size) := hUW
  have HcM : Hid (c ≤ 65536) := by obtain ⟨_, _, _, _, _, _, _, a, b, d⟩ := hT; show _ ≤ _; omega
  clear hT hD hC hJ hU hUW hJx
  refine callsIn_of_wp Try.func28 rfl trivial ?_ rfl
  simp only [Try.ntmps28, List.size_toArray, List.length_cons, List.length_nil, Nat.reduceAdd, Nat.reduceSub, Array.replicate_succ, Array.replicate_zero, List.push_toArray, List.append_toArray, List.nil_append, List.cons_append]
  gi_wp2_with (fail)
  refine ⟨trivial, fun h => (by simp [Fence.wide] at h), ?_⟩
  refine (callsIn_wide.2 hris).mono ?_
  rintro e W1 ⟨g, cap, r, rfl, hr, htl, hlen, hb⟩
  have hDr : r.map eyOf = D := htl.uniq HD.out
  have HDr : Hid (r.map eyOf = D) := hDr
  obtain ⟨hge, hgl⟩ := hr.lt g rfl
  have HU1 : Hid (¬ U W1 g) := fun h => by
    have := HUW.out g (HU.out W W1 none g (Nat.le_refl _) (grown_of_below hb) (fun r e => by cases e) h)
    omega
  have HJ1 : Hid (J [] W1) := HJo.out _ _ _ none h0 (grown_of_below hb) (fun r e => by cases e)
  have hz1 := hb.size
  obtain ⟨n, hn⟩ : ∃ n, n = r.length := ⟨_, rfl⟩
  have Hn : Hid (n = r.length) := hn
  have HDl : Hid (D.length = n) := by show _ = _; rw [← hDr, List.length_map, hn]
  rw [← hn] at hr hlen ⊢
  have HR1 : Hid (RowL W1 W.heap.size (.slice (some ⟨g, 0, none⟩) n cap) r) := hr
  have hn0 : (n : Int) ≤ 65536 := by have := HcM.out; omega
  have Hge : Hid (W.heap.size ≤ g) := hge
  clear hris htl hDr hr hlen hn h0 hgl hge
  gi_wp2_with (fail)
  gi_loopw [10] (fun i wr => ∃ k : Nat, k ≤ n ∧ i = .int .i64 (k : Int) ∧ W.heap.size ≤ wr.heap.size ∧ Hid (RowL wr W.heap.size (.slice (some ⟨g, 0, none⟩) n cap) r) ∧ Hid (¬ U wr g) ∧ Hid (J (D.take k) wr)) (fun i _ => n - (intOf i).toNat)
  case atStart => exact ⟨0, Nat.zero_le _, rfl, hz1, HR1.out, HU1.out, HJ1.out⟩
  case round =>
    clear y1 HR1 HU1 HJ1
    obtain ⟨k, hk, rfl, hzW, HR, HUr, HJs⟩ := hrel
    by_cases hlt : k < n
    · obtain ⟨s, hs⟩ : ∃ s, r[k]? = some s := ⟨_, List.getElem?_eq_getElem (by rw [← Hn.out]; exact hlt)⟩
      have hDk : D[k]? = some (eyOf s) := by rw [← HDr.out, List.getElem?_map, hs]; rfl
      have HA : Hid (D.take k ++ [eyOf s] = D.take (k + 1)) := take_snoc hDk
      obtain ⟨d0, d1, d2, d3, d4, d5, d6⟩ := rowL_at HR.out hs
      have hlt' : (k : Int) < (n : Int) := by omega
      have hix2 : ¬ n ≤ k := by omega
      have hgx : g < wr.heap.size := World.block_lt_of_cell? _ _ d0
      have hne : ¬ g = wr.heap.size := by omega
      have hbA : Below wr.heap.size wr (wr.alloc (.cells #[.int .i64 (s.st : Int), .int .u32 (s.k.s : Int), .int .u32 (s.k.d : Int), .int .u16 (s.k.p : Int), .int .u16 (s.k.q : Int), .int .u8 (s.k.r : Int), .int .i64 s.v] 72)) := (Below.refl _ _).alloc (Nat.le_refl _) _
      have hJ2 : J (D.take k) (wr.alloc (.cells #[.int .i64 (s.st : Int), .int .u32 (s.k.s : Int), .int .u32 (s.k.d : Int), .int .u16 (s.k.p : Int), .int .u16 (s.k.q : Int), .int .u8 (s.k.r : Int), .int .i64 s.v] 72)) := HJo.out _ _ _ none HJs.out (grown_of_below hbA) (fun r e => by cases e)
      have hU2 : ¬ U (wr.alloc (.cells #[.int .i64 (s.st : Int), .int .u32 (s.k.s : Int), .int .u32 (s.k.d : Int), .int .u16 (s.k.p : Int), .int .u16 (s.k.q : Int), .int .u8 (s.k.r : Int), .int .i64 s.v] 72)) g := fun h => HUr.out (HU.out wr _ none g hzW (grown_of_below hbA) (fun r e => by cases e) h)
      have hlen : (D.take k).length < D.length := by rw [HDl.out, List.length_take, HDl.out]; omega
      have hzA : W.heap.size ≤ (wr.alloc (.cells #[.int .i64 (s.st : Int), .int .u32 (s.k.s : Int), .int .u32 (s.k.d : Int), .int .u16 (s.k.p : Int), .int .u16 (s.k.q : Int), .int .u8 (s.k.r : Int), .int .i64 s.v] 72)).heap.size := by simp; omega
      obtain ⟨fn, tmps, assign, body, hy, hR⟩ := hY (mm - 1) _ (eyOf s) _ hJ2 hlen hzA
      have HR2 : Hid (RowL (wr.alloc (.cells #[.int .i64 (s.st : Int), .int .u32 (s.k.s : Int), .int .u32 (s.k.d : Int), .int .u16 (s.k.p : Int), .int .u16 (s.k.q : Int), .int .u8 (s.k.r : Int), .int .i64 s.v] 72)) W.heap.size (.slice (some ⟨g, 0, none⟩) n cap) r) := HR.out.alloc _
      have HU2 : Hid (¬ U (wr.alloc (.cells #[.int .i64 (s.st : Int), .int .u32 (s.k.s : Int), .int .u32 (s.k.d : Int), .int .u16 (s.k.p : Int), .int .u16 (s.k.q : Int), .int .u8 (s.k.r : Int), .int .i64 s.v] 72)) g) := hU2
      change (Instr.yield l #[.agg #[.int .u32 ((s.k).s : Int), .int .u32 ((s.k).d : Int), .int .u16 ((s.k).p : Int), .int .u16 ((s.k).q : Int), .int .u8 ((s.k).r : Int)], .int .i64 s.v]).run Try.prog _ = _ at hy
      clear hJ2 HJs HR HUr hU2 hlen hDk hs hbA
      gi_wp2_with (fail)
      refine ⟨fun h => (by simp [Fence.wide] at h), ?_⟩
      refine hR.mono ?_
      rintro e W3 ⟨hrk, ⟨rfl, hJ3, _⟩ | ⟨rfl, hJx3⟩⟩
      · have HR3 : Hid (RowL W3 W.heap.size (.slice (some ⟨g, 0, none⟩) n cap) r) := rowL_rk HR2.out hrk HU2.out
        have HU3 : Hid (¬ U W3 g) := fun h => by
          rcases hrk.2.2 g h with q | q
          · exact HU2.out q
          · simp at q; omega
        have hz4 := hrk.1.size
        simp at hz4
        have hzW3 : W.heap.size ≤ W3.heap.size := by omega
        rw [HA.out] at hJ3
        have HJ3 : Hid (J (D.take (k + 1)) W3) := hJ3
        clear hy hR hrk hJ3 d0 d1 d2 d3 d4 d5 d6 HR2 HU2
        gi_wp2
        go_roundw
        case rel => exact ⟨k + 1, by omega, by go_num, hzW3, HR3.out, HU3.out, HJ3.out⟩
        case measure => simp [intOf]; omega
      · rw [HA.out] at hJx3
        have HJ3 : Hid (Jx (D.take (k + 1)) W3) := hJx3
        clear hy hR hrk hJx3 d0 d1 d2 d3 d4 d5 d6 HR2 HU2
        gi_wp2
        refine bodyPost_ret (results_none rfl _ _ _) rfl ?_
        exact ⟨⟨_, rfl⟩, _root_.Or.inr ⟨D.take (k + 1), List.take_prefix _ _, HJ3.out⟩⟩
    · obtain rfl : k = n := by omega
      gi_wp2
      go_end0
      have e : D.take k = D := List.take_of_length_le (by rw [HDl.out]; exact Nat.le_refl _)
      have := HJs.out
      rw [e] at this
      exact ⟨⟨_, rfl⟩, _root_.Or.inl ⟨_, rfl, this⟩⟩
end Go.Proofs.Ythfjdoenofkghaa
