/-
  PkBA: CtG, one behind the other (tools/pack.py).
-/
import Derived.Test.YtgokmkholjfhbaaGreatPkAQ
import Derived.Test.YtgokmkholjfhbaaGreatPkAE
set_option linter.unusedVariables false
set_option linter.unusedSimpArgs false
namespace Go.Proofs.YtgokmkholjfhbaaGreat
open Go.RowKit
structure Nv where
 x : Xb.Bx
 k : Option Addr
 ad : Option Addr
 n : Nat
 cap : Nat
def zeroY : Xb.Bx := ⟨(0, 0), (0, 0), (0, 0), (0, 0), (0, 0)⟩
def Nd (bn : Nat) (W : World) (b : Nat) : Nat → Part → Nv → Prop
 | 0, P, q => q.x = zeroY ∧ q.k = none ∧ RowI W b (.slice q.ad q.n q.cap) (ofN (plcP P))
 | d + 1, P, q => if P.2.length ≤ bn then q.x = zeroY ∧ q.k = none ∧ RowI W b (.slice q.ad q.n q.cap) (ofN (plcP P)) else
  q.x = (bestP P).1.1 ∧ q.ad = none ∧ q.n = 0 ∧ q.cap = 0 ∧ ∃ (K : Nat) (q1 q2 : Nv), q.k = some ⟨K, 0, none⟩ ∧ b ≤ K ∧ W.heap[K]? = some (.cells #[.int .u32 q1.x.a.1, .int .u32 q1.x.a.2, .int .u32 q1.x.b.1, .int .u32 q1.x.b.2, .int .u16 q1.x.c.1, .int .u16 q1.x.c.2, .int .u16 q1.x.d.1, .int .u16 q1.x.d.2, .int .u8 q1.x.m.1, .int .u8 q1.x.m.2, .pointer q1.k, .slice q1.ad q1.n q1.cap, .int .u32 q2.x.a.1, .int .u32 q2.x.a.2, .int .u32 q2.x.b.1, .int .u32 q2.x.b.2, .int .u16 q2.x.c.1, .int .u16 q2.x.c.2, .int .u16 q2.x.d.1, .int .u16 q2.x.d.2, .int .u8 q2.x.m.1, .int .u8 q2.x.m.2, .pointer q2.k, .slice q2.ad q2.n q2.cap] 111) ∧ Nd bn W b d (bestP P).1 q1 ∧ Nd bn W b d (bestP P).2 q2
theorem rowI_stay {w w' : World} {b : Nat} {v : Value} {l : List Int} (h : RowI w b v l) (hb : ∀ k, b ≤ k → k < w.heap.size → w'.heap[k]? = w.heap[k]?) : RowI w' b v l := by
 refine ⟨h.1, ?_⟩
 rcases h.2 with h2 | ⟨g, cap, cur, hvv, hg, hh, r⟩
 ·exact .inl h2
 ·exact .inr ⟨g, cap, cur, hvv, hg, by rw [hb g hg (blk_lt hh)]; exact hh, r⟩
theorem Nd.stay {bn : Nat} {W W1 : World} {b : Nat} (hb : ∀ k, b ≤ k → k < W.heap.size → W1.heap[k]? = W.heap[k]?) : ∀ {d : Nat} {P : Part} {q : Nv}, Nd bn W b d P q → Nd bn W1 b d P q
 | 0, P, q, h => ⟨h.1, h.2.1, rowI_stay h.2.2 hb⟩
 | d + 1, P, q, h => by
  unfold Nd at h ⊢
  split at h
  ·rename_i e; rw [if_pos e]; exact ⟨h.1, h.2.1, rowI_stay h.2.2 hb⟩
  ·rename_i e
   rw [if_neg e]
   obtain ⟨h1, h2, h3, h4, K, q1, q2, h5, h6, h7, h8, h9⟩ := h
   exact ⟨h1, h2, h3, h4, K, q1, q2, h5, h6, by rw [hb K h6 (blk_lt h7)]; exact h7, Nd.stay hb h8, Nd.stay hb h9⟩
theorem Nd.on {bn : Nat} {W W1 : World} {b d : Nat} {P : Part} {q : Nv} (h : Nd bn W b d P q) (hb : Below W.heap.size W W1) : Nd bn W1 b d P q := h.stay (fun k _ hk => hb.block k hk)
theorem Nd.base {bn : Nat} {W : World} {b b' : Nat} (hb : b' ≤ b) : ∀ {d : Nat} {P : Part} {q : Nv}, Nd bn W b d P q → Nd bn W b' d P q
 | 0, P, q, h => ⟨h.1, h.2.1, h.2.2.base hb⟩
 | d + 1, P, q, h => by
  unfold Nd at h ⊢
  split at h
  ·rename_i e; rw [if_pos e]; exact ⟨h.1, h.2.1, h.2.2.base hb⟩
  ·rename_i e
   rw [if_neg e]
   obtain ⟨h1, h2, h3, h4, K, q1, q2, h5, h6, h7, h8, h9⟩ := h
   exact ⟨h1, h2, h3, h4, K, q1, q2, h5, Nat.le_trans hb h6, h7, Nd.base hb h8, Nd.base hb h9⟩
theorem Nd.cases {bn : Nat} {W : World} {b d : Nat} {P : Part} {q : Nv} {h : Hd} (k : Nd bn W b d P q) : (q.k = none ∧ RowI W b (.slice q.ad q.n q.cap) (ofN (plcP P)) ∧ fndT bn h d P = (plcP P, 0) ∧ szT bn d P = (1, P.2.length)) ∨
  (∃ d', d = d' + 1 ∧ q.x = (bestP P).1.1 ∧ q.ad = none ∧ q.n = 0 ∧ q.cap = 0 ∧ (∃ (K : Nat) (q1 q2 : Nv), q.k = some ⟨K, 0, none⟩ ∧ b ≤ K ∧ W.heap[K]? = some (.cells #[.int .u32 q1.x.a.1, .int .u32 q1.x.a.2, .int .u32 q1.x.b.1, .int .u32 q1.x.b.2, .int .u16 q1.x.c.1, .int .u16 q1.x.c.2, .int .u16 q1.x.d.1, .int .u16 q1.x.d.2, .int .u8 q1.x.m.1, .int .u8 q1.x.m.2, .pointer q1.k, .slice q1.ad q1.n q1.cap, .int .u32 q2.x.a.1, .int .u32 q2.x.a.2, .int .u32 q2.x.b.1, .int .u32 q2.x.b.2, .int .u16 q2.x.c.1, .int .u16 q2.x.c.2, .int .u16 q2.x.d.1, .int .u16 q2.x.d.2, .int .u8 q2.x.m.1, .int .u8 q2.x.m.2, .pointer q2.k, .slice q2.ad q2.n q2.cap] 111) ∧ Nd bn W b d' (bestP P).1 q1 ∧ Nd bn W b d' (bestP P).2 q2) ∧
   fndT bn h d P = ((if hasY (bestP P).1.1 h then fndT bn h d' (bestP P).1 else fndT bn h d' (bestP P).2).1, (if hasY (bestP P).1.1 h then fndT bn h d' (bestP P).1 else fndT bn h d' (bestP P).2).2 + 1) ∧
   szT bn d P = (1 + (szT bn d' (bestP P).1).1 + (szT bn d' (bestP P).2).1, (szT bn d' (bestP P).1).2 + (szT bn d' (bestP P).2).2)) := by
 cases d with
 | zero => exact .inl ⟨k.2.1, k.2.2, rfl, rfl⟩
 | succ d =>
  unfold Nd at k
  split at k
  ·rename_i e
   exact .inl ⟨k.2.1, k.2.2, by unfold fndT; rw [if_pos e], by unfold szT; rw [if_pos e]⟩
  ·rename_i e
   obtain ⟨h1, h2, h3, h4, h5⟩ := k
   exact .inr ⟨d, rfl, h1, h2, h3, h4, h5, by conv => lhs; unfold fndT; rw [if_neg e], by conv => lhs; unfold szT; rw [if_neg e]⟩
set_option maxRecDepth 20000 in
set_option maxHeartbeats 4000000 in
theorem placesC (B : Nat) (p : Pt) (L : List CtE) (w : World) (hB : w.heap[B]? = some (.cells #[.int .u32 p.x.a.1, .int .u32 p.x.a.2, .int .u32 p.x.b.1, .int .u32 p.x.b.2, .int .u16 p.x.c.1, .int .u16 p.x.c.2, .int .u16 p.x.d.1, .int .u16 p.x.d.2, .int .u8 p.x.m.1, .int .u8 p.x.m.2, .slice p.ad p.n p.cap] 135 (0, 0))) (hs : SrcZ w (.slice p.ad p.n p.cap) L) (hl : L.length ≤ 64) :
  Calls Tryz.prog 78 #[.pointer (some ⟨B, 0, none⟩)] w fun e w' => ∃ (ad : Option Addr) (n cap : Nat), e = .returned (.slice ad n cap) ∧ RowI w' w.heap.size (.slice ad n cap) (ofN (L.map (·.1))) ∧ Below w.heap.size w w' := by
 obtain ⟨_, hc⟩ := part_rng hB
 obtain ⟨hn, hcap, hr⟩ := hs.rng
 obtain ⟨X, ad, n, cap⟩ := p
 simp only at hn hcap hc hr hs
 have hBl := blk_lt hB
 have HN : Hid (n = L.length) := hn
 have HR : Hid (∀ k (hk : k < L.length), ∃ g off, ad = some ⟨g, off, none⟩ ∧ g < w.heap.size ∧ w.rangeAt g (off + k * 11) (encZ (L[k]'hk))) := fun k hk => by
  obtain ⟨g, off, e, h1, h2, _⟩ := hr k hk
  exact ⟨g, off, e, h1, h2⟩
 have hn64 : n ≤ 64 := by omega
 have hmk : (Instr.makeSlice 76 (.int .i64 n) (.int .i64 n)).run Tryz.prog w = .ok (.slice (some ⟨w.heap.size, 0, none⟩) n n) (w.alloc (.cells (madeCells #[.int .i64 0] n) 3)) := by
  obtain ⟨i0, hi, hz0, hz1, hz2⟩ := info_parts infoI
  have := run_make (P := Tryz.prog) w 76 3 i0 _ Tryz.underlying76 hi hz0 .i64 .i64 (n : Int) (n : Int) (by omega) (Int.le_refl _) (by rw [hz2]; omega) (by omega)
  simp only [hz1, Int.toNat_natCast, Value.cells, Nat.mul_one] at this
  exact this
 have HRow : Hid (RowI (w.alloc (.cells (madeCells #[.int .i64 0] n) 3)) w.heap.size (.slice (some ⟨w.heap.size, 0, none⟩) n n) (List.replicate n 0)) := by
  refine ⟨by simp [eI], .inr ⟨w.heap.size, n, _, by simp, Nat.le_refl _, blk_new w _, by simp, by unfold maxLen; omega, by rw [size_madeCells]; simp, ?_⟩⟩
  rw [toList_madeCells_one]
  simp [eI]
 clear hn hcap hr hs hB hl
 have Hc : Hid (w.cell? ⟨B, 10, none⟩ = some (.slice ad n cap)) := hc
 have hb0 : Below w.heap.size w (w.alloc (.cells (madeCells #[.int .i64 0] n) 3)) := (Below.refl _ _).alloc (Nat.le_refl _) _
 have hc0 := cell_on1 hb0 hc
 have HB0 : Hid _ := hb0
 clear hb0
 go_enter Tryz.func78, Tryz.ntmps78
 go_upto_region 2 with (fail)
 clear hmk
 generalize w.alloc (.cells (madeCells #[.int .i64 0] n) 3) = w1 at *
 clear hc
 go_wp2_with (fail)
 obtain ⟨G, hG⟩ : ∃ G, G = w.heap.size := ⟨_, rfl⟩
 have HGw : Hid (w.heap.size = G) := hG.symm
 rw [HGw.out] at HRow ⊢
 have HG1 : Hid (G < w1.heap.size) := (HRow.out.lt G rfl).2
 clear hG
 go_loopw [17] (fun vi wr => ∃ (k : Nat) (J : List Int), k ≤ n ∧ vi = .int .i64 k ∧ Hid (RowI wr G (.slice (some ⟨G, 0, none⟩) n n) J) ∧ Hid (J.length = n ∧ J.take k = ofN ((L.map (·.1)).take k)) ∧ Hid (Below w.heap.size w wr)) (fun vi _ => n - (intOf vi).toNat)
 case atStart => exact ⟨0, List.replicate n 0, Nat.zero_le _, rfl, HRow.out, ⟨by simp, by simp [ofN]⟩, HB0.out⟩
 case round =>
  clear HRow HB0
  obtain ⟨k, J, hk, rfl, HJ, HK, HB⟩ := hrel
  by_cases hlt : k < n
  ·have hkL : k < L.length := by rw [← HN.out]; exact hlt
   obtain ⟨gl, off, rfl, hgl, hr1⟩ := HR.out k hkL
   obtain ⟨e, he⟩ : ∃ e, e = L[k] := ⟨_, rfl⟩
   rw [← he] at hr1
   have HE : Hid (e = L[k]) := he
   clear he
   have HA : Hid (wr.rangeAt gl (off + k * 11) (#[.int .i64 e.1, .int .u32 e.2.a.1, .int .u32 e.2.a.2, .int .u32 e.2.b.1, .int .u32 e.2.b.2, .int .u16 e.2.c.1, .int .u16 e.2.c.2, .int .u16 e.2.d.1, .int .u16 e.2.d.2, .int .u8 e.2.m.1, .int .u8 e.2.m.2] : Array Value).toList) := rng_bel HB.out hgl hr1
   have hkn : (k : Int) < (n : Int) := by omega
   have hk0 : (0 : Int) ≤ (k : Int) := by omega
   have HZ : Hid ((wr.alloc (.cells #[.int .i64 0, .int .u32 0, .int .u32 0, .int .u32 0, .int .u32 0, .int .u16 0, .int .u16 0, .int .u16 0, .int .u16 0, .int .u8 0, .int .u8 0] 159)).heap[wr.heap.size]? = some (.cells #[.int .i64 0, .int .u32 0, .int .u32 0, .int .u32 0, .int .u32 0, .int .u16 0, .int .u16 0, .int .u16 0, .int .u16 0, .int .u8 0, .int .u8 0] 159)) := blk_new _ _
   clear hr1
   go_upto_region 5 with (first | (refine ct_loadL rfl 159 (.tmp 20) rfl gl (off + k * 11) #[.int .i64 e.1, .int .u32 e.2.a.1, .int .u32 e.2.a.2, .int .u32 e.2.b.1, .int .u32 e.2.b.2, .int .u16 e.2.c.1, .int .u16 e.2.c.2, .int .u16 e.2.d.1, .int .u16 e.2.d.2, .int .u8 e.2.m.1, .int .u8 e.2.m.2] rfl HA.out Tryz.underlying159 rfl (by kernel_rfl) ?_) | (refine wpList_store_blk rfl 159 (.tmp 5) (.tmp 21) rfl wr.heap.size 0 #[.int .i64 e.1, .int .u32 e.2.a.1, .int .u32 e.2.a.2, .int .u32 e.2.b.1, .int .u32 e.2.b.2, .int .u16 e.2.c.1, .int .u16 e.2.c.2, .int .u16 e.2.d.1, .int .u16 e.2.d.2, .int .u8 e.2.m.1, .int .u8 e.2.m.2] #[.int .i64 e.1, .int .u32 e.2.a.1, .int .u32 e.2.a.2, .int .u32 e.2.b.1, .int .u32 e.2.b.2, .int .u16 e.2.c.1, .int .u16 e.2.c.2, .int .u16 e.2.d.1, .int .u16 e.2.d.2, .int .u8 e.2.m.1, .int .u8 e.2.m.2] rfl rfl 159 _ HZ.out (Nat.le_of_ble_eq_true rfl) rfl (by kernel_rfl) rfl ?_; intro w3 hw3 ho3))
   have hb3 : Below wr.heap.size wr w3 := ((Below.refl _ _).alloc (Nat.le_refl _) _).trans (ho3.below (Nat.le_refl _))
   have HJ3 : Hid (RowI w3 G (.slice (some ⟨G, 0, none⟩) n n) J) := HJ.out.on hb3
   have HB3 : Hid (Below w.heap.size w w3) := HB.out.trans (hb3.mono HB.out.size)
   have k0 : w3.cell? ⟨wr.heap.size, 0, none⟩ = some (.int .i64 e.1) := blk_cell hw3 rfl
   obtain ⟨jc, jf⟩ := HJ3.out.cell (k := k) (by rw [HK.out.1]; exact hlt)
   obtain ⟨Be, hBe⟩ : ∃ Be, Be = wr.heap.size := ⟨_, rfl⟩
   rw [← hBe] at k0
   try rw [← hBe]
   clear HJ HA HB HZ hw3 ho3 hb3 hBe
   go_wp2_with (fail)
   go_roundw
   case rel =>
    refine ⟨k + 1, J.set k (e.1 : Int), by omega, by go_num, (HJ3.out.set k (e.1 : Int)).1, ⟨by rw [List.length_set]; exact HK.out.1, ?_⟩, ?_⟩
    ·have hkJ : k < J.length := by rw [HK.out.1]; exact hlt
     have h1 : (J.set k (e.1 : Int)).take (k + 1) = J.take k ++ [(e.1 : Int)] := by
      rw [List.take_succ_eq_append_getElem (by rw [List.length_set]; exact hkJ), List.take_set, List.set_eq_of_length_le (by rw [List.length_take]; omega)]
      simp
     have h2 : (L.map (·.1)).take (k + 1) = (L.map (·.1)).take k ++ [e.1] := by
      rw [List.take_succ_eq_append_getElem (by simpa using hkL), HE.out]
      simp
     rw [h1, h2, HK.out.2]
     simp [ofN]
    ·exact HB3.out.setCell (by rw [HGw.out]; exact Nat.le_refl _) _
   case measure => simp [intOf]; omega
  ·obtain rfl : k = n := by omega
   go_wp2_with (fail)
   go_ret
   refine ⟨_, _, _, rfl, ?_, HB.out⟩
   have h1 := HK.out.2
   rw [List.take_of_length_le (Nat.le_of_eq HK.out.1), List.take_of_length_le (by rw [List.length_map, HN.out]; exact Nat.le_refl _)] at h1
   rw [← h1, HGw.out]
   exact HJ.out
theorem node_cells {w : World} {B o : Nat} {q : Nv} (hr : w.rangeAt B o (#[.int .u32 q.x.a.1, .int .u32 q.x.a.2, .int .u32 q.x.b.1, .int .u32 q.x.b.2, .int .u16 q.x.c.1, .int .u16 q.x.c.2, .int .u16 q.x.d.1, .int .u16 q.x.d.2, .int .u8 q.x.m.1, .int .u8 q.x.m.2, .pointer q.k, .slice q.ad q.n q.cap] : Array Value).toList) : w.cell? ⟨B, o + 10, none⟩ = some (.pointer q.k) ∧ w.cell? ⟨B, o + 11, none⟩ = some (.slice q.ad q.n q.cap) := ⟨hr 10 _ rfl, hr 11 _ rfl⟩
theorem kids_rng {w : World} {K : Nat} {q1 q2 : Nv} (h : w.heap[K]? = some (.cells #[.int .u32 q1.x.a.1, .int .u32 q1.x.a.2, .int .u32 q1.x.b.1, .int .u32 q1.x.b.2, .int .u16 q1.x.c.1, .int .u16 q1.x.c.2, .int .u16 q1.x.d.1, .int .u16 q1.x.d.2, .int .u8 q1.x.m.1, .int .u8 q1.x.m.2, .pointer q1.k, .slice q1.ad q1.n q1.cap, .int .u32 q2.x.a.1, .int .u32 q2.x.a.2, .int .u32 q2.x.b.1, .int .u32 q2.x.b.2, .int .u16 q2.x.c.1, .int .u16 q2.x.c.2, .int .u16 q2.x.d.1, .int .u16 q2.x.d.2, .int .u8 q2.x.m.1, .int .u8 q2.x.m.2, .pointer q2.k, .slice q2.ad q2.n q2.cap] 111)) : w.rangeAt K 0 (#[.int .u32 q1.x.a.1, .int .u32 q1.x.a.2, .int .u32 q1.x.b.1, .int .u32 q1.x.b.2, .int .u16 q1.x.c.1, .int .u16 q1.x.c.2, .int .u16 q1.x.d.1, .int .u16 q1.x.d.2, .int .u8 q1.x.m.1, .int .u8 q1.x.m.2, .pointer q1.k, .slice q1.ad q1.n q1.cap] : Array Value).toList ∧ w.rangeAt K 12 (#[.int .u32 q2.x.a.1, .int .u32 q2.x.a.2, .int .u32 q2.x.b.1, .int .u32 q2.x.b.2, .int .u16 q2.x.c.1, .int .u16 q2.x.c.2, .int .u16 q2.x.d.1, .int .u16 q2.x.d.2, .int .u8 q2.x.m.1, .int .u8 q2.x.m.2, .pointer q2.k, .slice q2.ad q2.n q2.cap] : Array Value).toList := by
 have hr := rngAll h
 have h1 := rng_sub hr 0 12
 have h2 := rng_sub hr 12 12
 exact ⟨h1, by rw [Nat.zero_add] at h2; exact h2⟩
set_option maxHeartbeats 2000000 in
theorem sizeLeaf (B o n cap : Nat) (ad : Option Addr) (w : World) (h1 : w.cell? ⟨B, o + 10, none⟩ = some (.pointer none)) (h2 : w.cell? ⟨B, o + 11, none⟩ = some (.slice ad n cap)) :
  Calls Tryz.prog 22 #[.pointer (some ⟨B, o, none⟩)] w fun e w' => e = .returned (.tuple #[.int .i64 1, .int .i64 n]) ∧ Below w.heap.size w w' := by
 go_enter Tryz.func22, Tryz.ntmps22
 go_wp2
 go_quiet (fail)
 go_wp2
 exact bodyPost_ret (v := .tuple #[.int .i64 1, .int .i64 n]) (by simp [results, Tryz.results22, go_sem]) rfl ⟨rfl, bel_drewN (Below.refl _ _) _⟩
set_option maxRecDepth 20000 in
set_option maxHeartbeats 4000000 in
theorem sizeInner (B o K : Nat) (ad : Option Addr) (cap s1 s2 e1 e2 : Nat) (w : World) (h1 : w.cell? ⟨B, o + 10, none⟩ = some (.pointer (some ⟨K, 0, none⟩))) (h2 : w.cell? ⟨B, o + 11, none⟩ = some (.slice ad 0 cap)) (b1 : s1 ≤ 1048576) (b2 : s2 ≤ 1048576) (b3 : e1 ≤ 1073741824) (b4 : e2 ≤ 1073741824)
  (k1 : ∀ W, Below w.heap.size w W → Calls Tryz.prog 22 #[.pointer (some ⟨K, 0, none⟩)] W fun e w' => e = .returned (.tuple #[.int .i64 s1, .int .i64 e1]) ∧ Below W.heap.size W w')
  (k2 : ∀ W, Below w.heap.size w W → Calls Tryz.prog 22 #[.pointer (some ⟨K, 12, none⟩)] W fun e w' => e = .returned (.tuple #[.int .i64 s2, .int .i64 e2]) ∧ Below W.heap.size W w') :
  Calls Tryz.prog 22 #[.pointer (some ⟨B, o, none⟩)] w fun e w' => e = .returned (.tuple #[.int .i64 ((1 + s1 + s2 : Nat) : Int), .int .i64 ((e1 + e2 : Nat) : Int)]) ∧ Below w.heap.size w w' := by
 have K1 : Hid _ := k1
 have K2 : Hid _ := k2
 have H1 : Hid _ := h1
 have w1 : IntKind.i64.wrap ((1 : Int) + (s1 : Int)) = (1 : Int) + (s1 : Int) := by rw [IntKind.wrap_i64]; omega
 have w2 : IntKind.i64.wrap ((1 : Int) + (s1 : Int) + (s2 : Int)) = (1 : Int) + (s1 : Int) + (s2 : Int) := by rw [IntKind.wrap_i64]; omega
 have w3 : IntKind.i64.wrap ((e1 : Int) + (e2 : Int)) = (e1 : Int) + (e2 : Int) := by rw [IntKind.wrap_i64]; omega
 have w4 : IntKind.i64.wrap (e1 : Int) = (e1 : Int) := by rw [IntKind.wrap_i64]; omega
 clear k1 k2 b1 b2 b3 b4
 go_enter Tryz.func22, Tryz.ntmps22
 go_wp2
 go_quiet (fail)
 have HB0 : Hid (Below w.heap.size w (w.drewN nq)) := bel_drewN (Below.refl _ _) _
 go_wp2
 go_loopw [2, 3, 19] (fun va vc vi wr => Hid (Below w.heap.size w wr) ∧ ((va = .int .i64 1 ∧ vc = .int .i64 0 ∧ vi = .int .i64 0) ∨ (va = .int .i64 (1 + (s1 : Int)) ∧ vc = .int .i64 e1 ∧ vi = .int .i64 1) ∨ (va = .int .i64 (1 + (s1 : Int) + (s2 : Int)) ∧ vc = .int .i64 ((e1 : Int) + (e2 : Int)) ∧ vi = .int .i64 2))) (fun _ _ vi _ => 2 - (intOf vi).toNat)
 case atStart => exact ⟨HB0.out, .inl ⟨rfl, rfl, rfl⟩⟩
 case round =>
  clear h1 h2 HB0
  obtain ⟨HB, hh⟩ := hrel
  have c1 := cell_on1 HB.out H1.out
  rcases hh with ⟨rfl, rfl, rfl⟩ | ⟨rfl, rfl, rfl⟩ | ⟨rfl, rfl, rfl⟩
  ·go_wp2_with (go_at_call 22; refine (K1.out _ HB.out).mono ?_; rintro e w5 ⟨rfl, hb5⟩)
   have HB5 : Hid (Below w.heap.size w w5) := HB.out.trans (hb5.mono HB.out.size)
   go_roundw
   case rel => exact ⟨HB5.out, .inr (.inl ⟨by go_num, by go_num, by go_num⟩)⟩
   case measure => simp [intOf]
  ·go_wp2_with (go_at_call 22; refine (K2.out _ HB.out).mono ?_; rintro e w5 ⟨rfl, hb5⟩)
   have HB5 : Hid (Below w.heap.size w w5) := HB.out.trans (hb5.mono HB.out.size)
   go_roundw
   case rel => exact ⟨HB5.out, .inr (.inr ⟨by go_num, by go_num, by go_num⟩)⟩
   case measure => simp [intOf]
  ·go_wp2
   exact bodyPost_ret (v := .tuple #[.int .i64 (1 + (s1 : Int) + (s2 : Int)), .int .i64 ((e1 : Int) + (e2 : Int))]) (by simp [results, Tryz.results22, go_sem]) rfl ⟨by simp, HB.out⟩
theorem sizeC (bn : Nat) : ∀ (d : Nat) (P : Part) (q : Nv) (b B o : Nat) (w : World), Nd bn w b d P q → w.rangeAt B o (#[.int .u32 q.x.a.1, .int .u32 q.x.a.2, .int .u32 q.x.b.1, .int .u32 q.x.b.2, .int .u16 q.x.c.1, .int .u16 q.x.c.2, .int .u16 q.x.d.1, .int .u16 q.x.d.2, .int .u8 q.x.m.1, .int .u8 q.x.m.2, .pointer q.k, .slice q.ad q.n q.cap] : Array Value).toList → (szT bn d P).1 ≤ 1048576 → (szT bn d P).2 ≤ 1073741824 →
  Calls Tryz.prog 22 #[.pointer (some ⟨B, o, none⟩)] w fun e w' => e = .returned (.tuple #[.int .i64 ((szT bn d P).1 : Nat), .int .i64 ((szT bn d P).2 : Nat)]) ∧ Below w.heap.size w w' := by
 intro d
 induction d with
 | zero =>
  intro P q b B o w hN hr _ _
  obtain ⟨c1, c2⟩ := node_cells hr
  rcases hN.cases (h := ⟨0, 0, 0, 0, 0⟩) with ⟨h1, h2, _, h4⟩ | ⟨d', h1, _⟩
  ·rw [h4]
   rw [h1] at c1
   have hn : q.n = P.2.length := by
    obtain ⟨ad', cap', e, _⟩ := h2.form
    injection e with _ e2
    rw [e2]
    simp [plcP, ofN_len]
   rw [← hn]
   exact sizeLeaf B o q.n q.cap q.ad w c1 c2
  ·cases h1
 | succ d ih =>
  intro P q b B o w hN hr hs he
  obtain ⟨c1, c2⟩ := node_cells hr
  rcases hN.cases (h := ⟨0, 0, 0, 0, 0⟩) with ⟨h1, h2, _, h4⟩ | ⟨d', h1, _, ha, hn, hc, ⟨K, q1, q2, hk, hbK, hK, hN1, hN2⟩, _, h4⟩
  ·rw [h4]
   rw [h1] at c1
   have hn : q.n = P.2.length := by
    obtain ⟨ad', cap', e, _⟩ := h2.form
    injection e with _ e2
    rw [e2]
    simp [plcP, ofN_len]
   rw [← hn]
   exact sizeLeaf B o q.n q.cap q.ad w c1 c2
  ·cases h1
   rw [h4] at hs he ⊢
   simp only at hs he ⊢
   rw [hk] at c1
   rw [hn] at c2
   obtain ⟨r1, r2⟩ := kids_rng hK
   exact sizeInner B o K q.ad q.cap _ _ _ _ w c1 c2 (by omega) (by omega) (by omega) (by omega) (fun W hb => ih _ q1 b K 0 W (hN1.on hb) (rng_on hb r1) (by omega) (by omega)) (fun W hb => ih _ q2 b K 12 W (hN2.on hb) (rng_on hb r2) (by omega) (by omega))
end Go.Proofs.YtgokmkholjfhbaaGreat
