/-
  Two tables of texts, one of which has the headers turned, under any script.
-/
import Derived.Test.YthfjdoenofkghaaDoorHtT
import Derived.Test.YthfjdoenofkghaaDoorHhFo
import Derived.Test.YthfjdoenofkghaaDoorHhN
namespace Go.Proofs.YthfjdoenofkghaaDoor
open Go.RowKit
set_option linter.unusedVariables false
set_option linter.unusedSimpArgs false

theorem srcO_at {w : World} {ad : Option Addr} {n cap : Nat} {l : List Oy} (h : SrcO w (.slice ad n cap) l) {i : Nat} {q : Oy} (hq : l[i]? = some q) : ∃ g off, ad = some ⟨g, off, none⟩ ∧ g < w.heap.size ∧ w.cell? ⟨g, off + i * 7, none⟩ = some (.int .i64 q.i) ∧ w.cell? ⟨g, off + i * 7 + 1, none⟩ = some (.int .u32 (q.k.s : Int)) ∧ w.cell? ⟨g, off + i * 7 + 2, none⟩ = some (.int .u32 (q.k.d : Int)) ∧ w.cell? ⟨g, off + i * 7 + 3, none⟩ = some (.int .u16 (q.k.p : Int)) ∧ w.cell? ⟨g, off + i * 7 + 4, none⟩ = some (.int .u16 (q.k.q : Int)) ∧ w.cell? ⟨g, off + i * 7 + 5, none⟩ = some (.int .u8 (q.k.r : Int)) ∧ w.cell? ⟨g, off + i * 7 + 6, none⟩ = some (.int .i64 q.v) := by
  obtain ⟨hlt, he⟩ := List.getElem?_eq_some_iff.1 hq
  obtain ⟨ad', c, e, _, h2⟩ := h
  cases e
  obtain ⟨g, off, rfl, hc⟩ := h2 (by omega)
  have h7 := hc i hlt
  rw [he] at h7
  have z0 := h7 0 (by decide)
  exact ⟨g, off, rfl, World.block_lt_of_cell? _ _ (z0.trans rfl), z0, h7 1 (by decide), h7 2 (by decide), h7 3 (by decide), h7 4 (by decide), h7 5 (by decide), h7 6 (by decide)⟩
theorem srcO_form {w : World} {v : Value} {l : List Oy} (h : SrcO w v l) : ∃ ad cap, v = .slice ad l.length cap := by
  obtain ⟨ad, c, e, _⟩ := h
  exact ⟨ad, c, e⟩
theorem blk7 {w : World} {B : Nat} {v0 v1 v2 v3 v4 v5 v6 : Value} {t : TypeId} {fr : Nat × Nat} (h : w.heap[B]? = some (.cells #[v0, v1, v2, v3, v4, v5, v6] t fr)) : w.cell? ⟨B, 0, none⟩ = some v0 ∧ w.cell? ⟨B, 1, none⟩ = some v1 ∧ w.cell? ⟨B, 2, none⟩ = some v2 ∧ w.cell? ⟨B, 3, none⟩ = some v3 ∧ w.cell? ⟨B, 4, none⟩ = some v4 ∧ w.cell? ⟨B, 5, none⟩ = some v5 ∧ w.cell? ⟨B, 6, none⟩ = some v6 := ⟨blk_cell h rfl, blk_cell h rfl, blk_cell h rfl, blk_cell h rfl, blk_cell h rfl, blk_cell h rfl, blk_cell h rfl⟩
theorem not32 (x : Nat) (h : x < 4294967296) : 4294967295 ^^^ x = 4294967295 - x := by
  apply Nat.eq_of_testBit_eq
  intro i
  have h1 := Nat.testBit_two_pow_sub_succ (n := 32) (x := x) (by omega) i
  rw [show 2 ^ 32 - (x + 1) = 4294967295 - x by omega] at h1
  rw [h1, Nat.testBit_xor, show (4294967295 : Nat) = 2 ^ 32 - 1 from rfl, Nat.testBit_two_pow_sub_one]
  by_cases hi : i < 32
  · simp [hi]
  · have hz : x.testBit i = false := Nat.testBit_lt_two_pow (Nat.lt_of_lt_of_le h (Nat.pow_le_pow_right (n := 2) (by decide) (show 32 ≤ i by omega)))
    simp [hi, hz]
theorem xor_flp (k : Hd) (o : OkH k) : bits .xor .u32 (if IntKind.u32.signed = true then -1 else IntKind.u32.max) (k.s : Int) = ((flp k).s : Int) := by
  have h := u32_xor_nat 4294967295 k.s (by decide) o.1
  rw [not32 k.s o.1] at h
  exact h
namespace Ss
theorem putE_ok {m : Hd → Option ByteArray} {M c : Nat} {k : Hd} (h : c < M) : putE m M c k = 0 := by unfold putE; split; rfl; rw [if_neg (by omega)]
theorem putM_ok {m : Hd → Option ByteArray} {M c : Nat} {k : Hd} {y : ByteArray} (h : c < M) : putM m M c k y = upd m k (some y) := by unfold putM; split; rfl; rw [if_neg (by omega)]
theorem putN_le {m : Hd → Option ByteArray} {M c : Nat} {k : Hd} : putN m M c k ≤ c + 1 := by unfold putN; split; omega; split <;> omega
theorem putN_mir {m n : Hd → Option ByteArray} {M c : Nat} {k k' : Hd} (h : n k' = m k) : putN n M c k' = putN m M c k := by unfold putN; rw [h]
theorem delN_mir {m n : Hd → Option ByteArray} {c : Nat} {k k' : Hd} (h : n k' = m k) : delN n c k' = delN m c k := by unfold delN; rw [h]
theorem delN_le {m : Hd → Option ByteArray} {c : Nat} {k : Hd} : delN m c k ≤ c := by unfold delN; split <;> omega
end Ss
set_option maxHeartbeats 8000000 in
set_option maxRecDepth 20000 in
theorem texts_walk (l : List Oy) (v : Value) (bd : ∀ R ∈ l, BdO R) (k : Hd) (o : OkH k) (w : World) (hp : Pw w) (hs : SrcO w v l) :
    Calls Tryd.prog 3 #[v, .agg #[.int .u32 (k.s : Int), .int .u32 (k.d : Int), .int .u16 (k.p : Int), .int .u16 (k.q : Int), .int .u8 (k.r : Int)]] w fun e w' => e = .returned (.bool true) ∧ Below w.heap.size w w' := by
  obtain ⟨ad, cap, rfl⟩ := srcO_form hs
  obtain ⟨N, hN⟩ : ∃ N, N = l.length := ⟨_, rfl⟩
  have HN : Hid (N = l.length) := hN
  rw [← hN] at hs ⊢
  clear hN
  by_cases hbig : 3000 < N
  · have h1 : (3000 : Int) < (N : Int) := by omega
    clear hs hp o bd
    go_enter Tryd.func3, Tryd.ntmps3
    go_wp2_with (fail)
    go_ret
    exact ⟨rfl, by (repeat (first | assumption | exact Below.refl _ _ | refine Below.drew ?_ | refine bel_drewN ?_ _ | refine Below.setCell ?_ (by first | omega | (simp; done) | (simp; omega)) _ | refine Below.alloc ?_ (by first | omega | (simp; done) | (simp; omega)) _ | refine bel_of ?_ (by assumption)))⟩
  · have h1 : ¬ (3000 : Int) < (N : Int) := by omega
    have h2 : (N : Int) ≤ 3000 := by omega
    have b1 : Below w.heap.size w (w.alloc (.cells #[.int .u32 (k.s : Int), .int .u32 (k.d : Int), .int .u16 (k.p : Int), .int .u16 (k.q : Int), .int .u8 (k.r : Int)] 26)) := (Below.refl _ _).alloc (Nat.le_refl _) _
    have HP1 : Hid (Pw (w.alloc (.cells #[.int .u32 (k.s : Int), .int .u32 (k.d : Int), .int .u16 (k.p : Int), .int .u16 (k.q : Int), .int .u8 (k.r : Int)] 26))) := hp.on b1
    have HS1 : Hid (SrcO (w.alloc (.cells #[.int .u32 (k.s : Int), .int .u32 (k.d : Int), .int .u16 (k.p : Int), .int .u16 (k.q : Int), .int .u8 (k.r : Int)] 26)) (.slice ad N cap) l) := hs.keep b1
    have HB1 : Hid (Below w.heap.size w (w.alloc (.cells #[.int .u32 (k.s : Int), .int .u32 (k.d : Int), .int .u16 (k.p : Int), .int .u16 (k.q : Int), .int .u8 (k.r : Int)] 26))) := b1
    have HK1 : Hid ((w.alloc (.cells #[.int .u32 (k.s : Int), .int .u32 (k.d : Int), .int .u16 (k.p : Int), .int .u16 (k.q : Int), .int .u8 (k.r : Int)] 26)).heap[w.heap.size]? = some (.cells #[.int .u32 (k.s : Int), .int .u32 (k.d : Int), .int .u16 (k.p : Int), .int .u16 (k.q : Int), .int .u8 (k.r : Int)] 26)) := blk_new w _
    have Hbd : Hid (∀ R ∈ l, BdO R) := bd
    have HO : Hid (OkH k) := o
    have hNew : ∀ W, Calls Tryd.prog 4 #[.int .i64 65536] W fun e w' => ∃ t, e = .returned (.tuple #[.pointer (some ⟨t, 0, none⟩), .int .i64 0]) ∧ Ss.Ow W w' t 65536 0 0 Ss.m0 := fun W => Ss.newC 65536 W (by decide) (by decide)
    clear hs hp b1 bd o
    go_enter Tryd.func3, Tryd.ntmps3
    go_upto_region 3 with (fail)
    generalize w.alloc (.cells #[.int .u32 (k.s : Int), .int .u32 (k.d : Int), .int .u16 (k.p : Int), .int .u16 (k.q : Int), .int .u8 (k.r : Int)] 26) = W1 at *
    go_wp2_with (fail)
    refine (hNew W1).mono ?_
    rintro e w2 ⟨t, rfl, ho2⟩
    go_wp2_with (fail)
    refine (hNew w2).mono ?_
    rintro e w3 ⟨u, rfl, ho3⟩
    obtain ⟨v3, x3, htw⟩ := Ss.tw_new ho2 ho3
    have HT3 : Hid (Ss.Tw W1 w3 t u v3 x3 65536 0 0 0 0 Ss.m0 Ss.m0) := htw
    clear ho2 ho3 htw hNew
    go_wp2_with (fail)
    go_loopw [9, 10, 11] (fun vl vb vi wr => ∃ (i c P Q : Nat) (v x : Value) (m n : Hd → Option ByteArray), i ≤ N ∧ vl = .string ((m k).getD .empty) ∧ vb = .bool (m k).isSome ∧ vi = .int .i64 (i : Int) ∧ Hid (Ss.Tw W1 wr t u v x 65536 c c P Q m n) ∧ Hid (Mir m n) ∧ Hid (c ≤ i)) (fun _ _ vi _ => N - (intOf vi).toNat)
    case atStart => exact ⟨0, 0, 0, 0, v3, x3, Ss.m0, Ss.m0, Nat.zero_le _, rfl, rfl, rfl, HT3.out, fun _ _ => rfl, Nat.le_refl _⟩
    case round =>
      clear HT3
      obtain ⟨i, c, P, Q, v, x, m, n, hi, rfl, rfl, rfl, HT, HMi, Hci⟩ := hrel
      have HBr : Hid (Below W1.heap.size W1 wr) := HT.out.bel
      by_cases hlt : i < N
      · obtain ⟨q, hq⟩ : ∃ q, l[i]? = some q := ⟨_, List.getElem?_eq_getElem (by rw [← HN.out]; exact hlt)⟩
        have hqb := Hbd.out q (List.mem_of_getElem? hq)
        have HSr := HS1.out.keep HBr.out
        obtain ⟨g, off, hade, hgl, d0, d1, d2, d3, d4, d5, d6⟩ := srcO_at HSr hq
        have Hqk : Hid (OkH q.k ∧ I64 q.v) := ⟨hqb.2.1, hqb.2.2⟩
        have HPr : Hid (Pw wr) := HP1.out.on HBr.out
        have hlt' : (i : Int) < (N : Int) := by omega
        have hix2 : ¬ N ≤ i := by omega
        subst hade
        clear HSr hq hqb
        have hZZ := blk_new wr (.cells #[.int .i64 0, .int .u32 0, .int .u32 0, .int .u16 0, .int .u16 0, .int .u8 0, .int .i64 0] 32)
        have hgx2 : ¬ g = wr.heap.size := by omega
        go_upto_region 13 with (refine wpList_store_blk rfl 32 (.tmp 12) (.tmp 58) rfl wr.heap.size 0 #[.int .i64 q.i, .int .u32 (q.k.s : Int), .int .u32 (q.k.d : Int), .int .u16 (q.k.p : Int), .int .u16 (q.k.q : Int), .int .u8 (q.k.r : Int), .int .i64 q.v] #[.int .i64 q.i, .int .u32 (q.k.s : Int), .int .u32 (q.k.d : Int), .int .u16 (q.k.p : Int), .int .u16 (q.k.q : Int), .int .u8 (q.k.r : Int), .int .i64 q.v] rfl rfl 32 _ hZZ (Nat.le_of_ble_eq_true rfl) rfl (by kernel_rfl) rfl ?_; intro w4 hw4 how4)
        simp only [List.getElem_toArray, List.getElem_cons_succ, List.getElem_cons_zero, Act.put, List.setIfInBounds_toArray, List.set_cons_zero, List.set_cons_succ]
        have b4 : Below wr.heap.size wr w4 := ((Below.refl _ _).alloc (Nat.le_refl _) _).trans (how4.below (Nat.le_refl _))
        have HT4 : Hid (Ss.Tw W1 w4 t u v x 65536 c c P Q m n) := HT.out.on b4
        have HQ4 : Hid (Ss.K2 w4 t u v x wr.heap.size (.cells #[.int .i64 q.i, .int .u32 (q.k.s : Int), .int .u32 (q.k.d : Int), .int .u16 (q.k.p : Int), .int .u16 (q.k.q : Int), .int .u8 (q.k.r : Int), .int .i64 q.v] 32)) := HT.out.new b4 (Nat.le_refl _) hw4
        have HP4 : Hid (Pw w4) := HPr.out.on b4
        have hit := itoaC q.v Hqk.out.2.1 Hqk.out.2.2 w4 HP4.out
        have hz4 : wr.heap.size < w4.heap.size := blk_lt hw4
        obtain ⟨e0, e1, e2, e3, e4, e5, e6⟩ := blk7 HQ4.out.1.1
        clear hw4 how4 d0 d1 d2 d3 d4 d5 d6 hZZ hgx2 b4
        go_wp2_with (fail)
        refine hit.mono ?_
        rintro e w5 ⟨rfl, hb5⟩
        have HT5 : Hid (Ss.Tw W1 w5 t u v x 65536 c c P Q m n) := HT4.out.on hb5
        have HQ5 : Hid (Ss.K2 w5 t u v x wr.heap.size (.cells #[.int .i64 q.i, .int .u32 (q.k.s : Int), .int .u32 (q.k.d : Int), .int .u16 (q.k.p : Int), .int .u16 (q.k.q : Int), .int .u8 (q.k.r : Int), .int .i64 q.v] 32)) := HQ4.out.on hb5
        have hz5 : wr.heap.size < w5.heap.size := blk_lt HQ5.out.1.1
        obtain ⟨S, hS⟩ : ∃ S, S = itB q.v := ⟨_, rfl⟩
        rw [← hS]
        clear hS hit hb5 HQ4 e0 e1 e2 e3 e4 e5 e6
        obtain ⟨e0, e1, e2, e3, e4, e5, e6⟩ := blk7 HQ5.out.1.1
        go_upto_region 16 with (fail)
        rw [xor_flp q.k Hqk.out.1]
        have hb6 : Below w5.heap.size w5 (w5.alloc (.cells #[.int .u32 (((flp q.k)).s : Int), .int .u32 (((flp q.k)).d : Int), .int .u16 (((flp q.k)).p : Int), .int .u16 (((flp q.k)).q : Int), .int .u8 (((flp q.k)).r : Int)] 26)) := (Below.refl _ _).alloc (Nat.le_refl _) _
        have HT6 : Hid (Ss.Tw W1 (w5.alloc (.cells #[.int .u32 (((flp q.k)).s : Int), .int .u32 (((flp q.k)).d : Int), .int .u16 (((flp q.k)).p : Int), .int .u16 (((flp q.k)).q : Int), .int .u8 (((flp q.k)).r : Int)] 26)) t u v x 65536 c c P Q m n) := HT5.out.on hb6
        have HQ6 : Hid (Ss.K2 (w5.alloc (.cells #[.int .u32 (((flp q.k)).s : Int), .int .u32 (((flp q.k)).d : Int), .int .u16 (((flp q.k)).p : Int), .int .u16 (((flp q.k)).q : Int), .int .u8 (((flp q.k)).r : Int)] 26)) t u v x wr.heap.size (.cells #[.int .i64 q.i, .int .u32 (q.k.s : Int), .int .u32 (q.k.d : Int), .int .u16 (q.k.p : Int), .int .u16 (q.k.q : Int), .int .u8 (q.k.r : Int), .int .i64 q.v] 32)) := HQ5.out.on hb6
        have HG6 : Hid (Ss.K2 (w5.alloc (.cells #[.int .u32 (((flp q.k)).s : Int), .int .u32 (((flp q.k)).d : Int), .int .u16 (((flp q.k)).p : Int), .int .u16 (((flp q.k)).q : Int), .int .u8 (((flp q.k)).r : Int)] 26)) t u v x w5.heap.size (.cells #[.int .u32 (((flp q.k)).s : Int), .int .u32 (((flp q.k)).d : Int), .int .u16 (((flp q.k)).p : Int), .int .u16 (((flp q.k)).q : Int), .int .u8 (((flp q.k)).r : Int)] 26)) := HT5.out.new hb6 (Nat.le_refl _) (blk_new w5 _)
        have Hml : Hid (n (flp q.k) = m q.k) := HMi.out q.k Hqk.out.1
        clear HT HT4 HT5 HQ5 hb6 e0 e1 e2 e3 e4 e5 e6
        change Code.wp _ _ _ _ (w5.alloc (.cells #[.int .u32 (((flp q.k)).s : Int), .int .u32 (((flp q.k)).d : Int), .int .u16 (((flp q.k)).p : Int), .int .u16 (((flp q.k)).q : Int), .int .u8 (((flp q.k)).r : Int)] 26))
        generalize w5.alloc (.cells #[.int .u32 (((flp q.k)).s : Int), .int .u32 (((flp q.k)).d : Int), .int .u16 (((flp q.k)).p : Int), .int .u16 (((flp q.k)).q : Int), .int .u8 (((flp q.k)).r : Int)] 26) = w6 at *
        obtain ⟨e0, e1, e2, e3, e4, e5, e6⟩ := blk7 HQ6.out.1.1
        by_cases hdel : q.i = 3
        · rw [hdel] at e0
          go_wp2_with (fail)
          refine (Ss.tw_del q.k HT6.out Hqk.out.1).mono ?_
          rintro e w7 ⟨rfl, hT7, hm7⟩
          have HT7 : Hid (Ss.Tw W1 w7 t u v x 65536 (Ss.delN m c q.k) c P Q (upd m q.k none) n) := hT7
          have HQ7 : Hid (Ss.K2 w7 t u v x wr.heap.size (.cells #[.int .i64 q.i, .int .u32 (q.k.s : Int), .int .u32 (q.k.d : Int), .int .u16 (q.k.p : Int), .int .u16 (q.k.q : Int), .int .u8 (q.k.r : Int), .int .i64 q.v] 32)) := HQ6.out.moved hm7
          have HG7 : Hid (Ss.K2 w7 t u v x w5.heap.size (.cells #[.int .u32 (((flp q.k)).s : Int), .int .u32 (((flp q.k)).d : Int), .int .u16 (((flp q.k)).p : Int), .int .u16 (((flp q.k)).q : Int), .int .u8 (((flp q.k)).r : Int)] 26)) := HG6.out.moved hm7
          clear hT7 hm7 e0 e1 e2 e3 e4 e5 e6 HT6 HQ6 HG6
          obtain ⟨g0, g1, g2, g3, g4⟩ := blk5 HG7.out.1.1
          have hdl := Ss.tw_del (flp q.k) HT7.out.swap (flp_ok Hqk.out.1)
          rw [Hml.out] at hdl
          go_wp2_with (fail)
          refine hdl.mono ?_
          rintro e w8 ⟨rfl, hT8, hm8⟩
          rw [Ss.delN_mir Hml.out] at hT8
          have HT8 : Hid (Ss.Tw W1 w8 t u v x 65536 (Ss.delN m c q.k) (Ss.delN m c q.k) P Q (upd m q.k none) (upd n (flp q.k) none)) := hT8.swap
          have HQ8 : Hid (Ss.K2 w8 t u v x wr.heap.size (.cells #[.int .i64 q.i, .int .u32 (q.k.s : Int), .int .u32 (q.k.d : Int), .int .u16 (q.k.p : Int), .int .u16 (q.k.q : Int), .int .u8 (q.k.r : Int), .int .i64 q.v] 32)) := (HQ7.out.swap.moved hm8).swap
          have HM8 : Hid (Mir (upd m q.k none) (upd n (flp q.k) none)) := HMi.out.upd Hqk.out.1 none
          have HB8 : Hid (Below W1.heap.size W1 w8) := HT8.out.bel
          have Hc8 : Hid (Ss.delN m c q.k ≤ i + 1) := by show _ ≤ _; have := Ss.delN_le (m := m) (c := c) (k := q.k); have := Hci.out; omega
          obtain ⟨kk0, kk1, kk2, kk3, kk4⟩ := blk5 (blk_on HK1.out HB8.out)
          obtain ⟨e0, e1, e2, e3, e4, e5, e6⟩ := blk7 HQ8.out.1.1
          generalize (m q.k).isSome = BB at *
          have heq := fun W => eqH_any q.k k W
          clear hT8 hm8 g0 g1 g2 g3 g4 hdl HT7 HQ7 HG7
          by_cases hk : q.k = k
          · rw [decide_eq_true hk] at heq
            have Hk : Hid (upd m q.k none k = none) := by show _ = _; rw [hk]; exact upd_same _ _ _
            clear hk
            go_wp2_with (fail)
            go_roundw
            case rel => exact ⟨i + 1, _, P, Q, v, x, upd m q.k none, upd n (flp q.k) none, by omega, by rw [Hk.out]; rfl, by rw [Hk.out]; rfl, by go_num, HT8.out, HM8.out, Hc8.out⟩
            case measure => simp [intOf]; omega
          · rw [decide_eq_false hk] at heq
            have Hk : Hid (upd m q.k none k = m k) := upd_far _ _ (fun e => hk e.symm)
            clear hk
            go_wp2_with (fail)
            go_roundw
            case rel => exact ⟨i + 1, _, P, Q, v, x, upd m q.k none, upd n (flp q.k) none, by omega, by rw [Hk.out], by rw [Hk.out], by go_num, HT8.out, HM8.out, Hc8.out⟩
            case measure => simp [intOf]; omega
        · have hdel' : ¬ q.i = 3 := hdel
          have hcm : c < 65536 := by have := Hci.out; omega
          have hpt := Ss.tw_put q.k S HT6.out Hqk.out.1
          rw [Ss.putE_ok hcm, Ss.putM_ok hcm] at hpt
          obtain ⟨kd, hkd⟩ : ∃ kd, kd = q.i := ⟨_, rfl⟩
          rw [← hkd] at e0 hdel
          clear hkd hdel'
          go_wp2_with (fail)
          refine hpt.mono ?_
          rintro e w7 ⟨rfl, v7, hT7, hm7⟩
          have HT7 : Hid (Ss.Tw W1 w7 t u v7 x 65536 (Ss.putN m 65536 c q.k) c (max P (Ss.putN m 65536 c q.k)) Q (upd m q.k (some S)) n) := hT7
          have HQ7 : Hid (Ss.K2 w7 t u v7 x wr.heap.size (.cells #[.int .i64 q.i, .int .u32 (q.k.s : Int), .int .u32 (q.k.d : Int), .int .u16 (q.k.p : Int), .int .u16 (q.k.q : Int), .int .u8 (q.k.r : Int), .int .i64 q.v] 32)) := HQ6.out.moved hm7
          have HG7 : Hid (Ss.K2 w7 t u v7 x w5.heap.size (.cells #[.int .u32 (((flp q.k)).s : Int), .int .u32 (((flp q.k)).d : Int), .int .u16 (((flp q.k)).p : Int), .int .u16 (((flp q.k)).q : Int), .int .u8 (((flp q.k)).r : Int)] 26)) := HG6.out.moved hm7
          clear hT7 hm7 e0 e1 e2 e3 e4 e5 e6 HT6 HQ6 HG6 hpt
          obtain ⟨g0, g1, g2, g3, g4⟩ := blk5 HG7.out.1.1
          have hpt := Ss.tw_put (flp q.k) S HT7.out.swap (flp_ok Hqk.out.1)
          rw [Ss.putE_ok hcm, Ss.putM_ok hcm, Ss.putN_mir Hml.out] at hpt
          go_wp2_with (fail)
          refine hpt.mono ?_
          rintro e w8 ⟨rfl, x8, hT8, hm8⟩
          have HT8 : Hid (Ss.Tw W1 w8 t u v7 x8 65536 (Ss.putN m 65536 c q.k) (Ss.putN m 65536 c q.k) (max P (Ss.putN m 65536 c q.k)) (max Q (Ss.putN m 65536 c q.k)) (upd m q.k (some S)) (upd n (flp q.k) (some S))) := hT8.swap
          have HQ8 : Hid (Ss.K2 w8 t u v7 x8 wr.heap.size (.cells #[.int .i64 q.i, .int .u32 (q.k.s : Int), .int .u32 (q.k.d : Int), .int .u16 (q.k.p : Int), .int .u16 (q.k.q : Int), .int .u8 (q.k.r : Int), .int .i64 q.v] 32)) := (HQ7.out.swap.moved hm8).swap
          have HM8 : Hid (Mir (upd m q.k (some S)) (upd n (flp q.k) (some S))) := HMi.out.upd Hqk.out.1 (some S)
          have HB8 : Hid (Below W1.heap.size W1 w8) := HT8.out.bel
          have Hc8 : Hid (Ss.putN m 65536 c q.k ≤ i + 1) := by show _ ≤ _; have := Ss.putN_le (m := m) (M := 65536) (c := c) (k := q.k); have := Hci.out; omega
          obtain ⟨kk0, kk1, kk2, kk3, kk4⟩ := blk5 (blk_on HK1.out HB8.out)
          obtain ⟨e0, e1, e2, e3, e4, e5, e6⟩ := blk7 HQ8.out.1.1
          have heq := fun W => eqH_any q.k k W
          clear hT8 hm8 g0 g1 g2 g3 g4 hpt HT7 HQ7 HG7
          by_cases hk : q.k = k
          · rw [decide_eq_true hk] at heq
            have Hk : Hid (upd m q.k (some S) k = some S) := by show _ = _; rw [hk]; exact upd_same _ _ _
            clear hk
            go_wp2_with (fail)
            go_roundw
            case rel => exact ⟨i + 1, _, _, _, v7, x8, upd m q.k (some S), upd n (flp q.k) (some S), by omega, by rw [Hk.out]; rfl, by rw [Hk.out]; rfl, by go_num, HT8.out, HM8.out, Hc8.out⟩
            case measure => simp [intOf]; omega
          · rw [decide_eq_false hk] at heq
            have Hk : Hid (upd m q.k (some S) k = m k) := upd_far _ _ (fun e => hk e.symm)
            clear hk
            go_wp2_with (fail)
            go_roundw
            case rel => exact ⟨i + 1, _, _, _, v7, x8, upd m q.k (some S), upd n (flp q.k) (some S), by omega, by rw [Hk.out], by rw [Hk.out], by go_num, HT8.out, HM8.out, Hc8.out⟩
            case measure => simp [intOf]; omega
      · obtain rfl : i = N := by omega
        have hni : ¬ (i : Int) < (i : Int) := by omega
        obtain ⟨kk0, kk1, kk2, kk3, kk4⟩ := blk5 (blk_on HK1.out HBr.out)
        have Hml : Hid (n (flp k) = m k) := HMi.out k HO.out
        go_upto_region 33 with (fail)
        rw [xor_flp k HO.out]
        have hb6 : Below wr.heap.size wr (wr.alloc (.cells #[.int .u32 (((flp k)).s : Int), .int .u32 (((flp k)).d : Int), .int .u16 (((flp k)).p : Int), .int .u16 (((flp k)).q : Int), .int .u8 (((flp k)).r : Int)] 26)) := (Below.refl _ _).alloc (Nat.le_refl _) _
        have HT6 : Hid (Ss.Tw W1 (wr.alloc (.cells #[.int .u32 (((flp k)).s : Int), .int .u32 (((flp k)).d : Int), .int .u16 (((flp k)).p : Int), .int .u16 (((flp k)).q : Int), .int .u8 (((flp k)).r : Int)] 26)) t u v x 65536 c c P Q m n) := HT.out.on hb6
        have HG6 : Hid ((wr.alloc (.cells #[.int .u32 (((flp k)).s : Int), .int .u32 (((flp k)).d : Int), .int .u16 (((flp k)).p : Int), .int .u16 (((flp k)).q : Int), .int .u8 (((flp k)).r : Int)] 26)).heap[wr.heap.size]? = some (.cells #[.int .u32 (((flp k)).s : Int), .int .u32 (((flp k)).d : Int), .int .u16 (((flp k)).p : Int), .int .u16 (((flp k)).q : Int), .int .u8 (((flp k)).r : Int)] 26)) := blk_new wr _
        have HB6 : Hid (Below W1.heap.size W1 (wr.alloc (.cells #[.int .u32 (((flp k)).s : Int), .int .u32 (((flp k)).d : Int), .int .u16 (((flp k)).p : Int), .int .u16 (((flp k)).q : Int), .int .u8 (((flp k)).r : Int)] 26))) := HT6.out.bel
        clear HT hb6 kk0 kk1 kk2 kk3 kk4
        change Code.wp _ _ _ _ (wr.alloc (.cells #[.int .u32 (((flp k)).s : Int), .int .u32 (((flp k)).d : Int), .int .u16 (((flp k)).p : Int), .int .u16 (((flp k)).q : Int), .int .u8 (((flp k)).r : Int)] 26))
        generalize wr.alloc (.cells #[.int .u32 (((flp k)).s : Int), .int .u32 (((flp k)).d : Int), .int .u16 (((flp k)).p : Int), .int .u16 (((flp k)).q : Int), .int .u8 (((flp k)).r : Int)] 26) = w6 at *
        obtain ⟨kk0, kk1, kk2, kk3, kk4⟩ := blk5 (blk_on HK1.out HB6.out)
        go_wp2_with (fail)
        refine (Ss.tw_get k HT6.out HO.out).mono ?_
        rintro e w7 ⟨rfl, hb7⟩
        have HT7 : Hid (Ss.Tw W1 w7 t u v x 65536 c c P Q m n) := HT6.out.on hb7
        have hgt := Ss.tw_get (flp k) HT7.out.swap (flp_ok HO.out)
        rw [Hml.out] at hgt
        obtain ⟨g0, g1, g2, g3, g4⟩ := blk5 (blk_on HG6.out hb7)
        clear kk0 kk1 kk2 kk3 kk4 hb7 HT6 HB6 HG6
        go_wp2_with (fail)
        refine hgt.mono ?_
        rintro e w8 ⟨rfl, hb8⟩
        have HT8 : Hid (Ss.Tw W1 w8 t u v x 65536 c c P Q m n) := HT7.out.on hb8
        clear g0 g1 g2 g3 g4 hb8 hgt HT7
        generalize (m k).isSome = BB at *
        generalize (m k).getD ByteArray.empty = SS at *
        go_wp2_with (fail)
        refine (awakeC w8).mono ?_
        rintro e w9 ⟨rfl, hb9⟩
        have HT9 : Hid (Ss.Tw W1 w9 t u v x 65536 c c P Q m n) := HT8.out.on hb9
        clear hb9 HT8
        go_wp2_with (fail)
        refine (Ss.tw_len HT9.out).mono ?_
        rintro e w10 ⟨rfl, hb10⟩
        have HT10 : Hid (Ss.Tw W1 w10 t u v x 65536 c c P Q m n) := HT9.out.on hb10
        clear hb10 HT9
        go_wp2_with (fail)
        refine (Ss.tw_len HT10.out.swap).mono ?_
        rintro e w11 ⟨rfl, hb11⟩
        have HB11 : Hid (Below w.heap.size w w11) := bel_of (HB1.out.trans (HT10.out.bel.mono HB1.out.size)) hb11 (Nat.le_trans HB1.out.size HT10.out.bel.size)
        clear hb11 HT10
        go_wp2_with (fail)
        go_ret
        exact ⟨rfl, HB11.out⟩
end Go.Proofs.YthfjdoenofkghaaDoor
