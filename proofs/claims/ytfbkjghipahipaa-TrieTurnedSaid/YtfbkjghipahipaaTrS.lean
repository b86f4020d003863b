/-
  tell, and the iterator that Walk hands back.
-/
import Derived.Test.YtfbkjghipahipaaTrR
import Derived.Test.YtfbkjghipahipaaTrTa
namespace Go.Proofs.Ytfbkjghipahipaa
open Go.RowKit Go.Shelf
set_option linter.unusedVariables false
set_option linter.unusedSimpArgs false
attribute [local go_sem] Oper.semAt_some

def encY (x : En) : Array Value := #[.agg #[.int .u32 (x.k : Int), .int .i64 (x.n : Int), .int .i64 x.v]]
/-- What holds while keys are told: l the loop, W0 where the iterator began. -/
structure Tl (l : Nat) (P : Nat → Prop) (U : World → Nat → Prop) (N : Nat) (J Jx : List En → World → Prop) (W0 : World) : Prop where
  stab : Stab W0.heap.size U
  own : OwnFrom W0.heap.size J
  plt : ∀ k, P k → k < W0.heap.size
  yld : ∀ (m : Nat) pre x W1, J pre W1 → pre.length < N → W0.heap.size ≤ W1.heap.size → YieldAt Fence.wide m Try.prog l (encY x) W1 fun e W' => RK W0.heap.size U W1 W' ∧
      ((e = .returned (.bool true) ∧ J (pre ++ [x]) W' ∧ Kpt P W1 W') ∨ (e = .returned (.bool false) ∧ Jx (pre ++ [x]) W'))
theorem Tl.grow {l : Nat} {P : Nat → Prop} {U : World → Nat → Prop} {N : Nat} {J Jx : List En → World → Prop} {W0 V V' : World} (h : Tl l P U N J Jx W0) {pre : List En} (hj : J pre V) (hb : Below V.heap.size V V') : J pre V' :=
  h.own _ _ _ none hj (grown_of_below hb) (fun r e => by cases e)
theorem rk_blk {B : Nat} {U : World → Nat → Prop} {V V' : World} (h : RK B U V V') {k : Nat} {o : Obj} (hk : V.heap[k]? = some o) (h1 : B ≤ k) (h2 : ¬ U V k) : V'.heap[k]? = some o := by rw [h.2.1 k h1 (blk_lt hk) h2]; exact hk
/-- A block that was just made is none that the rounds may write. -/
theorem not_u {B : Nat} {U : World → Nat → Prop} {V V' : World} {k : Nat} (hU : Stab B U) (hB : B ≤ V.heap.size) (hb : Below V.heap.size V V') (h : ∀ k, U V k → k < V.heap.size) (hk : V.heap.size ≤ k) : ¬ U V' k := fun e => by
  have := h k (hU V V' none k hB (grown_of_below hb) (fun r e => by cases e) e); omega
theorem high_int (key h : Nat) (hh : h < 32) (hk : key % 2 ^ (h + 1) = 0) (hlt : key < 4294967296) : bits .or .u32 (key : Int) (bits .andNot .u32 ((2 ^ (h + 1) - 1 : Nat) : Int) ((2 ^ h - 1 : Nat) : Int)) = ((key + 2 ^ h : Nat) : Int) := by
  have h1 := pow_le32 (show h + 1 ≤ 32 by omega)
  have h2 := pow_le32 (show h ≤ 32 by omega)
  have h3 := Nat.two_pow_pos h
  have h4 : 2 ^ (h + 1) = 2 * 2 ^ h := by rw [Nat.pow_succ]; omega
  rw [u32_andNot_nat _ _ (by omega) (by omega), bit_of h hh, u32_or_nat _ _ hlt (by omega), or_bit key h hk]
/-- What tell does below a node that is h bits above the longest keys. -/
def TellP (l t : Nat) (v : Value) (W M : Nat) (A : List Nd) (r0 f c : Nat) (P : Nat → Prop) (U : World → Nat → Prop) (N : Nat) (J Jx : List En → World → Prop) (W0 : World) (h : Nat) : Prop :=
  ∀ (m r key len : Nat) (pre : List En) (V : World), r ≤ A.length → len + h = W → key % 2 ^ h = 0 → key + 2 ^ h ≤ 4294967296 → pre.length + (tel W A h r key).length ≤ N → W0.heap.size ≤ V.heap.size → (∀ k, U V k → k < V.heap.size) → Tri V t v W M A r0 f c → J pre V →
    CallsIn Fence.wide m Try.prog 28 #[.pointer (some ⟨t, 0, none⟩), .int .i64 (r : Int), .int .u32 (key : Int), .int .i64 (len : Int), .func (.yield l) #[] #[]] V fun e V' =>
      (e = .returned (.bool true) ∧ J (pre ++ tel W A h r key) V' ∧ Kpt P V V' ∧ RK W0.heap.size U V V') ∨ (e = .returned (.bool false) ∧ ∃ q, q <+: tel W A h r key ∧ Jx (pre ++ q) V')
theorem kpt_on {P : Nat → Prop} {n₀ : Nat} {A B : World} (hP : ∀ k, P k → k < n₀) (hn : n₀ ≤ A.heap.size) (h : Below A.heap.size A B) : Kpt P A B := ⟨h.size, fun k hk => h.block k (by have := hP k hk; omega)⟩
def kidsL (W : Nat) (A : List Nd) (a b key : Nat) : Nat → List En
  | 0 => []
  | h + 1 => tel W A h a key ++ tel W A h b (key + 2 ^ h)
set_option maxRecDepth 100000 in
set_option maxHeartbeats 8000000 in
theorem tell_step (l t : Nat) (v : Value) (W M : Nat) (A : List Nd) (r0 f c : Nat) (P : Nat → Prop) (U : World → Nat → Prop) (N : Nat) (J Jx : List En → World → Prop) (W0 : World) (tl : Tl l P U N J Jx W0) (hW : W ≤ 32) (hA : A.length ≤ 4294967200) (bd : Bd ⟨A, f, c⟩) (hPt : P t) (hPv : ∀ k, v.ownBlock = some k → P k)
    (h : Nat) (ih : ∀ h', h = h' + 1 → TellP l t v W M A r0 f c P U N J Jx W0 h') : TellP l t v W M A r0 f c P U N J Jx W0 h := by
  intro m r key len pre V hr hlen hkm hkb hN hz hUV hT hJ
  by_cases hr0 : r = 0
  · subst hr0
    have HJ : Hid (J (pre ++ tel W A h 0 key) V) := by rw [tel_z, List.append_nil]; exact hJ
    refine callsIn_of_wp Try.func28 rfl trivial ?_ rfl
    simp only [Try.ntmps28, List.size_toArray, List.length_cons, List.length_nil, Nat.reduceAdd, Nat.reduceSub, Array.replicate_succ, Array.replicate_zero, List.push_toArray, List.append_toArray, List.nil_append, List.cons_append]
    gi_wp2
    refine bodyPost_ret (results_tmp rfl _ _ _) rfl ?_
    exact .inl ⟨rfl, HJ.out, kpt_r _, RK.refl _⟩
  · have hr0' : ¬ (r : Int) = 0 := by omega
    have hnd := nodeC t v W M A r0 f c r V hT (by omega) (by omega) hr
    have HT : Hid (Tri V t v W M A r0 f c) := hT
    have HJ : Hid (J pre V) := hJ
    obtain ⟨d0, hd0⟩ : ∃ d0, d0 = gt A r := ⟨_, rfl⟩
    rw [← hd0] at hnd
    -- what is told: its own key, and what lies below
    obtain ⟨O, hO⟩ : ∃ O, O = ownE d0 key len := ⟨_, rfl⟩
    obtain ⟨K, hK⟩ : ∃ K : List En, K = kidsL W A d0.a d0.b key h := ⟨_, rfl⟩
    have HTE : Hid (tel W A h r key = O ++ K) := by
      show _ = _
      rw [hO, hK, hd0]
      cases h with
      | zero => simp only [tel, kidsL, List.append_nil]; rw [if_neg hr0, show len = W by omega]
      | succ h' => simp only [tel, kidsL]; rw [if_neg hr0, show len = W - (h' + 1) by omega]
    rw [HTE.out] at hN ⊢
    have hlt := hT.lt
    have hka := (bd.2 r).1
    have hkb2 := (bd.2 r).2
    dsimp only at hka hkb2
    rw [← hd0] at hka hkb2
    clear hT hJ hd0 HTE
    obtain ⟨da, db, dh, dv⟩ := d0
    have HO : Hid (O = ownE ⟨da, db, dh, dv⟩ key len) := hO
    have HKd : Hid (K = kidsL W A da db key h) := hK
    clear hO hK
    dsimp only at hnd hka hkb2
    refine callsIn_of_wp Try.func28 rfl trivial ?_ rfl
    simp only [Try.ntmps28, List.size_toArray, List.length_cons, List.length_nil, Nat.reduceAdd, Nat.reduceSub, Array.replicate_succ, Array.replicate_zero, List.push_toArray, List.append_toArray, List.nil_append, List.cons_append]
    cases dh
    · obtain rfl : O = [] := HO.out
      gi_wp2_with (fail)
      refine ⟨trivial, fun h => (by simp [Fence.wide] at h), ?_⟩
      refine (callsIn_wide.2 hnd).mono ?_
      rintro e V1 ⟨rfl, hb1⟩
      have bA : Below V1.heap.size V1 (V1.alloc (.cells #[.int .i64 (da : Int), .int .i64 (db : Int), .bool false, .int .i64 dv] 70)) := (Below.refl _ _).alloc (Nat.le_refl _) _
      have HB2 : Hid (Below V.heap.size V (V1.alloc (.cells #[.int .i64 (da : Int), .int .i64 (db : Int), .bool false, .int .i64 dv] 70))) := hb1.trans (bA.mono hb1.size)
      have HX2 : Hid ((V1.alloc (.cells #[.int .i64 (da : Int), .int .i64 (db : Int), .bool false, .int .i64 dv] 70)).heap[V1.heap.size]? = some (.cells #[.int .i64 (da : Int), .int .i64 (db : Int), .bool false, .int .i64 dv] 70)) := blk_new V1 _
      have hXB : W0.heap.size ≤ V1.heap.size := Nat.le_trans hz hb1.size
      have hnU2 : ¬ U (V1.alloc (.cells #[.int .i64 (da : Int), .int .i64 (db : Int), .bool false, .int .i64 dv] 70)) V1.heap.size := not_u tl.stab hz HB2.out hUV hb1.size
      clear hb1 bA hnd
      have HT2 : Hid (Tri (V1.alloc (.cells #[.int .i64 (da : Int), .int .i64 (db : Int), .bool false, .int .i64 dv] 70)) t v W M A r0 f c) := HT.out.on HB2.out
      have HJ2 : Hid (J pre (V1.alloc (.cells #[.int .i64 (da : Int), .int .i64 (db : Int), .bool false, .int .i64 dv] 70))) := tl.grow HJ.out HB2.out
      have HR2 : Hid (RK W0.heap.size U V (V1.alloc (.cells #[.int .i64 (da : Int), .int .i64 (db : Int), .bool false, .int .i64 dv] 70))) := RK.below tl.stab hz HB2.out
      have HK2 : Hid (Kpt P V (V1.alloc (.cells #[.int .i64 (da : Int), .int .i64 (db : Int), .bool false, .int .i64 dv] 70))) := kpt_on tl.plt hz HB2.out
      have hz2 : W0.heap.size ≤ (V1.alloc (.cells #[.int .i64 (da : Int), .int .i64 (db : Int), .bool false, .int .i64 dv] 70)).heap.size := Nat.le_trans hz HB2.out.size
      have hU2 := rk_lt HR2.out hUV
      gi_wp2_with (fail)
      refine ⟨fun _ h => (by cases h), ?_⟩
      generalize V1.alloc (.cells #[.int .i64 (da : Int), .int .i64 (db : Int), .bool false, .int .i64 dv] 70) = V3 at *
      generalize V1.heap.size = XB at *
      have HX3 := HX2
      have HT3 := HT2
      have HJ3 : Hid (J (pre ++ []) V3) := by rw [List.append_nil]; exact HJ2.out
      have HR3 := HR2
      have HK3 := HK2
      have hnU3 := hnU2
      have hz3 := hz2
      have hU3 := hU2
      clear HX2 HT2 HJ2 HR2 HK2 hnU2 hz2 hU2 HB2
      obtain ⟨x0, x1, x2, x3⟩ := blk4 HX3.out
      obtain ⟨c0, c1, c2, c3, c4, c5⟩ := blk6 HT3.out.1
      cases h with
      | zero =>
        obtain rfl : len = W := by omega
        have HJ4 : Hid (J (pre ++ (([] : List En) ++ K)) V3) := by show J (pre ++ (([] : List En) ++ K)) V3; rw [HKd.out]; simpa [kidsL] using HJ3.out
        gi_wp2_with (fail)
        refine bodyPost_ret (results_tmp rfl _ _ _) rfl ?_
        exact .inl ⟨rfl, HJ4.out, HK3.out, HR3.out⟩
      | succ h' =>
        have hlw : ¬ (len : Int) = (W : Int) := by omega
        have hw1 : W - len = h' + 1 := by omega
        have hw2 : W - (len + 1) = h' := by omega
        have hb1 := beyondC t W len V3 HT3.out.wid (by omega) hW
        have hb2 := beyondC t W (len + 1) V3 HT3.out.wid (by omega) hW
        rw [hw1] at hb1
        rw [hw2, show ((len + 1 : Nat) : Int) = (len : Int) + 1 by omega] at hb2
        have hpp : 2 ^ (h' + 1) = 2 ^ h' + 2 ^ h' := by rw [Nat.pow_succ]; omega
        have hpo := Nat.two_pow_pos h'
        have hhi := high_int key h' (by omega) hkm (by omega)
        obtain ⟨m1, m2⟩ := mod_half hkm
        have HKE : Hid (K = tel W A h' da key ++ tel W A h' db (key + 2 ^ h')) := HKd.out
        obtain ⟨K2, hK2⟩ : ∃ K2, K2 = key + 2 ^ h' := ⟨_, rfl⟩
        rw [← hK2] at hhi HKE m2
        have hK2b : K2 + 2 ^ h' ≤ 4294967296 := by omega
        rw [HKE.out, List.length_append, List.length_append] at hN
        generalize (2 ^ (h' + 1) - 1 : Nat) = Y1 at hb1 hhi
        generalize (2 ^ h' - 1 : Nat) = Y2 at hb2 hhi
        have hi1 := fun n => ih h' rfl n da key (len + 1) (pre ++ ([] : List En)) V3 hka (by omega) m1 (by omega) (by rw [List.length_append]; omega) hz3 hU3 HT3.out HJ3.out
        rw [show ((len + 1 : Nat) : Int) = (len : Int) + 1 by omega] at hi1
        clear HKd hK2
        gi_wp2_with (fail)
        refine ⟨trivial, fun h => (by simp [Fence.wide] at h), (callsIn_wide.2 hb1).mono ?_⟩
        rintro e w' ⟨rfl, hw⟩
        obtain rfl := hw.symm
        clear hw hb1
        gi_wp2_with (fail)
        refine ⟨trivial, fun h => (by simp [Fence.wide] at h), (callsIn_wide.2 hb2).mono ?_⟩
        rintro e w' ⟨rfl, hw⟩
        obtain rfl := hw.symm
        clear hw hb2
        gi_wp2_with (fail)
        refine ⟨trivial, fun h => (by simp [Fence.wide] at h), (hi1 _).mono ?_⟩
        rintro e V4 (⟨rfl, j4, k4, r4⟩ | ⟨rfl, q, hq, jx⟩)
        · have HT4 : Hid (Tri V4 t v W M A r0 f c) := HT3.out.onP k4 hPt hPv
          have HX4 : Hid (V4.heap[XB]? = some (.cells #[.int .i64 (da : Int), .int .i64 (db : Int), .bool false, .int .i64 dv] 70)) := rk_blk r4 HX3.out hXB hnU3
          have HK4 : Hid (Kpt P V V4) := kpt_t HK3.out k4
          have HR4 : Hid (RK W0.heap.size U V V4) := HR3.out.trans r4
          have hz4 : W0.heap.size ≤ V4.heap.size := Nat.le_trans hz3 r4.1.size
          have hU4 := rk_lt r4 hU3
          have hi2 := fun n => ih h' rfl n db K2 (len + 1) (pre ++ ([] : List En) ++ tel W A h' da key) V4 hkb2 (by omega) m2 hK2b (by rw [List.length_append, List.length_append]; omega) hz4 hU4 HT4.out j4
          rw [show ((len + 1 : Nat) : Int) = (len : Int) + 1 by omega] at hi2
          have hhc : ((K2 : Nat) : Int) = (K2 : Int) := rfl
          clear j4 k4 r4 hi1 x0 x1 x2 x3 c0 c1 c2 c3 c4 c5
          obtain ⟨x0, x1, x2, x3⟩ := blk4 HX4.out
          gi_wp2_with (fail)
          refine ⟨trivial, fun h => (by simp [Fence.wide] at h), (hi2 _).mono ?_⟩
          rintro e V5 (⟨rfl, j5, k5, r5⟩ | ⟨rfl, q, hq, jx⟩)
          · have HJ5 : Hid (J (pre ++ (([] : List En) ++ K)) V5) := by rw [HKE.out, show pre ++ (([] : List En) ++ (tel W A h' da key ++ tel W A h' db K2)) = pre ++ ([] : List En) ++ tel W A h' da key ++ tel W A h' db K2 by simp [List.append_assoc]]; exact j5
            have HK5 : Hid (Kpt P V V5) := kpt_t HK4.out k5
            have HR5 : Hid (RK W0.heap.size U V V5) := HR4.out.trans r5
            clear j5 k5 r5 hi2
            gi_wp2_with (fail)
            refine bodyPost_ret (results_tmp rfl _ _ _) rfl ?_
            exact .inl ⟨rfl, HJ5.out, HK5.out, HR5.out⟩
          · have HJ5 : Hid (∃ q, q <+: ([] : List En) ++ K ∧ Jx (pre ++ q) V5) := ⟨([] : List En) ++ (tel W A h' da key ++ q), by rw [HKE.out, List.prefix_append_right_inj, List.prefix_append_right_inj]; exact hq, by simpa [List.append_assoc] using jx⟩
            clear jx hi2
            gi_wp2_with (fail)
            refine bodyPost_ret (results_tmp rfl _ _ _) rfl ?_
            exact .inr ⟨rfl, HJ5.out⟩
        · have HJ5 : Hid (∃ q, q <+: ([] : List En) ++ K ∧ Jx (pre ++ q) V4) := ⟨([] : List En) ++ q, by rw [HKE.out, List.prefix_append_right_inj]; exact List.IsPrefix.trans hq (List.prefix_append _ _), by simpa [List.append_assoc] using jx⟩
          clear jx hi1
          gi_wp2_with (fail)
          refine ⟨trivial, ?_⟩
          gi_wp2_with (fail)
          refine bodyPost_ret (results_tmp rfl _ _ _) rfl ?_
          exact .inr ⟨rfl, HJ5.out⟩
    · obtain rfl : O = [⟨key, len, dv⟩] := HO.out
      gi_wp2_with (fail)
      refine ⟨trivial, fun h => (by simp [Fence.wide] at h), ?_⟩
      refine (callsIn_wide.2 hnd).mono ?_
      rintro e V1 ⟨rfl, hb1⟩
      have bA : Below V1.heap.size V1 (V1.alloc (.cells #[.int .i64 (da : Int), .int .i64 (db : Int), .bool true, .int .i64 dv] 70)) := (Below.refl _ _).alloc (Nat.le_refl _) _
      have HB2 : Hid (Below V.heap.size V (V1.alloc (.cells #[.int .i64 (da : Int), .int .i64 (db : Int), .bool true, .int .i64 dv] 70))) := hb1.trans (bA.mono hb1.size)
      have HX2 : Hid ((V1.alloc (.cells #[.int .i64 (da : Int), .int .i64 (db : Int), .bool true, .int .i64 dv] 70)).heap[V1.heap.size]? = some (.cells #[.int .i64 (da : Int), .int .i64 (db : Int), .bool true, .int .i64 dv] 70)) := blk_new V1 _
      have hXB : W0.heap.size ≤ V1.heap.size := Nat.le_trans hz hb1.size
      have hnU2 : ¬ U (V1.alloc (.cells #[.int .i64 (da : Int), .int .i64 (db : Int), .bool true, .int .i64 dv] 70)) V1.heap.size := not_u tl.stab hz HB2.out hUV hb1.size
      clear hb1 bA hnd
      have HT2 : Hid (Tri (V1.alloc (.cells #[.int .i64 (da : Int), .int .i64 (db : Int), .bool true, .int .i64 dv] 70)) t v W M A r0 f c) := HT.out.on HB2.out
      have HJ2 : Hid (J pre (V1.alloc (.cells #[.int .i64 (da : Int), .int .i64 (db : Int), .bool true, .int .i64 dv] 70))) := tl.grow HJ.out HB2.out
      have HR2 : Hid (RK W0.heap.size U V (V1.alloc (.cells #[.int .i64 (da : Int), .int .i64 (db : Int), .bool true, .int .i64 dv] 70))) := RK.below tl.stab hz HB2.out
      have HK2 : Hid (Kpt P V (V1.alloc (.cells #[.int .i64 (da : Int), .int .i64 (db : Int), .bool true, .int .i64 dv] 70))) := kpt_on tl.plt hz HB2.out
      have hz2 : W0.heap.size ≤ (V1.alloc (.cells #[.int .i64 (da : Int), .int .i64 (db : Int), .bool true, .int .i64 dv] 70)).heap.size := Nat.le_trans hz HB2.out.size
      have hU2 := rk_lt HR2.out hUV
      have hlenN : pre.length < N := by rw [List.length_append] at hN; simp at hN; omega
      obtain ⟨fn, tmps, assign, body, hy, hR⟩ := tl.yld (m - 1) pre ⟨key, len, dv⟩ _ HJ2.out hlenN hz2
      dsimp only [encY] at hy
      gi_wp2_with (fail)
      refine ⟨fun h => (by simp [Fence.wide] at h), hR.mono ?_⟩
      rintro e V3 ⟨hrk, ⟨rfl, hJ3, hk3⟩ | ⟨rfl, hJx3⟩⟩
      · have HX3 : Hid (V3.heap[V1.heap.size]? = some (.cells #[.int .i64 (da : Int), .int .i64 (db : Int), .bool true, .int .i64 dv] 70)) := rk_blk hrk HX2.out hXB hnU2
        have HT3 : Hid (Tri V3 t v W M A r0 f c) := HT2.out.onP hk3 hPt hPv
        have HJ3 : Hid (J (pre ++ [(⟨key, len, dv⟩ : En)]) V3) := hJ3
        have HR3 : Hid (RK W0.heap.size U V V3) := HR2.out.trans hrk
        have HK3 : Hid (Kpt P V V3) := kpt_t HK2.out hk3
        have hnU3 : ¬ U V3 V1.heap.size := fun e => by
          rcases hrk.2.2 _ e with q | q
          · exact hnU2 q
          · have := blk_lt HX2.out; omega
        have hz3 : W0.heap.size ≤ V3.heap.size := Nat.le_trans hz2 hrk.1.size
        have hU3 := rk_lt hrk hU2
        clear HX2 HT2 HJ2 HR2 HK2 hnU2 hz2 hU2 HB2 hy hR hrk hJ3 hk3
        generalize V1.heap.size = XB at *
        obtain ⟨x0, x1, x2, x3⟩ := blk4 HX3.out
        obtain ⟨c0, c1, c2, c3, c4, c5⟩ := blk6 HT3.out.1
        cases h with
        | zero =>
          obtain rfl : len = W := by omega
          have HJ4 : Hid (J (pre ++ ([(⟨key, len, dv⟩ : En)] ++ K)) V3) := by show J (pre ++ ([(⟨key, len, dv⟩ : En)] ++ K)) V3; rw [HKd.out]; simpa [kidsL] using HJ3.out
          gi_wp2_with (fail)
          refine bodyPost_ret (results_tmp rfl _ _ _) rfl ?_
          exact .inl ⟨rfl, HJ4.out, HK3.out, HR3.out⟩
        | succ h' =>
          have hlw : ¬ (len : Int) = (W : Int) := by omega
          have hw1 : W - len = h' + 1 := by omega
          have hw2 : W - (len + 1) = h' := by omega
          have hb1 := beyondC t W len V3 HT3.out.wid (by omega) hW
          have hb2 := beyondC t W (len + 1) V3 HT3.out.wid (by omega) hW
          rw [hw1] at hb1
          rw [hw2, show ((len + 1 : Nat) : Int) = (len : Int) + 1 by omega] at hb2
          have hpp : 2 ^ (h' + 1) = 2 ^ h' + 2 ^ h' := by rw [Nat.pow_succ]; omega
          have hpo := Nat.two_pow_pos h'
          have hhi := high_int key h' (by omega) hkm (by omega)
          obtain ⟨m1, m2⟩ := mod_half hkm
          have HKE : Hid (K = tel W A h' da key ++ tel W A h' db (key + 2 ^ h')) := HKd.out
          obtain ⟨K2, hK2⟩ : ∃ K2, K2 = key + 2 ^ h' := ⟨_, rfl⟩
          rw [← hK2] at hhi HKE m2
          have hK2b : K2 + 2 ^ h' ≤ 4294967296 := by omega
          rw [HKE.out, List.length_append, List.length_append] at hN
          generalize (2 ^ (h' + 1) - 1 : Nat) = Y1 at hb1 hhi
          generalize (2 ^ h' - 1 : Nat) = Y2 at hb2 hhi
          have hi1 := fun n => ih h' rfl n da key (len + 1) (pre ++ [(⟨key, len, dv⟩ : En)]) V3 hka (by omega) m1 (by omega) (by rw [List.length_append]; omega) hz3 hU3 HT3.out HJ3.out
          rw [show ((len + 1 : Nat) : Int) = (len : Int) + 1 by omega] at hi1
          clear HKd hK2
          gi_wp2_with (fail)
          refine ⟨trivial, fun h => (by simp [Fence.wide] at h), (callsIn_wide.2 hb1).mono ?_⟩
          rintro e w' ⟨rfl, hw⟩
          obtain rfl := hw.symm
          clear hw hb1
          gi_wp2_with (fail)
          refine ⟨trivial, fun h => (by simp [Fence.wide] at h), (callsIn_wide.2 hb2).mono ?_⟩
          rintro e w' ⟨rfl, hw⟩
          obtain rfl := hw.symm
          clear hw hb2
          gi_wp2_with (fail)
          refine ⟨trivial, fun h => (by simp [Fence.wide] at h), (hi1 _).mono ?_⟩
          rintro e V4 (⟨rfl, j4, k4, r4⟩ | ⟨rfl, q, hq, jx⟩)
          · have HT4 : Hid (Tri V4 t v W M A r0 f c) := HT3.out.onP k4 hPt hPv
            have HX4 : Hid (V4.heap[XB]? = some (.cells #[.int .i64 (da : Int), .int .i64 (db : Int), .bool true, .int .i64 dv] 70)) := rk_blk r4 HX3.out hXB hnU3
            have HK4 : Hid (Kpt P V V4) := kpt_t HK3.out k4
            have HR4 : Hid (RK W0.heap.size U V V4) := HR3.out.trans r4
            have hz4 : W0.heap.size ≤ V4.heap.size := Nat.le_trans hz3 r4.1.size
            have hU4 := rk_lt r4 hU3
            have hi2 := fun n => ih h' rfl n db K2 (len + 1) (pre ++ [(⟨key, len, dv⟩ : En)] ++ tel W A h' da key) V4 hkb2 (by omega) m2 hK2b (by rw [List.length_append, List.length_append]; omega) hz4 hU4 HT4.out j4
            rw [show ((len + 1 : Nat) : Int) = (len : Int) + 1 by omega] at hi2
            have hhc : ((K2 : Nat) : Int) = (K2 : Int) := rfl
            clear j4 k4 r4 hi1 x0 x1 x2 x3 c0 c1 c2 c3 c4 c5
            obtain ⟨x0, x1, x2, x3⟩ := blk4 HX4.out
            gi_wp2_with (fail)
            refine ⟨trivial, fun h => (by simp [Fence.wide] at h), (hi2 _).mono ?_⟩
            rintro e V5 (⟨rfl, j5, k5, r5⟩ | ⟨rfl, q, hq, jx⟩)
            · have HJ5 : Hid (J (pre ++ ([(⟨key, len, dv⟩ : En)] ++ K)) V5) := by rw [HKE.out, show pre ++ ([(⟨key, len, dv⟩ : En)] ++ (tel W A h' da key ++ tel W A h' db K2)) = pre ++ [(⟨key, len, dv⟩ : En)] ++ tel W A h' da key ++ tel W A h' db K2 by simp [List.append_assoc]]; exact j5
              have HK5 : Hid (Kpt P V V5) := kpt_t HK4.out k5
              have HR5 : Hid (RK W0.heap.size U V V5) := HR4.out.trans r5
              clear j5 k5 r5 hi2
              gi_wp2_with (fail)
              refine bodyPost_ret (results_tmp rfl _ _ _) rfl ?_
              exact .inl ⟨rfl, HJ5.out, HK5.out, HR5.out⟩
            · have HJ5 : Hid (∃ q, q <+: [(⟨key, len, dv⟩ : En)] ++ K ∧ Jx (pre ++ q) V5) := ⟨[(⟨key, len, dv⟩ : En)] ++ (tel W A h' da key ++ q), by rw [HKE.out, List.prefix_append_right_inj, List.prefix_append_right_inj]; exact hq, by simpa [List.append_assoc] using jx⟩
              clear jx hi2
              gi_wp2_with (fail)
              refine bodyPost_ret (results_tmp rfl _ _ _) rfl ?_
              exact .inr ⟨rfl, HJ5.out⟩
          · have HJ5 : Hid (∃ q, q <+: [(⟨key, len, dv⟩ : En)] ++ K ∧ Jx (pre ++ q) V4) := ⟨[(⟨key, len, dv⟩ : En)] ++ q, by rw [HKE.out, List.prefix_append_right_inj]; exact List.IsPrefix.trans hq (List.prefix_append _ _), by simpa [List.append_assoc] using jx⟩
            clear jx hi1
            gi_wp2_with (fail)
            refine ⟨trivial, ?_⟩
            gi_wp2_with (fail)
            refine bodyPost_ret (results_tmp rfl _ _ _) rfl ?_
            exact .inr ⟨rfl, HJ5.out⟩
      · have HJ5 : Hid (∃ q, q <+: [(⟨key, len, dv⟩ : En)] ++ K ∧ Jx (pre ++ q) V3) := ⟨[⟨key, len, dv⟩], List.prefix_append _ _, hJx3⟩
        clear hy hR hrk hJx3
        gi_wp2_with (fail)
        refine bodyPost_ret (results_tmp rfl _ _ _) rfl ?_
        exact .inr ⟨rfl, HJ5.out⟩
theorem tellC (l t : Nat) (v : Value) (W M : Nat) (A : List Nd) (r0 f c : Nat) (P : Nat → Prop) (U : World → Nat → Prop) (N : Nat) (J Jx : List En → World → Prop) (W0 : World) (tl : Tl l P U N J Jx W0) (hW : W ≤ 32) (hA : A.length ≤ 4294967200) (bd : Bd ⟨A, f, c⟩) (hPt : P t) (hPv : ∀ k, v.ownBlock = some k → P k) : ∀ h, TellP l t v W M A r0 f c P U N J Jx W0 h
  | 0 => tell_step l t v W M A r0 f c P U N J Jx W0 tl hW hA bd hPt hPv 0 (fun h' e => by omega)
  | h + 1 => tell_step l t v W M A r0 f c P U N J Jx W0 tl hW hA bd hPt hPv (h + 1) (fun h' e => by
      obtain rfl : h' = h := by omega
      exact tellC l t v W M A r0 f c P U N J Jx W0 tl hW hA bd hPt hPv h')
set_option maxRecDepth 100000 in
set_option maxHeartbeats 8000000 in
theorem walk1_in (m l Bt t : Nat) (P : Nat → Prop) (v : Value) (W M : Nat) (A : List Nd) (r f c : Nat) (L : List En) (hi : Inv W M A r f c L) (hW : W ≤ 32) (hM : M ≤ 1048576) (hPt : P t) (hPb : P Bt) (hPv : ∀ k, v.ownBlock = some k → P k)
    (U : World → Nat → Prop) (J Jx : List En → World → Prop) (W0 : World) (tl : Tl l P U L.length J Jx W0) (hUW : ∀ k, U W0 k → k < W0.heap.size)
    (hC : W0.heap[Bt]? = some (.cells #[.pointer (some ⟨t, 0, none⟩)] 23)) (hT : Tri W0 t v W M A r f c) (h0 : J [] W0) :
    CallsIn Fence.wide m Try.prog 27 #[.func (.yield l) #[] #[], .pointer (some ⟨Bt, 0, none⟩)] W0 fun e W' => (∃ v, e = .returned v) ∧ ((∃ ys, ys = L ∧ J ys W') ∨ (∃ pre, pre <+: L ∧ Jx pre W')) := by
  have hla := hi.la
  have hd : Tri W0.drew t v W M A r f c := hT.drew
  have htl := fun n => tellC l t v W M A r f c P U L.length J Jx W0 tl hW (by omega) hi.bd hPt hPv W n r 0 0 [] W0.drew hi.rle (by omega) (by simp) (by have := pow_le32 hW; omega) (by rw [hi.tl]; simp) (Nat.le_refl _) (fun k hk => hUW k (tl.stab W0 W0.drew none k (Nat.le_refl _) ⟨rfl, rfl, rfl, Nat.le_refl _, fun _ _ _ => rfl⟩ (fun r e => by cases e) hk)) hd (tl.own _ _ _ none h0 ⟨rfl, rfl, rfl, Nat.le_refl _, fun _ _ _ => rfl⟩ (fun r e => by cases e))
  rw [hi.tl, List.nil_append] at htl
  have htl2 := fun n => (htl n).mono (R' := fun e V' => ∃ b, e = .returned (.bool b) ∧ Hid ((∃ ys, ys = L ∧ J ys V') ∨ (∃ pre, pre <+: L ∧ Jx pre V'))) (by
    rintro e V4 (⟨rfl, j4, k4, r4⟩ | ⟨rfl, q, hq, jx⟩)
    · exact ⟨true, rfl, .inl ⟨L, rfl, j4⟩⟩
    · exact ⟨false, rfl, .inr ⟨q, hq, jx⟩⟩)
  clear htl
  have b0 := blk_cell hC (j := 0) rfl
  obtain ⟨c0, c1, c2, c3, c4, c5⟩ := blk6 hT.1
  clear tl hT hd h0 hi hC hPv
  have hmx : Try.prog.follows .mixedOrders = true := by kernel_rfl
  refine callsIn_of_wp Try.func27 rfl trivial ?_ rfl
  simp only [Try.ntmps27, List.size_toArray, List.length_cons, List.length_nil, Nat.reduceAdd, Nat.reduceSub, Array.replicate_succ, Array.replicate_zero, List.push_toArray, List.append_toArray, List.nil_append, List.cons_append]
  gi_wp2_with (fail)
  gi_region_with_o (refine ⟨trivial, fun h => (by simp [Fence.wide] at h), ?_⟩; gi_at_call 28; refine (htl2 _).mono ?_; rintro e V4 ⟨b, rfl, hfin⟩)
  all_goals gi_wp2
  all_goals go_end0
  all_goals exact ⟨⟨_, rfl⟩, hfin.out⟩
end Go.Proofs.Ytfbkjghipahipaa
