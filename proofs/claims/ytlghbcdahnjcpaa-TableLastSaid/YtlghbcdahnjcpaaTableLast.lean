/-
  For any rules that may be in one table and any header: a rule of all headers, put behind all others, decides just what nobody decided (P11.7); the examples of the document hold.
  Conditions: none; the law holds for every input.
-/
import Derived.Test.YtlghbcdahnjcpaaTbX
import Derived.Test.YtlghbcdahnjcpaaTbFr
namespace Go.Proofs.Ytlghbcdahnjcpaa
open Go.ChangeShapes Go.WideShapes Go.ChangeAt Go.RowKit Go.Joins
set_option linter.unusedVariables false
set_option linter.unusedSimpArgs false

theorem vd_app {A : Int} {l m : List Ru} {k : Nat} (h : k < l.length) : vdI (l ++ m) (k : Int) = vdI l (k : Int) ∧ vdA A (l ++ m) (k : Int) = vdA A l (k : Int) := by
  have h2 : k < (l ++ m).length := by rw [List.length_append]; omega
  rw [vdI_at h, vdI_at h2, vdA_at h, vdA_at h2, List.getElem_append_left h]
  exact ⟨rfl, rfl⟩
theorem vd_last {A : Int} (l : List Ru) (R : Ru) : vdI (l ++ [R]) (l.length : Int) = R.i ∧ vdA A (l ++ [R]) (l.length : Int) = R.act := by
  have h2 : l.length < (l ++ [R]).length := by simp
  rw [vdI_at h2, vdA_at h2]
  simp
theorem ins_last {l : List Ru} {j : Nat} (hn : l.length < 64) (h1 : 1 ≤ j) (h2 : j ≤ 999999) (hf : fnd l (j : Int) = -1) : insE l 64 (l.length : Int) (allR (j : Int) 4) = 0 ∧ insL l 64 (l.length : Int) (allR (j : Int) 4) = l ++ [allR (j : Int) 4] := by
  have e : insE l 64 (l.length : Int) (allR (j : Int) 4) = 0 := by
    unfold insE
    rw [if_pos (ex_join l (j : Int) 4 (by omega) hf), if_pos (by omega), if_neg (by omega)]
  refine ⟨e, ?_⟩
  unfold insL
  rw [if_pos e, Int.toNat_natCast, putL_end]
set_option maxRecDepth 20000 in
set_option maxHeartbeats 8000000 in
theorem tableLast_walk (l : List Ru) (u : Value) (bd : ∀ R ∈ l, BdR R) (h : Hd) (oh : OkH h) (w : World) (hs : SrcU w u l) :
    Calls Try.prog 7 #[u, .agg #[.int .u32 (h.s : Int), .int .u32 (h.d : Int), .int .u16 (h.p : Int), .int .u16 (h.q : Int), .int .u8 (h.r : Int)]] w fun e w' => e = .returned (.bool true) ∧ Below w.heap.size w w' := by
  have hbd : ∀ k (hk : k < l.length), BdR (l[k]'hk) := fun k hk => bd _ (List.getElem_mem hk)
  by_cases hn64 : 64 ≤ l.length
  · obtain ⟨ad, cap, rfl, hcap, hat⟩ := hs
    clear hat hbd bd
    generalize l.length = n at *
    have hn' : (64 : Int) ≤ (n : Int) := by omega
    go_enter Try.func7, Try.ntmps7
    go_wp2_with (fail)
    go_ret
    exact ⟨rfl, (Below.refl _ _).alloc (Nat.le_refl _) _⟩
  · have hl2 : l.length ≤ 200000 := by omega
    obtain ⟨E, hE⟩ : ∃ E, E = setE l 64 := ⟨_, rfl⟩
    have hset : ∀ (t : Nat) (v : Value) (W : World), Tab W t v 64 1 [] → Below w.heap.size w W → Calls Try.prog 17 #[.pointer (some ⟨t, 0, none⟩), u] W fun e w' => e = .returned (.int .i64 E) ∧ ∃ v', Tab w' t v' 64 1 (if E = 0 then l else []) ∧ Moved W w' t v v' := fun t v W hT hb => by
      rw [hE]
      exact setC t v 64 1 [] u l W hT (hs.keep hb) hl2 (by unfold I64; decide) hbd
    by_cases hE0 : E = 0
    · have ok : OkL 64 l := setE_ok (by rw [← hE]; exact hE0)
      have hins : ∀ (j : Nat), 1 ≤ j → j ≤ l.length + 1 → fnd l (j : Int) = -1 → ∀ (t : Nat) (v : Value) (W : World), Tab W t v 64 1 l → Calls Try.prog 25 #[.pointer (some ⟨t, 0, none⟩), .int .i64 (l.length : Int), .agg #[.int .i64 (allR (j : Int) 4).i, .int .u32 ((allR (j : Int) 4).s : Int), .int .i64 (allR (j : Int) 4).sl, .int .u32 ((allR (j : Int) 4).d : Int), .int .i64 (allR (j : Int) 4).dl, .int .u16 ((allR (j : Int) 4).p.1 : Int), .int .u16 ((allR (j : Int) 4).p.2 : Int), .int .u16 ((allR (j : Int) 4).q.1 : Int), .int .u16 ((allR (j : Int) 4).q.2 : Int), .int .u8 ((allR (j : Int) 4).m.1 : Int), .int .u8 ((allR (j : Int) 4).m.2 : Int), .int .i64 (allR (j : Int) 4).act]] W fun e w' => e = .returned (.int .i64 0) ∧ ∃ v', Tab w' t v' 64 1 (l ++ [allR (j : Int) 4]) ∧ Moved W w' t v v' := fun j h1 h2 hf t v W hT => by
        have := insertC t v 64 1 l (l.length : Int) (allR (j : Int) 4) W hT hl2 (allR_bd _ _ (by unfold I64; omega) (by unfold I64; decide)) (by unfold I64; decide)
        obtain ⟨e1, e2⟩ := ins_last (by omega) h1 (by omega) hf
        rw [e1, e2] at this
        exact this
      have hbd2 : ∀ (j : Nat), j ≤ 65 → ∀ k (hk : k < (l ++ [allR (j : Int) 4]).length), BdR ((l ++ [allR (j : Int) 4])[k]'hk) := fun j hj k hk => by
        rw [List.getElem_append]
        split
        · exact hbd _ _
        · simp only [List.getElem_singleton]
          exact allR_bd _ _ (by unfold I64; omega) (by unfold I64; decide)
      subst hE0
      simp only [if_true] at hset
      rcases mat_range l h with hk | hk
      · -- nobody decided
        have km1 : ∀ (t : Nat) (v : Value) (W : World), Tab W t v 64 1 l → Calls Try.prog 19 #[.pointer (some ⟨t, 0, none⟩), .agg #[.int .u32 (h.s : Int), .int .u32 (h.d : Int), .int .u16 (h.p : Int), .int .u16 (h.q : Int), .int .u8 (h.r : Int)]] W fun e w' => e = .returned (.tuple #[.agg #[.bool false, .int .i64 0, .int .i64 1], .int .i64 (-1)]) ∧ Below W.heap.size W w' := fun t v W hT => by
          have := matchT t v 64 1 l h W hT hl2 hbd oh
          rw [hk] at this
          exact this
        have hm2 : ∀ (j : Nat), 1 ≤ j → j ≤ l.length + 1 → fnd l (j : Int) = -1 → ∀ (t : Nat) (v : Value) (W : World), Tab W t v 64 1 (l ++ [allR (j : Int) 4]) → Calls Try.prog 19 #[.pointer (some ⟨t, 0, none⟩), .agg #[.int .u32 (h.s : Int), .int .u32 (h.d : Int), .int .u16 (h.p : Int), .int .u16 (h.q : Int), .int .u8 (h.r : Int)]] W fun e w' => e = .returned (.tuple #[.agg #[.bool true, .int .i64 (j : Int), .int .i64 4], .int .i64 (l.length : Int)]) ∧ Below W.heap.size W w' := fun j h1 h2 hf t v W hT => by
          have := matchT t v 64 1 (l ++ [allR (j : Int) 4]) h W hT (by simp; omega) (hbd2 j (by omega)) oh
          rw [mat_snoc (by rw [allR_has _ _ _ oh]; exact decide_eq_true (by omega)), if_pos hk, (vd_last (A := 1) l _).1, (vd_last (A := 1) l _).2] at this
          have e : vdH (l.length : Int) = true := decide_eq_true (by omega)
          rw [e] at this
          exact this
        obtain ⟨n, hn⟩ : ∃ n, n = l.length := ⟨_, rfl⟩
        have Hn : Hid (n = l.length) := hn
        have HS : Hid (SrcU w u l) := hs
        obtain ⟨ad, cap, rfl, hcap, hat⟩ := hs
        rw [← hn] at hn64 hset hins hm2 HS ⊢
        clear hat hbd bd ok hbd2 hk hn hE
        have hn' : (n : Int) < 64 := by omega
        have hn'' : ¬ (64 : Int) ≤ (n : Int) := by omega
        go_enter Try.func7, Try.ntmps7
        go_wp2_with (fail)
        have X1 := bel_a1 w (.cells #[.int .u32 (h.s : Int), .int .u32 (h.d : Int), .int .u16 (h.p : Int), .int .u16 (h.q : Int), .int .u8 (h.r : Int)] 45)
        have Nh1 : (w.alloc (.cells #[.int .u32 (h.s : Int), .int .u32 (h.d : Int), .int .u16 (h.p : Int), .int .u16 (h.q : Int), .int .u8 (h.r : Int)] 45)).heap[w.heap.size]? = some (.cells #[.int .u32 (h.s : Int), .int .u32 (h.d : Int), .int .u16 (h.p : Int), .int .u16 (h.q : Int), .int .u8 (h.r : Int)] 45) := (blk_new w (.cells #[.int .u32 (h.s : Int), .int .u32 (h.d : Int), .int .u16 (h.p : Int), .int .u16 (h.q : Int), .int .u8 (h.r : Int)] 45))
        refine (exampleC _).mono ?_
        rintro e W1 ⟨rfl, hb⟩
        have HB1 : Hid (Below w.heap.size w W1) := bel_step (Below.refl _ _) X1 hb
        have Kh1 : Hid (W1.heap[w.heap.size]? = some (.cells #[.int .u32 (h.s : Int), .int .u32 (h.d : Int), .int .u16 (h.p : Int), .int .u16 (h.q : Int), .int .u8 (h.r : Int)] 45)) := blk_on Nh1 hb
        clear X1 hb Nh1
        go_wp2_with (fail)
        have X2 := bel_a1 W1 (.cells #[.int .i64 64, .int .i64 1, .int .i64 1000, .int .i64 1000, .int .i64 1000, .int .i64 4, .int .i64 8] 24)
        have Nc2 : (W1.alloc (.cells #[.int .i64 64, .int .i64 1, .int .i64 1000, .int .i64 1000, .int .i64 1000, .int .i64 4, .int .i64 8] 24)).heap[W1.heap.size]? = some (.cells #[.int .i64 64, .int .i64 1, .int .i64 1000, .int .i64 1000, .int .i64 1000, .int .i64 4, .int .i64 8] 24) := (blk_new W1 (.cells #[.int .i64 64, .int .i64 1, .int .i64 1000, .int .i64 1000, .int .i64 1000, .int .i64 4, .int .i64 8] 24))
        refine (newOk (exC 64) (exC_bd 64 (by unfold I64; decide)) (exC_ok 64 (by decide)) _).mono ?_
        rintro e W2 ⟨t, rfl, hT, ht, hb⟩
        have HB2 : Hid (Below w.heap.size w W2) := bel_step (HB1.out) X2 hb
        have HT2 : Hid (Tab W2 t (.slice none 0 0) 64 1 []) := hT
        have Htw : Hid (w.heap.size ≤ t) := Nat.le_trans (bel_step (HB1.out) X2 (Below.refl _ _)).size ht
        have HG2 : Hid (∀ k, (Value.slice none 0 0).ownBlock = some k → w.heap.size ≤ k) := fun k e => by cases e
        have Kh2 : Hid (Kb W2 t (.slice none 0 0) (w.heap.size) (.cells #[.int .u32 (h.s : Int), .int .u32 (h.d : Int), .int .u16 (h.p : Int), .int .u16 (h.q : Int), .int .u8 (h.r : Int)] 45)) := ⟨blk_on (blk_on Kh1.out X2) hb, by have := blk_lt (blk_on Kh1.out X2); omega, fun e => by cases e⟩
        have Kc2 : Hid (Kb W2 t (.slice none 0 0) (W1.heap.size) (.cells #[.int .i64 64, .int .i64 1, .int .i64 1000, .int .i64 1000, .int .i64 1000, .int .i64 4, .int .i64 8] 24)) := ⟨blk_on Nc2 hb, by have := blk_lt Nc2; omega, fun e => by cases e⟩
        clear X2 hb hT ht Nc2 HB1
        try clear Kh1
        go_wp2_with (fail)
        have X3 := bel_a0 W2
        have T3 := HT2.out.on X3
        refine (hset _ _ _ T3 (bel_step (HB2.out) X3 (Below.refl _ _))).mono ?_
        rintro e W3 ⟨rfl, v3, hT, hm⟩
        have HT3 : Hid (Tab W3 t v3 64 1 l) := hT
        have Hq3 := (bel_step (HB2.out) X3 (Below.refl _ _))
        have HB3 : Hid (Below w.heap.size w W3) := hm.below' Hq3 Hq3.size Htw.out HG2.out
        have HG3 : Hid (∀ k, v3.ownBlock = some k → w.heap.size ≤ k) := hm.ge Hq3.size HG2.out
        have Kh3 : Hid (Kb W3 t v3 (w.heap.size) (.cells #[.int .u32 (h.s : Int), .int .u32 (h.d : Int), .int .u16 (h.p : Int), .int .u16 (h.q : Int), .int .u8 (h.r : Int)] 45)) := (Kh2.out.on X3).moved hm
        have Kc3 : Hid (Kb W3 t v3 (W1.heap.size) (.cells #[.int .i64 64, .int .i64 1, .int .i64 1000, .int .i64 1000, .int .i64 1000, .int .i64 4, .int .i64 8] 24)) := (Kc2.out.on X3).moved hm
        clear X3 hm hT Hq3 T3 HB2
        clear HT2 HG2
        try clear Kh2
        try clear Kc2
        obtain ⟨y0, y1, y2, y3, y4⟩ := blk5 Kh3.out.1
        go_wp2_with (fail)
        clear y0 y1 y2 y3 y4
        have X4 := bel_a0 W3
        have T4 := HT3.out.on X4
        refine (km1 _ _ _ T4).mono ?_
        rintro e W4 ⟨rfl, hb⟩
        have HB4 : Hid (Below w.heap.size w W4) := bel_step (HB3.out) X4 hb
        have HT4 : Hid (Tab W4 t v3 64 1 l) := T4.on hb
        have Kh4 : Hid (Kb W4 t v3 (w.heap.size) (.cells #[.int .u32 (h.s : Int), .int .u32 (h.d : Int), .int .u16 (h.p : Int), .int .u16 (h.q : Int), .int .u8 (h.r : Int)] 45)) := (Kh3.out.on X4).on hb
        have Kc4 : Hid (Kb W4 t v3 (W1.heap.size) (.cells #[.int .i64 64, .int .i64 1, .int .i64 1000, .int .i64 1000, .int .i64 1000, .int .i64 4, .int .i64 8] 24)) := (Kc3.out.on X4).on hb
        clear X4 hb T4 HB3
        clear HT3
        try clear Kh3
        try clear Kc3
        have X5 := bel_a1 W4 (.cells #[.bool false, .int .i64 0, .int .i64 1] 56)
        have Nv5 : (W4.alloc (.cells #[.bool false, .int .i64 0, .int .i64 1] 56)).heap[W4.heap.size]? = some (.cells #[.bool false, .int .i64 0, .int .i64 1] 56) := (blk_new W4 (.cells #[.bool false, .int .i64 0, .int .i64 1] 56))
        have Q0 : Hid (Tab (W4.alloc (.cells #[.bool false, .int .i64 0, .int .i64 1] 56)) t v3 64 1 l) := HT4.out.on X5
        have Q1 : Hid (Kb (W4.alloc (.cells #[.bool false, .int .i64 0, .int .i64 1] 56)) t v3 (w.heap.size) (.cells #[.int .u32 (h.s : Int), .int .u32 (h.d : Int), .int .u16 (h.p : Int), .int .u16 (h.q : Int), .int .u8 (h.r : Int)] 45)) := Kh4.out.on X5
        have Q2 : Hid (Kb (W4.alloc (.cells #[.bool false, .int .i64 0, .int .i64 1] 56)) t v3 (W4.heap.size) (.cells #[.bool false, .int .i64 0, .int .i64 1] 56)) := ⟨Nv5, by have := HT4.out.lt; omega, fun e => by have := HT4.out.own e; omega⟩
        have Q3 : Hid (Below w.heap.size w (W4.alloc (.cells #[.bool false, .int .i64 0, .int .i64 1] 56))) := bel_step HB4.out X5 (Below.refl _ _)
        clear X5 Nv5 HT4 HB4 Kh4 Kc4
        go_wp2_with (fail)
        generalize (W4.alloc (.cells #[.bool false, .int .i64 0, .int .i64 1] 56)) = WL at *
        go_loopw [11] (fun i wr => ∃ j : Nat, 1 ≤ j ∧ j ≤ n + 1 ∧ i = .int .i64 (j : Int) ∧ Hid (∀ x : Nat, 1 ≤ x → x < j → fnd l (x : Int) ≠ -1) ∧ Hid (Tab wr t v3 64 1 l) ∧ Hid (Kb wr t v3 (w.heap.size) (.cells #[.int .u32 (h.s : Int), .int .u32 (h.d : Int), .int .u16 (h.p : Int), .int .u16 (h.q : Int), .int .u8 (h.r : Int)] 45)) ∧ Hid (Kb wr t v3 (W4.heap.size) (.cells #[.bool false, .int .i64 0, .int .i64 1] 56)) ∧ Hid (Below w.heap.size w wr)) (fun i _ => n + 2 - (intOf i).toNat)
        case atStart => exact ⟨1, Nat.le_refl _, by omega, rfl, fun x h1 h2 => by omega, Q0.out, Q1.out, Q2.out, Q3.out⟩
        case round =>
          clear Q0 Q1 Q2 Q3
          clear WL
          obtain ⟨j, hj1, hj2, rfl, HF, HT, HKh, HKv, HB⟩ := hrel
          have hfd := findC t v3 64 1 l (j : Int) wr HT.out hl2
          have hjn : (j : Int) ≤ 64 := by omega
          by_cases hf : fnd l (j : Int) = -1
          · have hEv := fun W => everyC (j : Int) 4 W
            have hIn := hins j hj1 hj2 hf
            have hMa := hm2 j hj1 hj2 hf
            rw [hf] at hfd
            clear hset km1 hins hm2 HF hf
            have HT20 := HT
            have HB20 := HB
            have HG20 := HG3
            have Kh20 := HKh
            have Kv20 := HKv
            clear HT HB HKh HKv
            go_wp2_with (fail)
            have X21 := bel_a0 wr
            have T21 := HT20.out.on X21
            refine (hfd).mono ?_
            rintro e W21 ⟨rfl, hb⟩
            have HB21 : Hid (Below w.heap.size w W21) := bel_step (HB20.out) X21 hb
            have HT21 : Hid (Tab W21 t v3 64 1 l) := T21.on hb
            have Kh21 : Hid (Kb W21 t v3 (w.heap.size) (.cells #[.int .u32 (h.s : Int), .int .u32 (h.d : Int), .int .u16 (h.p : Int), .int .u16 (h.q : Int), .int .u8 (h.r : Int)] 45)) := (Kh20.out.on X21).on hb
            have Kv21 : Hid (Kb W21 t v3 (W4.heap.size) (.cells #[.bool false, .int .i64 0, .int .i64 1] 56)) := (Kv20.out.on X21).on hb
            clear X21 hb T21 HB20
            clear HT20
            generalize hRR : allR (j : Int) 4 = RR at *
            go_wp2_with (fail)
            have X22 := bel_a0 W21
            have T22 := HT21.out.on X22
            refine (hEv _).mono ?_
            rintro e W22 ⟨rfl, hb⟩
            have HB22 : Hid (Below w.heap.size w W22) := bel_step (HB21.out) X22 hb
            have HT22 : Hid (Tab W22 t v3 64 1 l) := T22.on hb
            have Kh22 : Hid (Kb W22 t v3 (w.heap.size) (.cells #[.int .u32 (h.s : Int), .int .u32 (h.d : Int), .int .u16 (h.p : Int), .int .u16 (h.q : Int), .int .u8 (h.r : Int)] 45)) := (Kh21.out.on X22).on hb
            have Kv22 : Hid (Kb W22 t v3 (W4.heap.size) (.cells #[.bool false, .int .i64 0, .int .i64 1] 56)) := (Kv21.out.on X22).on hb
            clear X22 hb T22 HB21
            clear HT21
            try clear Kh21
            try clear Kv21
            go_wp2_with (fail)
            have X23 := bel_a0 W22
            have T23 := HT22.out.on X23
            refine (hIn _ _ _ T23).mono ?_
            rintro e W23 ⟨rfl, v23, hT, hm⟩
            have HT23 : Hid (Tab W23 t v23 64 1 (l ++ [RR])) := hT
            have Hq23 := (bel_step (HB22.out) X23 (Below.refl _ _))
            have HB23 : Hid (Below w.heap.size w W23) := hm.below' Hq23 Hq23.size Htw.out HG20.out
            have HG23 : Hid (∀ k, v23.ownBlock = some k → w.heap.size ≤ k) := hm.ge Hq23.size HG20.out
            have Kh23 : Hid (Kb W23 t v23 (w.heap.size) (.cells #[.int .u32 (h.s : Int), .int .u32 (h.d : Int), .int .u16 (h.p : Int), .int .u16 (h.q : Int), .int .u8 (h.r : Int)] 45)) := (Kh22.out.on X23).moved hm
            have Kv23 : Hid (Kb W23 t v23 (W4.heap.size) (.cells #[.bool false, .int .i64 0, .int .i64 1] 56)) := (Kv22.out.on X23).moved hm
            clear X23 hm hT Hq23 T23 HB22
            clear HT22 HG20
            try clear Kh22
            try clear Kv22
            obtain ⟨y0, y1, y2, y3, y4⟩ := blk5 Kh23.out.1
            go_wp2_with (fail)
            clear y0 y1 y2 y3 y4
            have X24 := bel_a0 W23
            have T24 := HT23.out.on X24
            refine (hMa _ _ _ T24).mono ?_
            rintro e W24 ⟨rfl, hb⟩
            have HB24 : Hid (Below w.heap.size w W24) := bel_step (HB23.out) X24 hb
            have HT24 : Hid (Tab W24 t v23 64 1 (l ++ [RR])) := T24.on hb
            have Kh24 : Hid (Kb W24 t v23 (w.heap.size) (.cells #[.int .u32 (h.s : Int), .int .u32 (h.d : Int), .int .u16 (h.p : Int), .int .u16 (h.q : Int), .int .u8 (h.r : Int)] 45)) := (Kh23.out.on X24).on hb
            have Kv24 : Hid (Kb W24 t v23 (W4.heap.size) (.cells #[.bool false, .int .i64 0, .int .i64 1] 56)) := (Kv23.out.on X24).on hb
            clear X24 hb T24 HB23
            clear HT23
            try clear Kh23
            try clear Kv23
            obtain ⟨p0, p1, p2⟩ := blk3 (blk_alloc Kv24.out.1 (.cells #[.bool true, .int .i64 (j : Int), .int .i64 4] 56))
            go_wp2_with (fail)
            clear p0 p1 p2
            have X25 := bel_a1 W24 (.cells #[.bool true, .int .i64 (j : Int), .int .i64 4] 56)
            have Nz25 : (W24.alloc (.cells #[.bool true, .int .i64 (j : Int), .int .i64 4] 56)).heap[W24.heap.size]? = some (.cells #[.bool true, .int .i64 (j : Int), .int .i64 4] 56) := (blk_new W24 (.cells #[.bool true, .int .i64 (j : Int), .int .i64 4] 56))
            have T25 := HT24.out.on X25
            refine (awakeT _).mono ?_
            rintro e W25 ⟨rfl, hb⟩
            have HB25 : Hid (Below w.heap.size w W25) := bel_step (HB24.out) X25 hb
            have HT25 : Hid (Tab W25 t v23 64 1 (l ++ [RR])) := T25.on hb
            have Kh25 : Hid (Kb W25 t v23 (w.heap.size) (.cells #[.int .u32 (h.s : Int), .int .u32 (h.d : Int), .int .u16 (h.p : Int), .int .u16 (h.q : Int), .int .u8 (h.r : Int)] 45)) := (Kh24.out.on X25).on hb
            have Kv25 : Hid (Kb W25 t v23 (W4.heap.size) (.cells #[.bool false, .int .i64 0, .int .i64 1] 56)) := (Kv24.out.on X25).on hb
            have Qz25 : Kb (W24.alloc (.cells #[.bool true, .int .i64 (j : Int), .int .i64 4] 56)) t v23 (W24.heap.size) (.cells #[.bool true, .int .i64 (j : Int), .int .i64 4] 56) := ⟨Nz25, by have := HT24.out.lt; omega, fun e => by have := HT24.out.own e; omega⟩
            have Kz25 : Hid (Kb W25 t v23 (W24.heap.size) (.cells #[.bool true, .int .i64 (j : Int), .int .i64 4] 56)) := Qz25.on hb
            clear X25 hb T25 Nz25 Qz25 HB24
            clear HT24
            try clear Kh24
            try clear Kv24
            obtain ⟨p0, p1, p2⟩ := blk3 Kv25.out.1
            obtain ⟨r0, r1, r2⟩ := blk3 Kz25.out.1
            have heq := eqV_self
            go_wp2_with (fail)
            go_ret
            exact ⟨ret_bool (by simp), HB25.out⟩
          · have hf0 : 0 ≤ fnd l (j : Int) := by rcases fnd_range l (j : Int) with e | e <;> omega
            have HF2 : Hid (∀ x : Nat, 1 ≤ x → x < j + 1 → fnd l (x : Int) ≠ -1) := fun x h1 h2 => by
              rcases Nat.lt_or_ge x j with c | c
              · exact HF.out x h1 c
              · obtain rfl : x = j := by omega
                exact hf
            have hle : j ≤ n := by rw [Hn.out]; exact ids_few l j (fun x h1 h2 => HF2.out x h1 (by omega))
            generalize fnd l (j : Int) = FF at hfd hf0
            clear hset km1 hins hm2 HF hf
            go_wp2_with (fail)
            refine hfd.mono ?_
            rintro e W9 ⟨rfl, hb⟩
            have HT9 : Hid (Tab W9 t v3 64 1 l) := HT.out.on hb
            have HKh9 : Hid (Kb W9 t v3 (w.heap.size) (.cells #[.int .u32 (h.s : Int), .int .u32 (h.d : Int), .int .u16 (h.p : Int), .int .u16 (h.q : Int), .int .u8 (h.r : Int)] 45)) := HKh.out.on hb
            have HKv9 : Hid (Kb W9 t v3 (W4.heap.size) (.cells #[.bool false, .int .i64 0, .int .i64 1] 56)) := HKv.out.on hb
            have HB9 : Hid (Below w.heap.size w W9) := HB.out.trans (hb.mono HB.out.size)
            clear hb HT HKh HKv HB hfd
            go_wp2_with (fail)
            go_roundw
            case rel => exact ⟨j + 1, by omega, by omega, by go_num, HF2.out, HT9.out, HKh9.out, HKv9.out, HB9.out⟩
            case measure => simp [intOf]; omega

      · -- somebody decided
        obtain ⟨k, hkk⟩ : ∃ k : Nat, mat l h = (k : Int) := ⟨(mat l h).toNat, by omega⟩
        have hkl : k < l.length := by omega
        obtain ⟨I, hI⟩ : ∃ I, I = vdI l (k : Int) := ⟨_, rfl⟩
        obtain ⟨Ac, hAc⟩ : ∃ Ac, Ac = vdA 1 l (k : Int) := ⟨_, rfl⟩
        have eH : vdH (k : Int) = true := decide_eq_true (by omega)
        have km1 : ∀ (t : Nat) (v : Value) (W : World), Tab W t v 64 1 l → Calls Try.prog 19 #[.pointer (some ⟨t, 0, none⟩), .agg #[.int .u32 (h.s : Int), .int .u32 (h.d : Int), .int .u16 (h.p : Int), .int .u16 (h.q : Int), .int .u8 (h.r : Int)]] W fun e w' => e = .returned (.tuple #[.agg #[.bool true, .int .i64 I, .int .i64 Ac], .int .i64 (k : Int)]) ∧ Below W.heap.size W w' := fun t v W hT => by
          have := matchT t v 64 1 l h W hT hl2 hbd oh
          rw [hkk, eH, ← hI, ← hAc] at this
          exact this
        have hm2 : ∀ (j : Nat), 1 ≤ j → j ≤ l.length + 1 → fnd l (j : Int) = -1 → ∀ (t : Nat) (v : Value) (W : World), Tab W t v 64 1 (l ++ [allR (j : Int) 4]) → Calls Try.prog 19 #[.pointer (some ⟨t, 0, none⟩), .agg #[.int .u32 (h.s : Int), .int .u32 (h.d : Int), .int .u16 (h.p : Int), .int .u16 (h.q : Int), .int .u8 (h.r : Int)]] W fun e w' => e = .returned (.tuple #[.agg #[.bool true, .int .i64 I, .int .i64 Ac], .int .i64 (k : Int)]) ∧ Below W.heap.size W w' := fun j h1 h2 hf t v W hT => by
          have := matchT t v 64 1 (l ++ [allR (j : Int) 4]) h W hT (by simp; omega) (hbd2 j (by omega)) oh
          rw [mat_snoc (by rw [allR_has _ _ _ oh]; exact decide_eq_true (by omega)), if_neg (by omega), hkk, (vd_app (A := 1) hkl).1, (vd_app (A := 1) hkl).2, eH, ← hI, ← hAc] at this
          exact this
        obtain ⟨n, hn⟩ : ∃ n, n = l.length := ⟨_, rfl⟩
        have Hn : Hid (n = l.length) := hn
        have HS : Hid (SrcU w u l) := hs
        obtain ⟨ad, cap, rfl, hcap, hat⟩ := hs
        rw [← hn] at hn64 hset hins hm2 HS ⊢
        clear hat hbd bd ok hbd2 hk hn hE hkk hkl hI hAc eH
        have hn' : (n : Int) < 64 := by omega
        have hn'' : ¬ (64 : Int) ≤ (n : Int) := by omega
        go_enter Try.func7, Try.ntmps7
        go_wp2_with (fail)
        have X1 := bel_a1 w (.cells #[.int .u32 (h.s : Int), .int .u32 (h.d : Int), .int .u16 (h.p : Int), .int .u16 (h.q : Int), .int .u8 (h.r : Int)] 45)
        have Nh1 : (w.alloc (.cells #[.int .u32 (h.s : Int), .int .u32 (h.d : Int), .int .u16 (h.p : Int), .int .u16 (h.q : Int), .int .u8 (h.r : Int)] 45)).heap[w.heap.size]? = some (.cells #[.int .u32 (h.s : Int), .int .u32 (h.d : Int), .int .u16 (h.p : Int), .int .u16 (h.q : Int), .int .u8 (h.r : Int)] 45) := (blk_new w (.cells #[.int .u32 (h.s : Int), .int .u32 (h.d : Int), .int .u16 (h.p : Int), .int .u16 (h.q : Int), .int .u8 (h.r : Int)] 45))
        refine (exampleC _).mono ?_
        rintro e W1 ⟨rfl, hb⟩
        have HB1 : Hid (Below w.heap.size w W1) := bel_step (Below.refl _ _) X1 hb
        have Kh1 : Hid (W1.heap[w.heap.size]? = some (.cells #[.int .u32 (h.s : Int), .int .u32 (h.d : Int), .int .u16 (h.p : Int), .int .u16 (h.q : Int), .int .u8 (h.r : Int)] 45)) := blk_on Nh1 hb
        clear X1 hb Nh1
        go_wp2_with (fail)
        have X2 := bel_a1 W1 (.cells #[.int .i64 64, .int .i64 1, .int .i64 1000, .int .i64 1000, .int .i64 1000, .int .i64 4, .int .i64 8] 24)
        have Nc2 : (W1.alloc (.cells #[.int .i64 64, .int .i64 1, .int .i64 1000, .int .i64 1000, .int .i64 1000, .int .i64 4, .int .i64 8] 24)).heap[W1.heap.size]? = some (.cells #[.int .i64 64, .int .i64 1, .int .i64 1000, .int .i64 1000, .int .i64 1000, .int .i64 4, .int .i64 8] 24) := (blk_new W1 (.cells #[.int .i64 64, .int .i64 1, .int .i64 1000, .int .i64 1000, .int .i64 1000, .int .i64 4, .int .i64 8] 24))
        refine (newOk (exC 64) (exC_bd 64 (by unfold I64; decide)) (exC_ok 64 (by decide)) _).mono ?_
        rintro e W2 ⟨t, rfl, hT, ht, hb⟩
        have HB2 : Hid (Below w.heap.size w W2) := bel_step (HB1.out) X2 hb
        have HT2 : Hid (Tab W2 t (.slice none 0 0) 64 1 []) := hT
        have Htw : Hid (w.heap.size ≤ t) := Nat.le_trans (bel_step (HB1.out) X2 (Below.refl _ _)).size ht
        have HG2 : Hid (∀ k, (Value.slice none 0 0).ownBlock = some k → w.heap.size ≤ k) := fun k e => by cases e
        have Kh2 : Hid (Kb W2 t (.slice none 0 0) (w.heap.size) (.cells #[.int .u32 (h.s : Int), .int .u32 (h.d : Int), .int .u16 (h.p : Int), .int .u16 (h.q : Int), .int .u8 (h.r : Int)] 45)) := ⟨blk_on (blk_on Kh1.out X2) hb, by have := blk_lt (blk_on Kh1.out X2); omega, fun e => by cases e⟩
        have Kc2 : Hid (Kb W2 t (.slice none 0 0) (W1.heap.size) (.cells #[.int .i64 64, .int .i64 1, .int .i64 1000, .int .i64 1000, .int .i64 1000, .int .i64 4, .int .i64 8] 24)) := ⟨blk_on Nc2 hb, by have := blk_lt Nc2; omega, fun e => by cases e⟩
        clear X2 hb hT ht Nc2 HB1
        try clear Kh1
        go_wp2_with (fail)
        have X3 := bel_a0 W2
        have T3 := HT2.out.on X3
        refine (hset _ _ _ T3 (bel_step (HB2.out) X3 (Below.refl _ _))).mono ?_
        rintro e W3 ⟨rfl, v3, hT, hm⟩
        have HT3 : Hid (Tab W3 t v3 64 1 l) := hT
        have Hq3 := (bel_step (HB2.out) X3 (Below.refl _ _))
        have HB3 : Hid (Below w.heap.size w W3) := hm.below' Hq3 Hq3.size Htw.out HG2.out
        have HG3 : Hid (∀ k, v3.ownBlock = some k → w.heap.size ≤ k) := hm.ge Hq3.size HG2.out
        have Kh3 : Hid (Kb W3 t v3 (w.heap.size) (.cells #[.int .u32 (h.s : Int), .int .u32 (h.d : Int), .int .u16 (h.p : Int), .int .u16 (h.q : Int), .int .u8 (h.r : Int)] 45)) := (Kh2.out.on X3).moved hm
        have Kc3 : Hid (Kb W3 t v3 (W1.heap.size) (.cells #[.int .i64 64, .int .i64 1, .int .i64 1000, .int .i64 1000, .int .i64 1000, .int .i64 4, .int .i64 8] 24)) := (Kc2.out.on X3).moved hm
        clear X3 hm hT Hq3 T3 HB2
        clear HT2 HG2
        try clear Kh2
        try clear Kc2
        obtain ⟨y0, y1, y2, y3, y4⟩ := blk5 Kh3.out.1
        go_wp2_with (fail)
        clear y0 y1 y2 y3 y4
        have X4 := bel_a0 W3
        have T4 := HT3.out.on X4
        refine (km1 _ _ _ T4).mono ?_
        rintro e W4 ⟨rfl, hb⟩
        have HB4 : Hid (Below w.heap.size w W4) := bel_step (HB3.out) X4 hb
        have HT4 : Hid (Tab W4 t v3 64 1 l) := T4.on hb
        have Kh4 : Hid (Kb W4 t v3 (w.heap.size) (.cells #[.int .u32 (h.s : Int), .int .u32 (h.d : Int), .int .u16 (h.p : Int), .int .u16 (h.q : Int), .int .u8 (h.r : Int)] 45)) := (Kh3.out.on X4).on hb
        have Kc4 : Hid (Kb W4 t v3 (W1.heap.size) (.cells #[.int .i64 64, .int .i64 1, .int .i64 1000, .int .i64 1000, .int .i64 1000, .int .i64 4, .int .i64 8] 24)) := (Kc3.out.on X4).on hb
        clear X4 hb T4 HB3
        clear HT3
        try clear Kh3
        try clear Kc3
        have X5 := bel_a1 W4 (.cells #[.bool true, .int .i64 I, .int .i64 Ac] 56)
        have Nv5 : (W4.alloc (.cells #[.bool true, .int .i64 I, .int .i64 Ac] 56)).heap[W4.heap.size]? = some (.cells #[.bool true, .int .i64 I, .int .i64 Ac] 56) := (blk_new W4 (.cells #[.bool true, .int .i64 I, .int .i64 Ac] 56))
        have Q0 : Hid (Tab (W4.alloc (.cells #[.bool true, .int .i64 I, .int .i64 Ac] 56)) t v3 64 1 l) := HT4.out.on X5
        have Q1 : Hid (Kb (W4.alloc (.cells #[.bool true, .int .i64 I, .int .i64 Ac] 56)) t v3 (w.heap.size) (.cells #[.int .u32 (h.s : Int), .int .u32 (h.d : Int), .int .u16 (h.p : Int), .int .u16 (h.q : Int), .int .u8 (h.r : Int)] 45)) := Kh4.out.on X5
        have Q2 : Hid (Kb (W4.alloc (.cells #[.bool true, .int .i64 I, .int .i64 Ac] 56)) t v3 (W4.heap.size) (.cells #[.bool true, .int .i64 I, .int .i64 Ac] 56)) := ⟨Nv5, by have := HT4.out.lt; omega, fun e => by have := HT4.out.own e; omega⟩
        have Q3 : Hid (Below w.heap.size w (W4.alloc (.cells #[.bool true, .int .i64 I, .int .i64 Ac] 56))) := bel_step HB4.out X5 (Below.refl _ _)
        clear X5 Nv5 HT4 HB4 Kh4 Kc4
        go_wp2_with (fail)
        generalize (W4.alloc (.cells #[.bool true, .int .i64 I, .int .i64 Ac] 56)) = WL at *
        go_loopw [11] (fun i wr => ∃ j : Nat, 1 ≤ j ∧ j ≤ n + 1 ∧ i = .int .i64 (j : Int) ∧ Hid (∀ x : Nat, 1 ≤ x → x < j → fnd l (x : Int) ≠ -1) ∧ Hid (Tab wr t v3 64 1 l) ∧ Hid (Kb wr t v3 (w.heap.size) (.cells #[.int .u32 (h.s : Int), .int .u32 (h.d : Int), .int .u16 (h.p : Int), .int .u16 (h.q : Int), .int .u8 (h.r : Int)] 45)) ∧ Hid (Kb wr t v3 (W4.heap.size) (.cells #[.bool true, .int .i64 I, .int .i64 Ac] 56)) ∧ Hid (Below w.heap.size w wr)) (fun i _ => n + 2 - (intOf i).toNat)
        case atStart => exact ⟨1, Nat.le_refl _, by omega, rfl, fun x h1 h2 => by omega, Q0.out, Q1.out, Q2.out, Q3.out⟩
        case round =>
          clear Q0 Q1 Q2 Q3
          clear WL
          obtain ⟨j, hj1, hj2, rfl, HF, HT, HKh, HKv, HB⟩ := hrel
          have hfd := findC t v3 64 1 l (j : Int) wr HT.out hl2
          have hjn : (j : Int) ≤ 64 := by omega
          by_cases hf : fnd l (j : Int) = -1
          · have hEv := fun W => everyC (j : Int) 4 W
            have hIn := hins j hj1 hj2 hf
            have hMa := hm2 j hj1 hj2 hf
            rw [hf] at hfd
            clear hset km1 hins hm2 HF hf
            have HT20 := HT
            have HB20 := HB
            have HG20 := HG3
            have Kh20 := HKh
            have Kv20 := HKv
            clear HT HB HKh HKv
            go_wp2_with (fail)
            have X21 := bel_a0 wr
            have T21 := HT20.out.on X21
            refine (hfd).mono ?_
            rintro e W21 ⟨rfl, hb⟩
            have HB21 : Hid (Below w.heap.size w W21) := bel_step (HB20.out) X21 hb
            have HT21 : Hid (Tab W21 t v3 64 1 l) := T21.on hb
            have Kh21 : Hid (Kb W21 t v3 (w.heap.size) (.cells #[.int .u32 (h.s : Int), .int .u32 (h.d : Int), .int .u16 (h.p : Int), .int .u16 (h.q : Int), .int .u8 (h.r : Int)] 45)) := (Kh20.out.on X21).on hb
            have Kv21 : Hid (Kb W21 t v3 (W4.heap.size) (.cells #[.bool true, .int .i64 I, .int .i64 Ac] 56)) := (Kv20.out.on X21).on hb
            clear X21 hb T21 HB20
            clear HT20
            generalize hRR : allR (j : Int) 4 = RR at *
            go_wp2_with (fail)
            have X22 := bel_a0 W21
            have T22 := HT21.out.on X22
            refine (hEv _).mono ?_
            rintro e W22 ⟨rfl, hb⟩
            have HB22 : Hid (Below w.heap.size w W22) := bel_step (HB21.out) X22 hb
            have HT22 : Hid (Tab W22 t v3 64 1 l) := T22.on hb
            have Kh22 : Hid (Kb W22 t v3 (w.heap.size) (.cells #[.int .u32 (h.s : Int), .int .u32 (h.d : Int), .int .u16 (h.p : Int), .int .u16 (h.q : Int), .int .u8 (h.r : Int)] 45)) := (Kh21.out.on X22).on hb
            have Kv22 : Hid (Kb W22 t v3 (W4.heap.size) (.cells #[.bool true, .int .i64 I, .int .i64 Ac] 56)) := (Kv21.out.on X22).on hb
            clear X22 hb T22 HB21
            clear HT21
            try clear Kh21
            try clear Kv21
            go_wp2_with (fail)
            have X23 := bel_a0 W22
            have T23 := HT22.out.on X23
            refine (hIn _ _ _ T23).mono ?_
            rintro e W23 ⟨rfl, v23, hT, hm⟩
            have HT23 : Hid (Tab W23 t v23 64 1 (l ++ [RR])) := hT
            have Hq23 := (bel_step (HB22.out) X23 (Below.refl _ _))
            have HB23 : Hid (Below w.heap.size w W23) := hm.below' Hq23 Hq23.size Htw.out HG20.out
            have HG23 : Hid (∀ k, v23.ownBlock = some k → w.heap.size ≤ k) := hm.ge Hq23.size HG20.out
            have Kh23 : Hid (Kb W23 t v23 (w.heap.size) (.cells #[.int .u32 (h.s : Int), .int .u32 (h.d : Int), .int .u16 (h.p : Int), .int .u16 (h.q : Int), .int .u8 (h.r : Int)] 45)) := (Kh22.out.on X23).moved hm
            have Kv23 : Hid (Kb W23 t v23 (W4.heap.size) (.cells #[.bool true, .int .i64 I, .int .i64 Ac] 56)) := (Kv22.out.on X23).moved hm
            clear X23 hm hT Hq23 T23 HB22
            clear HT22 HG20
            try clear Kh22
            try clear Kv22
            obtain ⟨y0, y1, y2, y3, y4⟩ := blk5 Kh23.out.1
            go_wp2_with (fail)
            clear y0 y1 y2 y3 y4
            have X24 := bel_a0 W23
            have T24 := HT23.out.on X24
            refine (hMa _ _ _ T24).mono ?_
            rintro e W24 ⟨rfl, hb⟩
            have HB24 : Hid (Below w.heap.size w W24) := bel_step (HB23.out) X24 hb
            have HT24 : Hid (Tab W24 t v23 64 1 (l ++ [RR])) := T24.on hb
            have Kh24 : Hid (Kb W24 t v23 (w.heap.size) (.cells #[.int .u32 (h.s : Int), .int .u32 (h.d : Int), .int .u16 (h.p : Int), .int .u16 (h.q : Int), .int .u8 (h.r : Int)] 45)) := (Kh23.out.on X24).on hb
            have Kv24 : Hid (Kb W24 t v23 (W4.heap.size) (.cells #[.bool true, .int .i64 I, .int .i64 Ac] 56)) := (Kv23.out.on X24).on hb
            clear X24 hb T24 HB23
            clear HT23
            try clear Kh23
            try clear Kv23
            obtain ⟨p0, p1, p2⟩ := blk3 (blk_alloc Kv24.out.1 (.cells #[.bool true, .int .i64 I, .int .i64 Ac] 56))
            go_wp2_with (fail)
            clear p0 p1 p2
            have X25 := bel_a1 W24 (.cells #[.bool true, .int .i64 I, .int .i64 Ac] 56)
            have Nz25 : (W24.alloc (.cells #[.bool true, .int .i64 I, .int .i64 Ac] 56)).heap[W24.heap.size]? = some (.cells #[.bool true, .int .i64 I, .int .i64 Ac] 56) := (blk_new W24 (.cells #[.bool true, .int .i64 I, .int .i64 Ac] 56))
            have T25 := HT24.out.on X25
            refine (awakeT _).mono ?_
            rintro e W25 ⟨rfl, hb⟩
            have HB25 : Hid (Below w.heap.size w W25) := bel_step (HB24.out) X25 hb
            have HT25 : Hid (Tab W25 t v23 64 1 (l ++ [RR])) := T25.on hb
            have Kh25 : Hid (Kb W25 t v23 (w.heap.size) (.cells #[.int .u32 (h.s : Int), .int .u32 (h.d : Int), .int .u16 (h.p : Int), .int .u16 (h.q : Int), .int .u8 (h.r : Int)] 45)) := (Kh24.out.on X25).on hb
            have Kv25 : Hid (Kb W25 t v23 (W4.heap.size) (.cells #[.bool true, .int .i64 I, .int .i64 Ac] 56)) := (Kv24.out.on X25).on hb
            have Qz25 : Kb (W24.alloc (.cells #[.bool true, .int .i64 I, .int .i64 Ac] 56)) t v23 (W24.heap.size) (.cells #[.bool true, .int .i64 I, .int .i64 Ac] 56) := ⟨Nz25, by have := HT24.out.lt; omega, fun e => by have := HT24.out.own e; omega⟩
            have Kz25 : Hid (Kb W25 t v23 (W24.heap.size) (.cells #[.bool true, .int .i64 I, .int .i64 Ac] 56)) := Qz25.on hb
            clear X25 hb T25 Nz25 Qz25 HB24
            clear HT24
            try clear Kh24
            try clear Kv24
            obtain ⟨p0, p1, p2⟩ := blk3 Kv25.out.1
            obtain ⟨r0, r1, r2⟩ := blk3 Kz25.out.1
            have heq := eqV_self
            go_wp2_with (fail)
            go_ret
            exact ⟨ret_bool (by simp), HB25.out⟩
          · have hf0 : 0 ≤ fnd l (j : Int) := by rcases fnd_range l (j : Int) with e | e <;> omega
            have HF2 : Hid (∀ x : Nat, 1 ≤ x → x < j + 1 → fnd l (x : Int) ≠ -1) := fun x h1 h2 => by
              rcases Nat.lt_or_ge x j with c | c
              · exact HF.out x h1 c
              · obtain rfl : x = j := by omega
                exact hf
            have hle : j ≤ n := by rw [Hn.out]; exact ids_few l j (fun x h1 h2 => HF2.out x h1 (by omega))
            generalize fnd l (j : Int) = FF at hfd hf0
            clear hset km1 hins hm2 HF hf
            go_wp2_with (fail)
            refine hfd.mono ?_
            rintro e W9 ⟨rfl, hb⟩
            have HT9 : Hid (Tab W9 t v3 64 1 l) := HT.out.on hb
            have HKh9 : Hid (Kb W9 t v3 (w.heap.size) (.cells #[.int .u32 (h.s : Int), .int .u32 (h.d : Int), .int .u16 (h.p : Int), .int .u16 (h.q : Int), .int .u8 (h.r : Int)] 45)) := HKh.out.on hb
            have HKv9 : Hid (Kb W9 t v3 (W4.heap.size) (.cells #[.bool true, .int .i64 I, .int .i64 Ac] 56)) := HKv.out.on hb
            have HB9 : Hid (Below w.heap.size w W9) := HB.out.trans (hb.mono HB.out.size)
            clear hb HT HKh HKv HB hfd
            go_wp2_with (fail)
            go_roundw
            case rel => exact ⟨j + 1, by omega, by omega, by go_num, HF2.out, HT9.out, HKh9.out, HKv9.out, HB9.out⟩
            case measure => simp [intOf]; omega

    · have hE' : (E != 0) = true := by simpa using hE0
      obtain ⟨n, hn⟩ : ∃ n, n = l.length := ⟨_, rfl⟩
      obtain ⟨ad, cap, rfl, hcap, hat⟩ := hs
      rw [← hn] at hn64 hset ⊢
      clear hat hbd bd hn hE
      have hn' : (n : Int) < 64 := by omega
      have hn'' : ¬ (64 : Int) ≤ (n : Int) := by omega
      go_enter Try.func7, Try.ntmps7
      go_wp2_with (fail)
      have X1 := bel_a1 w (.cells #[.int .u32 (h.s : Int), .int .u32 (h.d : Int), .int .u16 (h.p : Int), .int .u16 (h.q : Int), .int .u8 (h.r : Int)] 45)
      have Nh1 : (w.alloc (.cells #[.int .u32 (h.s : Int), .int .u32 (h.d : Int), .int .u16 (h.p : Int), .int .u16 (h.q : Int), .int .u8 (h.r : Int)] 45)).heap[w.heap.size]? = some (.cells #[.int .u32 (h.s : Int), .int .u32 (h.d : Int), .int .u16 (h.p : Int), .int .u16 (h.q : Int), .int .u8 (h.r : Int)] 45) := (blk_new w (.cells #[.int .u32 (h.s : Int), .int .u32 (h.d : Int), .int .u16 (h.p : Int), .int .u16 (h.q : Int), .int .u8 (h.r : Int)] 45))
      refine (exampleC _).mono ?_
      rintro e W1 ⟨rfl, hb⟩
      have HB1 : Hid (Below w.heap.size w W1) := bel_step (Below.refl _ _) X1 hb
      have Kh1 : Hid (W1.heap[w.heap.size]? = some (.cells #[.int .u32 (h.s : Int), .int .u32 (h.d : Int), .int .u16 (h.p : Int), .int .u16 (h.q : Int), .int .u8 (h.r : Int)] 45)) := blk_on Nh1 hb
      clear X1 hb Nh1
      go_wp2_with (fail)
      have X2 := bel_a1 W1 (.cells #[.int .i64 64, .int .i64 1, .int .i64 1000, .int .i64 1000, .int .i64 1000, .int .i64 4, .int .i64 8] 24)
      have Nc2 : (W1.alloc (.cells #[.int .i64 64, .int .i64 1, .int .i64 1000, .int .i64 1000, .int .i64 1000, .int .i64 4, .int .i64 8] 24)).heap[W1.heap.size]? = some (.cells #[.int .i64 64, .int .i64 1, .int .i64 1000, .int .i64 1000, .int .i64 1000, .int .i64 4, .int .i64 8] 24) := (blk_new W1 (.cells #[.int .i64 64, .int .i64 1, .int .i64 1000, .int .i64 1000, .int .i64 1000, .int .i64 4, .int .i64 8] 24))
      refine (newOk (exC 64) (exC_bd 64 (by unfold I64; decide)) (exC_ok 64 (by decide)) _).mono ?_
      rintro e W2 ⟨t, rfl, hT, ht, hb⟩
      have HB2 : Hid (Below w.heap.size w W2) := bel_step (HB1.out) X2 hb
      have HT2 : Hid (Tab W2 t (.slice none 0 0) 64 1 []) := hT
      have Htw : Hid (w.heap.size ≤ t) := Nat.le_trans (bel_step (HB1.out) X2 (Below.refl _ _)).size ht
      have HG2 : Hid (∀ k, (Value.slice none 0 0).ownBlock = some k → w.heap.size ≤ k) := fun k e => by cases e
      have Kh2 : Hid (Kb W2 t (.slice none 0 0) (w.heap.size) (.cells #[.int .u32 (h.s : Int), .int .u32 (h.d : Int), .int .u16 (h.p : Int), .int .u16 (h.q : Int), .int .u8 (h.r : Int)] 45)) := ⟨blk_on (blk_on Kh1.out X2) hb, by have := blk_lt (blk_on Kh1.out X2); omega, fun e => by cases e⟩
      have Kc2 : Hid (Kb W2 t (.slice none 0 0) (W1.heap.size) (.cells #[.int .i64 64, .int .i64 1, .int .i64 1000, .int .i64 1000, .int .i64 1000, .int .i64 4, .int .i64 8] 24)) := ⟨blk_on Nc2 hb, by have := blk_lt Nc2; omega, fun e => by cases e⟩
      clear X2 hb hT ht Nc2 HB1
      try clear Kh1
      go_wp2_with (fail)
      have X3 := bel_a0 W2
      have T3 := HT2.out.on X3
      refine (hset _ _ _ T3 (bel_step (HB2.out) X3 (Below.refl _ _))).mono ?_
      rintro e W3 ⟨rfl, v3, hT, hm⟩
      have HT3 : Hid (Tab W3 t v3 64 1 (if E = 0 then l else [])) := hT
      have Hq3 := (bel_step (HB2.out) X3 (Below.refl _ _))
      have HB3 : Hid (Below w.heap.size w W3) := hm.below' Hq3 Hq3.size Htw.out HG2.out
      have HG3 : Hid (∀ k, v3.ownBlock = some k → w.heap.size ≤ k) := hm.ge Hq3.size HG2.out
      have Kh3 : Hid (Kb W3 t v3 (w.heap.size) (.cells #[.int .u32 (h.s : Int), .int .u32 (h.d : Int), .int .u16 (h.p : Int), .int .u16 (h.q : Int), .int .u8 (h.r : Int)] 45)) := (Kh2.out.on X3).moved hm
      have Kc3 : Hid (Kb W3 t v3 (W1.heap.size) (.cells #[.int .i64 64, .int .i64 1, .int .i64 1000, .int .i64 1000, .int .i64 1000, .int .i64 4, .int .i64 8] 24)) := (Kc2.out.on X3).moved hm
      clear X3 hm hT Hq3 T3 HB2
      clear HT2 HG2
      try clear Kh2
      try clear Kc2
      go_wp2_with (fail)
      have X4 := bel_a0 W3
      have T4 := HT3.out.on X4
      refine (awakeT _).mono ?_
      rintro e W4 ⟨rfl, hb⟩
      have HB4 : Hid (Below w.heap.size w W4) := bel_step (HB3.out) X4 hb
      have HT4 : Hid (Tab W4 t v3 64 1 (if E = 0 then l else [])) := T4.on hb
      have Kh4 : Hid (Kb W4 t v3 (w.heap.size) (.cells #[.int .u32 (h.s : Int), .int .u32 (h.d : Int), .int .u16 (h.p : Int), .int .u16 (h.q : Int), .int .u8 (h.r : Int)] 45)) := (Kh3.out.on X4).on hb
      have Kc4 : Hid (Kb W4 t v3 (W1.heap.size) (.cells #[.int .i64 64, .int .i64 1, .int .i64 1000, .int .i64 1000, .int .i64 1000, .int .i64 4, .int .i64 8] 24)) := (Kc3.out.on X4).on hb
      clear X4 hb T4 HB3
      clear HT3
      try clear Kh3
      try clear Kc3
      go_wp2_with (fail)
      go_ret
      exact ⟨rfl, HB4.out⟩

set_option maxRecDepth 100000 in
theorem tableLast_lifted (os : Os) (started : os.Started) (H : Type) (enc : TypeId × Value → H) :
    ReturnsInHanded {} Try.checked os 7 .any (Rows.tableLastSpec.pre6 enc Try.prog Try.f7 Rows.tableLastRow.domain false) (Rows.tableLastSpec.post enc Try.prog Try.f7 false true false false) := by
  refine returnsInHanded_of_change (C := Try.checked) own started (by kernel_rfl) Try.func7
    (ChangeSpec.witness6 (enc := enc) (C := Try.checked) false ⟨#[], #[.slice none 0 0, .agg #[.int .u32 0, .int .u32 0, .int .u16 0, .int .u16 0, .int .u8 0]], []⟩ 8 (by kernel_rfl) (by kernel_rfl) (by kernel_rfl) (by kernel_rfl)) ?_
  intro W base args ds gs before hval0 hW hcnd _
  have hval : ∀ (j : Nat) t v, Try.f7.params[j]? = some t → args[j]? = some v → Value.okWide Try.prog W .any base t v := hval0
  have hW' := hW
  obtain ⟨p, q, hA0, hV, rfl, hfz, hnd⟩ := hW
  have hA : DataW.TrodAll enc Try.prog W 0 (fun _ => true) true Try.f7.params.toList args.toList ds p := hA0
  rw [Try.params7] at hA hval
  obtain ⟨v0, vs0, d0, ds0, p0, q0, hargs, rfl, rfl, h0, r0⟩ := trodAll_cons hA
  obtain ⟨v1, vs1, d1, ds1, p1, q1, rfl, rfl, rfl, h1, r1⟩ := trodAll_cons r0
  obtain ⟨rfl, rfl, rfl⟩ := trodAll_nil r1
  obtain rfl : args = #[v0, v1] := by cases args; simp_all
  obtain ⟨rfl, rfl⟩ := trodVars_none hV
  have hlt0 : ∀ x ∈ p0, x.block < W.heap.size := fun x hx => by simpa using hW'.lt x (by simp [hx])
  obtain ⟨l0, s0, bd0⟩ := open_rus (hval 0 33 v0 rfl rfl) h0
  have hlt1 : ∀ x ∈ p1, x.block < W.heap.size := fun x hx => by simpa using hW'.lt x (by simp [hx])
  obtain ⟨g1, rfl, o1⟩ := open_hd (hval 1 45 v1 rfl rfl) h1
  clear hA0 hval0
  simp only [List.append_nil] at hW'
  refine (tableLast_walk l0 v0 bd0 g1 o1 W s0).mono fun e W' ⟨he, bel⟩ => ?_
  subst he
  exact ⟨_, rfl, _, _, _, [], _, [], hW', trodAll_mk1 (shut_bool Try.underlying4 _), (trodAll_cons_mk (Below.trod laidOut (by kernel_rfl) (of_decide_eq_true (by kernel_rfl)) h0 bel hlt0) (trodAll_cons_mk (Below.trod laidOut (by kernel_rfl) (of_decide_eq_true (by kernel_rfl)) h1 bel hlt1) trodAll_mk0)), rfl, bel.frame _, fun h => by cases h⟩

/-- The given statement. -/
theorem tableLast_holds : Rows.TableLastSaid :=
  OpenClaim.holds_of_wide 7 Try.f7 rfl rfl rfl rfl rfl rfl rfl ⟨rfl, rfl, rfl, rfl, rfl⟩ rfl rfl rfl rfl rfl (by kernel_rfl) Try.func7 (by kernel_rfl)
    (of_decide_eq_true (by kernel_rfl)) (by unfold Func.isWrapper; first | (rw [if_pos (by decide +kernel)]; kernel_rfl) | (rw [if_neg (by decide +kernel)]; exact ⟨rfl, rfl⟩))
    (fun os started H enc _ => tableLast_lifted os started H enc)
#print axioms tableLast_holds
end Go.Proofs.Ytlghbcdahnjcpaa
