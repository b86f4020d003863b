/-
  For any rules that may be in one table, any place and any header: a rule that is taken out, and put in again where it stood, is as if it had stayed (P11.7); the examples of the document hold.
  Conditions: none; the law holds for every input.
-/
import Derived.Test.YtlghbcdahnjcpaaTbX
import Derived.Test.YtlghbcdahnjcpaaTbK
import Derived.Test.YtlghbcdahnjcpaaTbFr
namespace Go.Proofs.Ytlghbcdahnjcpaa
open Go.ChangeShapes Go.WideShapes Go.ChangeAt Go.RowKit Go.Joins
set_option linter.unusedVariables false
set_option linter.unusedSimpArgs false

set_option maxRecDepth 20000 in
set_option maxHeartbeats 8000000 in
theorem tableBack_walk (l : List Ru) (u : Value) (bd : ∀ R ∈ l, BdR R) (p : Int) (wp : (Lit.int .i64 p).wf = true) (h : Hd) (oh : OkH h) (w : World) (hs : SrcU w u l) :
    Calls Try.prog 6 #[u, .int .i64 p, .agg #[.int .u32 (h.s : Int), .int .u32 (h.d : Int), .int .u16 (h.p : Int), .int .u16 (h.q : Int), .int .u8 (h.r : Int)]] w fun e w' => e = .returned (.bool true) ∧ Below w.heap.size w w' := by
  have hbd : ∀ k (hk : k < l.length), BdR (l[k]'hk) := fun k hk => bd _ (List.getElem_mem hk)
  by_cases hn64 : 64 < l.length
  · obtain ⟨ad, cap, rfl, hcap, hat⟩ := hs
    clear hat hbd bd
    generalize l.length = n at *
    have hn' : (64 : Int) < (n : Int) := by omega
    go_enter Try.func6, Try.ntmps6
    go_wp2_with (fail)
    go_ret
    exact ⟨rfl, (Below.refl _ _).alloc (Nat.le_refl _) _⟩
  · have hl2 : l.length ≤ 200000 := by omega
    have hl3 : l.length ≤ 16777216 := by omega
    obtain ⟨E, hE⟩ : ∃ E, E = setE l 64 := ⟨_, rfl⟩
    have hset : ∀ (t : Nat) (v : Value) (W : World), Tab W t v 64 1 [] → Below w.heap.size w W → Calls Try.prog 17 #[.pointer (some ⟨t, 0, none⟩), u] W fun e w' => e = .returned (.int .i64 E) ∧ ∃ v', Tab w' t v' 64 1 (if E = 0 then l else []) ∧ Moved W w' t v v' := fun t v W hT hb => by
      rw [hE]
      exact setC t v 64 1 [] u l W hT (hs.keep hb) hl2 (by unfold I64; decide) hbd
    by_cases hE0 : E = 0
    · have ok : OkL 64 l := setE_ok (by rw [← hE]; exact hE0)
      subst hE0
      simp only [if_true] at hset
      have hru := fun (t : Nat) (v : Value) (W : World) (hT : Tab W t v 64 1 l) => rulesC t v 64 1 l W hT hl2
      by_cases hp : 0 ≤ p ∧ p ≤ (l.length : Int) - 1
      · obtain ⟨k, rfl⟩ : ∃ k : Nat, p = (k : Int) := ⟨p.toNat, by omega⟩
        have hkl : k < l.length := by omega
        obtain ⟨R, hR⟩ : ∃ R, R = l[k]'hkl := ⟨_, rfl⟩
        have hat := fun (t : Nat) (v : Value) (W : World) (hT : Tab W t v 64 1 l) => at_in t v 64 1 l k W hT hl2 hkl R hR
        have bR : BdR R := by rw [hR]; exact hbd k hkl
        have hf : fnd l R.i = (k : Int) := by rw [hR]; exact ok.fnd hkl
        have hlo : (outL l k).length = l.length - 1 := outL_len hkl
        have hdel := fun (t : Nat) (v : Value) (W : World) (hT : Tab W t v 64 1 l) => deleteOk t v 64 1 l R.i k W hT hl2 hf
        have hfi : ∀ (t : Nat) (v : Value) (W : World), Tab W t v 64 1 (outL l k) → Calls Try.prog 24 #[.pointer (some ⟨t, 0, none⟩), .int .i64 R.i] W fun e w' => e = .returned (.int .i64 (-1)) ∧ Below W.heap.size W w' := fun t v W hT => by
          have := findC t v 64 1 (outL l k) R.i W hT (by omega)
          rw [hR, ok.gone hkl, ← hR] at this
          exact this
        have hins : ∀ (t : Nat) (v : Value) (W : World), Tab W t v 64 1 (outL l k) → Calls Try.prog 25 #[.pointer (some ⟨t, 0, none⟩), .int .i64 (k : Int), .agg #[.int .i64 R.i, .int .u32 (R.s : Int), .int .i64 R.sl, .int .u32 (R.d : Int), .int .i64 R.dl, .int .u16 (R.p.1 : Int), .int .u16 (R.p.2 : Int), .int .u16 (R.q.1 : Int), .int .u16 (R.q.2 : Int), .int .u8 (R.m.1 : Int), .int .u8 (R.m.2 : Int), .int .i64 R.act]] W fun e w' => e = .returned (.int .i64 0) ∧ ∃ v', Tab w' t v' 64 1 l ∧ Moved W w' t v v' := fun t v W hT => by
          have := insertOk t v 64 1 (outL l k) k R W hT (by omega) bR (by unfold I64; decide) (joinE_ok.2 ⟨(okR_err R).1 (by rw [hR]; exact ok.may k hkl), by rw [hR]; exact ok.gone hkl⟩) (by omega) (by omega)
          rw [hR, put_out hkl, ← hR] at this
          exact this
        obtain ⟨B1, hB1⟩ : ∃ B1, B1 = vdH (mat l h) := ⟨_, rfl⟩
        obtain ⟨I1, hI1⟩ : ∃ I1, I1 = vdI l (mat l h) := ⟨_, rfl⟩
        obtain ⟨A1, hA1⟩ : ∃ A1, A1 = vdA 1 l (mat l h) := ⟨_, rfl⟩
        obtain ⟨M1, hM1⟩ : ∃ M1, M1 = mat l h := ⟨_, rfl⟩
        have hm : ∀ (t : Nat) (v : Value) (W : World), Tab W t v 64 1 l → Calls Try.prog 19 #[.pointer (some ⟨t, 0, none⟩), .agg #[.int .u32 (h.s : Int), .int .u32 (h.d : Int), .int .u16 (h.p : Int), .int .u16 (h.q : Int), .int .u8 (h.r : Int)]] W fun e w' => e = .returned (.tuple #[.agg #[.bool B1, .int .i64 I1, .int .i64 A1], .int .i64 M1]) ∧ Below W.heap.size W w' := fun t v W hT => by
          rw [hB1, hI1, hA1, hM1]
          exact matchT t v 64 1 l h W hT hl2 hbd oh
        obtain ⟨n, hn⟩ : ∃ n, n = l.length := ⟨_, rfl⟩
        have Hn : Hid (n = l.length) := hn
        have HS : Hid (SrcU w u l) := hs
        obtain ⟨ad, cap, rfl, hcap, hat'⟩ := hs
        rw [← hn] at hn64 hset HS ⊢
        clear hat' hbd bd ok hn hE hf bR hlo hB1 hI1 hA1 hM1 hp wp
        clear hR hkl
        have hn'' : ¬ (64 : Int) < (n : Int) := by omega
        go_enter Try.func6, Try.ntmps6
        go_wp2_with (fail)
        have X1 := bel_a1 w (.cells #[.int .u32 (h.s : Int), .int .u32 (h.d : Int), .int .u16 (h.p : Int), .int .u16 (h.q : Int), .int .u8 (h.r : Int)] 45)
        have Nh1 : (w.alloc (.cells #[.int .u32 (h.s : Int), .int .u32 (h.d : Int), .int .u16 (h.p : Int), .int .u16 (h.q : Int), .int .u8 (h.r : Int)] 45)).heap[w.heap.size]? = some (.cells #[.int .u32 (h.s : Int), .int .u32 (h.d : Int), .int .u16 (h.p : Int), .int .u16 (h.q : Int), .int .u8 (h.r : Int)] 45) := (blk_new w (.cells #[.int .u32 (h.s : Int), .int .u32 (h.d : Int), .int .u16 (h.p : Int), .int .u16 (h.q : Int), .int .u8 (h.r : Int)] 45))
        refine (exampleC _).mono ?_
        rintro e W1 ⟨rfl, hb⟩
        have HB1 : Hid (Below w.heap.size w W1) := bel_step (Below.refl _ _) X1 hb
        have Kh1 : Hid (W1.heap[w.heap.size]? = some (.cells #[.int .u32 (h.s : Int), .int .u32 (h.d : Int), .int .u16 (h.p : Int), .int .u16 (h.q : Int), .int .u8 (h.r : Int)] 45)) := blk_on Nh1 hb
        clear X1 hb Nh1
        go_wp2_with (fail)
        have X2 := bel_a1 W1 (.cells #[.int .i64 64, .int .i64 1, .int .i64 1000, .int .i64 1000, .int .i64 1000, .int .i64 4, .int .i64 8] 24)
        have Nc2 : (W1.alloc (.cells #[.int .i64 64, .int .i64 1, .int .i64 1000, .int .i64 1000, .int .i64 1000, .int .i64 4, .int .i64 8] 24)).heap[W1.heap.size]? = some (.cells #[.int .i64 64, .int .i64 1, .int .i64 1000, .int .i64 1000, .int .i64 1000, .int .i64 4, .int .i64 8] 24) := (blk_new W1 (.cells #[.int .i64 64, .int .i64 1, .int .i64 1000, .int .i64 1000, .int .i64 1000, .int .i64 4, .int .i64 8] 24))
        refine (newOk (exC 64) (exC_bd 64 (by unfold I64; decide)) (exC_ok 64 (by decide)) _).mono ?_
        rintro e W2 ⟨t, rfl, hT, ht, hb⟩
        have HB2 : Hid (Below w.heap.size w W2) := bel_step (HB1.out) X2 hb
        have HT2 : Hid (Tab W2 t (.slice none 0 0) 64 1 []) := hT
        have Htw : Hid (w.heap.size ≤ t) := Nat.le_trans (bel_step (HB1.out) X2 (Below.refl _ _)).size ht
        have HG2 : Hid (∀ k, (Value.slice none 0 0).ownBlock = some k → w.heap.size ≤ k) := fun k e => by cases e
        have Kh2 : Hid (Kb W2 t (.slice none 0 0) (w.heap.size) (.cells #[.int .u32 (h.s : Int), .int .u32 (h.d : Int), .int .u16 (h.p : Int), .int .u16 (h.q : Int), .int .u8 (h.r : Int)] 45)) := ⟨blk_on (blk_on Kh1.out X2) hb, by have := blk_lt (blk_on Kh1.out X2); omega, fun e => by cases e⟩
        have Kc2 : Hid (Kb W2 t (.slice none 0 0) (W1.heap.size) (.cells #[.int .i64 64, .int .i64 1, .int .i64 1000, .int .i64 1000, .int .i64 1000, .int .i64 4, .int .i64 8] 24)) := ⟨blk_on Nc2 hb, by have := blk_lt Nc2; omega, fun e => by cases e⟩
        clear X2 hb hT ht Nc2 HB1
        try clear Kh1
        go_wp2_with (fail)
        have X3 := bel_a0 W2
        have T3 := HT2.out.on X3
        refine (hset _ _ _ T3 (bel_step (HB2.out) X3 (Below.refl _ _))).mono ?_
        rintro e W3 ⟨rfl, v3, hT, hm⟩
        have HT3 : Hid (Tab W3 t v3 64 1 l) := hT
        have Hq3 := (bel_step (HB2.out) X3 (Below.refl _ _))
        have HB3 : Hid (Below w.heap.size w W3) := hm.below' Hq3 Hq3.size Htw.out HG2.out
        have HG3 : Hid (∀ k, v3.ownBlock = some k → w.heap.size ≤ k) := hm.ge Hq3.size HG2.out
        have Kh3 : Hid (Kb W3 t v3 (w.heap.size) (.cells #[.int .u32 (h.s : Int), .int .u32 (h.d : Int), .int .u16 (h.p : Int), .int .u16 (h.q : Int), .int .u8 (h.r : Int)] 45)) := (Kh2.out.on X3).moved hm
        have Kc3 : Hid (Kb W3 t v3 (W1.heap.size) (.cells #[.int .i64 64, .int .i64 1, .int .i64 1000, .int .i64 1000, .int .i64 1000, .int .i64 4, .int .i64 8] 24)) := (Kc2.out.on X3).moved hm
        clear X3 hm hT Hq3 T3 HB2
        clear HT2 HG2
        try clear Kh2
        try clear Kc2
        go_wp2_with (fail)
        have X4 := bel_a0 W3
        have T4 := HT3.out.on X4
        refine (hat _ _ _ T4).mono ?_
        rintro e W4 ⟨rfl, hb⟩
        have HB4 : Hid (Below w.heap.size w W4) := bel_step (HB3.out) X4 hb
        have HT4 : Hid (Tab W4 t v3 64 1 l) := T4.on hb
        have Kh4 : Hid (Kb W4 t v3 (w.heap.size) (.cells #[.int .u32 (h.s : Int), .int .u32 (h.d : Int), .int .u16 (h.p : Int), .int .u16 (h.q : Int), .int .u8 (h.r : Int)] 45)) := (Kh3.out.on X4).on hb
        have Kc4 : Hid (Kb W4 t v3 (W1.heap.size) (.cells #[.int .i64 64, .int .i64 1, .int .i64 1000, .int .i64 1000, .int .i64 1000, .int .i64 4, .int .i64 8] 24)) := (Kc3.out.on X4).on hb
        clear X4 hb T4 HB3
        clear HT3
        try clear Kh3
        try clear Kc3
        obtain ⟨y0, y1, y2, y3, y4⟩ := blk5 (blk_alloc Kh4.out.1 (.cells #[.int .i64 R.i, .int .u32 (R.s : Int), .int .i64 R.sl, .int .u32 (R.d : Int), .int .i64 R.dl, .int .u16 (R.p.1 : Int), .int .u16 (R.p.2 : Int), .int .u16 (R.q.1 : Int), .int .u16 (R.q.2 : Int), .int .u8 (R.m.1 : Int), .int .u8 (R.m.2 : Int), .int .i64 R.act] 43))
        go_wp2_with (fail)
        clear y0 y1 y2 y3 y4
        have X5 := bel_a1 W4 (.cells #[.int .i64 R.i, .int .u32 (R.s : Int), .int .i64 R.sl, .int .u32 (R.d : Int), .int .i64 R.dl, .int .u16 (R.p.1 : Int), .int .u16 (R.p.2 : Int), .int .u16 (R.q.1 : Int), .int .u16 (R.q.2 : Int), .int .u8 (R.m.1 : Int), .int .u8 (R.m.2 : Int), .int .i64 R.act] 43)
        have Nr5 : (W4.alloc (.cells #[.int .i64 R.i, .int .u32 (R.s : Int), .int .i64 R.sl, .int .u32 (R.d : Int), .int .i64 R.dl, .int .u16 (R.p.1 : Int), .int .u16 (R.p.2 : Int), .int .u16 (R.q.1 : Int), .int .u16 (R.q.2 : Int), .int .u8 (R.m.1 : Int), .int .u8 (R.m.2 : Int), .int .i64 R.act] 43)).heap[W4.heap.size]? = some (.cells #[.int .i64 R.i, .int .u32 (R.s : Int), .int .i64 R.sl, .int .u32 (R.d : Int), .int .i64 R.dl, .int .u16 (R.p.1 : Int), .int .u16 (R.p.2 : Int), .int .u16 (R.q.1 : Int), .int .u16 (R.q.2 : Int), .int .u8 (R.m.1 : Int), .int .u8 (R.m.2 : Int), .int .i64 R.act] 43) := (blk_new W4 (.cells #[.int .i64 R.i, .int .u32 (R.s : Int), .int .i64 R.sl, .int .u32 (R.d : Int), .int .i64 R.dl, .int .u16 (R.p.1 : Int), .int .u16 (R.p.2 : Int), .int .u16 (R.q.1 : Int), .int .u16 (R.q.2 : Int), .int .u8 (R.m.1 : Int), .int .u8 (R.m.2 : Int), .int .i64 R.act] 43))
        have T5 := HT4.out.on X5
        refine (hm _ _ _ T5).mono ?_
        rintro e W5 ⟨rfl, hb⟩
        have HB5 : Hid (Below w.heap.size w W5) := bel_step (HB4.out) X5 hb
        have HT5 : Hid (Tab W5 t v3 64 1 l) := T5.on hb
        have Kh5 : Hid (Kb W5 t v3 (w.heap.size) (.cells #[.int .u32 (h.s : Int), .int .u32 (h.d : Int), .int .u16 (h.p : Int), .int .u16 (h.q : Int), .int .u8 (h.r : Int)] 45)) := (Kh4.out.on X5).on hb
        have Kc5 : Hid (Kb W5 t v3 (W1.heap.size) (.cells #[.int .i64 64, .int .i64 1, .int .i64 1000, .int .i64 1000, .int .i64 1000, .int .i64 4, .int .i64 8] 24)) := (Kc4.out.on X5).on hb
        have Qr5 : Kb (W4.alloc (.cells #[.int .i64 R.i, .int .u32 (R.s : Int), .int .i64 R.sl, .int .u32 (R.d : Int), .int .i64 R.dl, .int .u16 (R.p.1 : Int), .int .u16 (R.p.2 : Int), .int .u16 (R.q.1 : Int), .int .u16 (R.q.2 : Int), .int .u8 (R.m.1 : Int), .int .u8 (R.m.2 : Int), .int .i64 R.act] 43)) t v3 (W4.heap.size) (.cells #[.int .i64 R.i, .int .u32 (R.s : Int), .int .i64 R.sl, .int .u32 (R.d : Int), .int .i64 R.dl, .int .u16 (R.p.1 : Int), .int .u16 (R.p.2 : Int), .int .u16 (R.q.1 : Int), .int .u16 (R.q.2 : Int), .int .u8 (R.m.1 : Int), .int .u8 (R.m.2 : Int), .int .i64 R.act] 43) := ⟨Nr5, by have := HT4.out.lt; omega, fun e => by have := HT4.out.own e; omega⟩
        have Kr5 : Hid (Kb W5 t v3 (W4.heap.size) (.cells #[.int .i64 R.i, .int .u32 (R.s : Int), .int .i64 R.sl, .int .u32 (R.d : Int), .int .i64 R.dl, .int .u16 (R.p.1 : Int), .int .u16 (R.p.2 : Int), .int .u16 (R.q.1 : Int), .int .u16 (R.q.2 : Int), .int .u8 (R.m.1 : Int), .int .u8 (R.m.2 : Int), .int .i64 R.act] 43)) := Qr5.on hb
        clear X5 hb T5 Nr5 Qr5 HB4
        clear HT4
        try clear Kh4
        try clear Kc4
        obtain ⟨y0, y1, y2, y3, y4, y5, y6, y7, y8, y9, y10, y11⟩ := blk12 (blk_alloc Kr5.out.1 (.cells #[.bool B1, .int .i64 I1, .int .i64 A1] 56))
        go_wp2_with (fail)
        clear y0 y1 y2 y3 y4 y5 y6 y7 y8 y9 y10 y11
        have X6 := bel_a1 W5 (.cells #[.bool B1, .int .i64 I1, .int .i64 A1] 56)
        have Nv6 : (W5.alloc (.cells #[.bool B1, .int .i64 I1, .int .i64 A1] 56)).heap[W5.heap.size]? = some (.cells #[.bool B1, .int .i64 I1, .int .i64 A1] 56) := (blk_new W5 (.cells #[.bool B1, .int .i64 I1, .int .i64 A1] 56))
        have T6 := HT5.out.on X6
        refine (hdel _ _ _ T6).mono ?_
        rintro e W6 ⟨rfl, v6, hT, hm⟩
        have HT6 : Hid (Tab W6 t v6 64 1 (outL l k)) := hT
        have Hq6 := (bel_step (HB5.out) X6 (Below.refl _ _))
        have HB6 : Hid (Below w.heap.size w W6) := hm.below' Hq6 Hq6.size Htw.out HG3.out
        have HG6 : Hid (∀ k, v6.ownBlock = some k → w.heap.size ≤ k) := hm.ge Hq6.size HG3.out
        have Kh6 : Hid (Kb W6 t v6 (w.heap.size) (.cells #[.int .u32 (h.s : Int), .int .u32 (h.d : Int), .int .u16 (h.p : Int), .int .u16 (h.q : Int), .int .u8 (h.r : Int)] 45)) := (Kh5.out.on X6).moved hm
        have Kc6 : Hid (Kb W6 t v6 (W1.heap.size) (.cells #[.int .i64 64, .int .i64 1, .int .i64 1000, .int .i64 1000, .int .i64 1000, .int .i64 4, .int .i64 8] 24)) := (Kc5.out.on X6).moved hm
        have Kr6 : Hid (Kb W6 t v6 (W4.heap.size) (.cells #[.int .i64 R.i, .int .u32 (R.s : Int), .int .i64 R.sl, .int .u32 (R.d : Int), .int .i64 R.dl, .int .u16 (R.p.1 : Int), .int .u16 (R.p.2 : Int), .int .u16 (R.q.1 : Int), .int .u16 (R.q.2 : Int), .int .u8 (R.m.1 : Int), .int .u8 (R.m.2 : Int), .int .i64 R.act] 43)) := (Kr5.out.on X6).moved hm
        have Qv6 : Kb (W5.alloc (.cells #[.bool B1, .int .i64 I1, .int .i64 A1] 56)) t v3 (W5.heap.size) (.cells #[.bool B1, .int .i64 I1, .int .i64 A1] 56) := ⟨Nv6, by have := HT5.out.lt; omega, fun e => by have := HT5.out.own e; omega⟩
        have Kv6 : Hid (Kb W6 t v6 (W5.heap.size) (.cells #[.bool B1, .int .i64 I1, .int .i64 A1] 56)) := Qv6.moved hm
        clear X6 hm hT Hq6 T6 Nv6 Qv6 HB5
        clear HT5 HG3
        try clear Kh5
        try clear Kc5
        try clear Kr5
        obtain ⟨y0, y1, y2, y3, y4, y5, y6, y7, y8, y9, y10, y11⟩ := blk12 Kr6.out.1
        go_wp2_with (fail)
        clear y0 y1 y2 y3 y4 y5 y6 y7 y8 y9 y10 y11
        have X7 := bel_a0 W6
        have T7 := HT6.out.on X7
        refine (hfi _ _ _ T7).mono ?_
        rintro e W7 ⟨rfl, hb⟩
        have HB7 : Hid (Below w.heap.size w W7) := bel_step (HB6.out) X7 hb
        have HT7 : Hid (Tab W7 t v6 64 1 (outL l k)) := T7.on hb
        have Kh7 : Hid (Kb W7 t v6 (w.heap.size) (.cells #[.int .u32 (h.s : Int), .int .u32 (h.d : Int), .int .u16 (h.p : Int), .int .u16 (h.q : Int), .int .u8 (h.r : Int)] 45)) := (Kh6.out.on X7).on hb
        have Kc7 : Hid (Kb W7 t v6 (W1.heap.size) (.cells #[.int .i64 64, .int .i64 1, .int .i64 1000, .int .i64 1000, .int .i64 1000, .int .i64 4, .int .i64 8] 24)) := (Kc6.out.on X7).on hb
        have Kr7 : Hid (Kb W7 t v6 (W4.heap.size) (.cells #[.int .i64 R.i, .int .u32 (R.s : Int), .int .i64 R.sl, .int .u32 (R.d : Int), .int .i64 R.dl, .int .u16 (R.p.1 : Int), .int .u16 (R.p.2 : Int), .int .u16 (R.q.1 : Int), .int .u16 (R.q.2 : Int), .int .u8 (R.m.1 : Int), .int .u8 (R.m.2 : Int), .int .i64 R.act] 43)) := (Kr6.out.on X7).on hb
        have Kv7 : Hid (Kb W7 t v6 (W5.heap.size) (.cells #[.bool B1, .int .i64 I1, .int .i64 A1] 56)) := (Kv6.out.on X7).on hb
        clear X7 hb T7 HB6
        clear HT6
        try clear Kh6
        try clear Kc6
        try clear Kr6
        try clear Kv6
        obtain ⟨y0, y1, y2, y3, y4, y5, y6, y7, y8, y9, y10, y11⟩ := blk12 Kr7.out.1
        go_wp2_with (fail)
        clear y0 y1 y2 y3 y4 y5 y6 y7 y8 y9 y10 y11
        have X8 := bel_a0 W7
        have T8 := HT7.out.on X8
        refine (hins _ _ _ T8).mono ?_
        rintro e W8 ⟨rfl, v8, hT, hm⟩
        have HT8 : Hid (Tab W8 t v8 64 1 l) := hT
        have Hq8 := (bel_step (HB7.out) X8 (Below.refl _ _))
        have HB8 : Hid (Below w.heap.size w W8) := hm.below' Hq8 Hq8.size Htw.out HG6.out
        have HG8 : Hid (∀ k, v8.ownBlock = some k → w.heap.size ≤ k) := hm.ge Hq8.size HG6.out
        have Kh8 : Hid (Kb W8 t v8 (w.heap.size) (.cells #[.int .u32 (h.s : Int), .int .u32 (h.d : Int), .int .u16 (h.p : Int), .int .u16 (h.q : Int), .int .u8 (h.r : Int)] 45)) := (Kh7.out.on X8).moved hm
        have Kc8 : Hid (Kb W8 t v8 (W1.heap.size) (.cells #[.int .i64 64, .int .i64 1, .int .i64 1000, .int .i64 1000, .int .i64 1000, .int .i64 4, .int .i64 8] 24)) := (Kc7.out.on X8).moved hm
        have Kr8 : Hid (Kb W8 t v8 (W4.heap.size) (.cells #[.int .i64 R.i, .int .u32 (R.s : Int), .int .i64 R.sl, .int .u32 (R.d : Int), .int .i64 R.dl, .int .u16 (R.p.1 : Int), .int .u16 (R.p.2 : Int), .int .u16 (R.q.1 : Int), .int .u16 (R.q.2 : Int), .int .u8 (R.m.1 : Int), .int .u8 (R.m.2 : Int), .int .i64 R.act] 43)) := (Kr7.out.on X8).moved hm
        have Kv8 : Hid (Kb W8 t v8 (W5.heap.size) (.cells #[.bool B1, .int .i64 I1, .int .i64 A1] 56)) := (Kv7.out.on X8).moved hm
        clear X8 hm hT Hq8 T8 HB7
        clear HT7 HG6
        try clear Kh7
        try clear Kc7
        try clear Kr7
        try clear Kv7
        obtain ⟨y0, y1, y2, y3, y4⟩ := blk5 Kh8.out.1
        go_wp2_with (fail)
        clear y0 y1 y2 y3 y4
        have X9 := bel_a0 W8
        have T9 := HT8.out.on X9
        refine (hm _ _ _ T9).mono ?_
        rintro e W9 ⟨rfl, hb⟩
        have HB9 : Hid (Below w.heap.size w W9) := bel_step (HB8.out) X9 hb
        have HT9 : Hid (Tab W9 t v8 64 1 l) := T9.on hb
        have Kh9 : Hid (Kb W9 t v8 (w.heap.size) (.cells #[.int .u32 (h.s : Int), .int .u32 (h.d : Int), .int .u16 (h.p : Int), .int .u16 (h.q : Int), .int .u8 (h.r : Int)] 45)) := (Kh8.out.on X9).on hb
        have Kc9 : Hid (Kb W9 t v8 (W1.heap.size) (.cells #[.int .i64 64, .int .i64 1, .int .i64 1000, .int .i64 1000, .int .i64 1000, .int .i64 4, .int .i64 8] 24)) := (Kc8.out.on X9).on hb
        have Kr9 : Hid (Kb W9 t v8 (W4.heap.size) (.cells #[.int .i64 R.i, .int .u32 (R.s : Int), .int .i64 R.sl, .int .u32 (R.d : Int), .int .i64 R.dl, .int .u16 (R.p.1 : Int), .int .u16 (R.p.2 : Int), .int .u16 (R.q.1 : Int), .int .u16 (R.q.2 : Int), .int .u8 (R.m.1 : Int), .int .u8 (R.m.2 : Int), .int .i64 R.act] 43)) := (Kr8.out.on X9).on hb
        have Kv9 : Hid (Kb W9 t v8 (W5.heap.size) (.cells #[.bool B1, .int .i64 I1, .int .i64 A1] 56)) := (Kv8.out.on X9).on hb
        clear X9 hb T9 HB8
        clear HT8
        try clear Kh8
        try clear Kc8
        try clear Kr8
        try clear Kv8
        go_wp2_with (fail)
        have X10 := bel_a1 W9 (.cells #[.bool B1, .int .i64 I1, .int .i64 A1] 56)
        have Nz10 : (W9.alloc (.cells #[.bool B1, .int .i64 I1, .int .i64 A1] 56)).heap[W9.heap.size]? = some (.cells #[.bool B1, .int .i64 I1, .int .i64 A1] 56) := (blk_new W9 (.cells #[.bool B1, .int .i64 I1, .int .i64 A1] 56))
        have T10 := HT9.out.on X10
        refine (awakeT _).mono ?_
        rintro e W10 ⟨rfl, hb⟩
        have HB10 : Hid (Below w.heap.size w W10) := bel_step (HB9.out) X10 hb
        have HT10 : Hid (Tab W10 t v8 64 1 l) := T10.on hb
        have Kh10 : Hid (Kb W10 t v8 (w.heap.size) (.cells #[.int .u32 (h.s : Int), .int .u32 (h.d : Int), .int .u16 (h.p : Int), .int .u16 (h.q : Int), .int .u8 (h.r : Int)] 45)) := (Kh9.out.on X10).on hb
        have Kc10 : Hid (Kb W10 t v8 (W1.heap.size) (.cells #[.int .i64 64, .int .i64 1, .int .i64 1000, .int .i64 1000, .int .i64 1000, .int .i64 4, .int .i64 8] 24)) := (Kc9.out.on X10).on hb
        have Kr10 : Hid (Kb W10 t v8 (W4.heap.size) (.cells #[.int .i64 R.i, .int .u32 (R.s : Int), .int .i64 R.sl, .int .u32 (R.d : Int), .int .i64 R.dl, .int .u16 (R.p.1 : Int), .int .u16 (R.p.2 : Int), .int .u16 (R.q.1 : Int), .int .u16 (R.q.2 : Int), .int .u8 (R.m.1 : Int), .int .u8 (R.m.2 : Int), .int .i64 R.act] 43)) := (Kr9.out.on X10).on hb
        have Kv10 : Hid (Kb W10 t v8 (W5.heap.size) (.cells #[.bool B1, .int .i64 I1, .int .i64 A1] 56)) := (Kv9.out.on X10).on hb
        have Qz10 : Kb (W9.alloc (.cells #[.bool B1, .int .i64 I1, .int .i64 A1] 56)) t v8 (W9.heap.size) (.cells #[.bool B1, .int .i64 I1, .int .i64 A1] 56) := ⟨Nz10, by have := HT9.out.lt; omega, fun e => by have := HT9.out.own e; omega⟩
        have Kz10 : Hid (Kb W10 t v8 (W9.heap.size) (.cells #[.bool B1, .int .i64 I1, .int .i64 A1] 56)) := Qz10.on hb
        clear X10 hb T10 Nz10 Qz10 HB9
        clear HT9
        try clear Kh9
        try clear Kc9
        try clear Kr9
        try clear Kv9
        obtain ⟨p0, p1, p2⟩ := blk3 Kv10.out.1
        obtain ⟨r0, r1, r2⟩ := blk3 Kz10.out.1
        have heq := eqV_self
        go_wp2_with (fail)
        clear p0 p1 p2 r0 r1 r2
        have X11 := bel_a0 W10
        have T11 := HT10.out.on X11
        refine (hru _ _ _ T11).mono ?_
        rintro e W11 ⟨ra, rfl, hr, hb⟩
        have HB11 : Hid (Below w.heap.size w W11) := bel_step (HB10.out) X11 hb
        have HT11 : Hid (Tab W11 t v8 64 1 l) := T11.on hb
        have Kh11 : Hid (Kb W11 t v8 (w.heap.size) (.cells #[.int .u32 (h.s : Int), .int .u32 (h.d : Int), .int .u16 (h.p : Int), .int .u16 (h.q : Int), .int .u8 (h.r : Int)] 45)) := (Kh10.out.on X11).on hb
        have Kc11 : Hid (Kb W11 t v8 (W1.heap.size) (.cells #[.int .i64 64, .int .i64 1, .int .i64 1000, .int .i64 1000, .int .i64 1000, .int .i64 4, .int .i64 8] 24)) := (Kc10.out.on X11).on hb
        have Kr11 : Hid (Kb W11 t v8 (W4.heap.size) (.cells #[.int .i64 R.i, .int .u32 (R.s : Int), .int .i64 R.sl, .int .u32 (R.d : Int), .int .i64 R.dl, .int .u16 (R.p.1 : Int), .int .u16 (R.p.2 : Int), .int .u16 (R.q.1 : Int), .int .u16 (R.q.2 : Int), .int .u8 (R.m.1 : Int), .int .u8 (R.m.2 : Int), .int .i64 R.act] 43)) := (Kr10.out.on X11).on hb
        have Kv11 : Hid (Kb W11 t v8 (W5.heap.size) (.cells #[.bool B1, .int .i64 I1, .int .i64 A1] 56)) := (Kv10.out.on X11).on hb
        have Kz11 : Hid (Kb W11 t v8 (W9.heap.size) (.cells #[.bool B1, .int .i64 I1, .int .i64 A1] 56)) := (Kz10.out.on X11).on hb
        have HRa : Hid (RowU W11 W10.heap.size ra l) := hr
        clear X11 hb T11 hr HB10
        clear HT10
        try clear Kh10
        try clear Kc10
        try clear Kr10
        try clear Kv10
        try clear Kz10
        have HSa := HRa.out.src
        have HSu := HS.out.keep HB11.out
        have hsm := keepSame ra _ l W11 HSa HSu (by omega)
        obtain ⟨ada, capa, hva, _, _⟩ := HRa.out.form
        rw [← Hn.out] at hva
        subst hva
        clear HRa HSa HSu heq
        go_wp2_with (fail)
        refine hsm.mono ?_
        rintro e W99 ⟨rfl, hb⟩
        have HB99 : Hid (Below w.heap.size w W99) := HB11.out.trans (hb.mono HB11.out.size)
        clear hb hsm
        go_wp2_with (fail)
        go_ret
        exact ⟨ret_bool (by simp), HB99.out⟩

      · have hat := fun (t : Nat) (v : Value) (W : World) (hT : Tab W t v 64 1 l) => at_out t v 64 1 l p W hT hl2 hp
        obtain ⟨n, hn⟩ : ∃ n, n = l.length := ⟨_, rfl⟩
        have Hn : Hid (n = l.length) := hn
        obtain ⟨ad, cap, rfl, hcap, hat'⟩ := hs
        rw [← hn] at hn64 hset ⊢
        clear hat' hbd bd ok hn hE hp wp hl2 hl3
        have hn'' : ¬ (64 : Int) < (n : Int) := by omega
        go_enter Try.func6, Try.ntmps6
        go_wp2_with (fail)
        have X1 := bel_a1 w (.cells #[.int .u32 (h.s : Int), .int .u32 (h.d : Int), .int .u16 (h.p : Int), .int .u16 (h.q : Int), .int .u8 (h.r : Int)] 45)
        have Nh1 : (w.alloc (.cells #[.int .u32 (h.s : Int), .int .u32 (h.d : Int), .int .u16 (h.p : Int), .int .u16 (h.q : Int), .int .u8 (h.r : Int)] 45)).heap[w.heap.size]? = some (.cells #[.int .u32 (h.s : Int), .int .u32 (h.d : Int), .int .u16 (h.p : Int), .int .u16 (h.q : Int), .int .u8 (h.r : Int)] 45) := (blk_new w (.cells #[.int .u32 (h.s : Int), .int .u32 (h.d : Int), .int .u16 (h.p : Int), .int .u16 (h.q : Int), .int .u8 (h.r : Int)] 45))
        refine (exampleC _).mono ?_
        rintro e W1 ⟨rfl, hb⟩
        have HB1 : Hid (Below w.heap.size w W1) := bel_step (Below.refl _ _) X1 hb
        have Kh1 : Hid (W1.heap[w.heap.size]? = some (.cells #[.int .u32 (h.s : Int), .int .u32 (h.d : Int), .int .u16 (h.p : Int), .int .u16 (h.q : Int), .int .u8 (h.r : Int)] 45)) := blk_on Nh1 hb
        clear X1 hb Nh1
        go_wp2_with (fail)
        have X2 := bel_a1 W1 (.cells #[.int .i64 64, .int .i64 1, .int .i64 1000, .int .i64 1000, .int .i64 1000, .int .i64 4, .int .i64 8] 24)
        have Nc2 : (W1.alloc (.cells #[.int .i64 64, .int .i64 1, .int .i64 1000, .int .i64 1000, .int .i64 1000, .int .i64 4, .int .i64 8] 24)).heap[W1.heap.size]? = some (.cells #[.int .i64 64, .int .i64 1, .int .i64 1000, .int .i64 1000, .int .i64 1000, .int .i64 4, .int .i64 8] 24) := (blk_new W1 (.cells #[.int .i64 64, .int .i64 1, .int .i64 1000, .int .i64 1000, .int .i64 1000, .int .i64 4, .int .i64 8] 24))
        refine (newOk (exC 64) (exC_bd 64 (by unfold I64; decide)) (exC_ok 64 (by decide)) _).mono ?_
        rintro e W2 ⟨t, rfl, hT, ht, hb⟩
        have HB2 : Hid (Below w.heap.size w W2) := bel_step (HB1.out) X2 hb
        have HT2 : Hid (Tab W2 t (.slice none 0 0) 64 1 []) := hT
        have Htw : Hid (w.heap.size ≤ t) := Nat.le_trans (bel_step (HB1.out) X2 (Below.refl _ _)).size ht
        have HG2 : Hid (∀ k, (Value.slice none 0 0).ownBlock = some k → w.heap.size ≤ k) := fun k e => by cases e
        have Kh2 : Hid (Kb W2 t (.slice none 0 0) (w.heap.size) (.cells #[.int .u32 (h.s : Int), .int .u32 (h.d : Int), .int .u16 (h.p : Int), .int .u16 (h.q : Int), .int .u8 (h.r : Int)] 45)) := ⟨blk_on (blk_on Kh1.out X2) hb, by have := blk_lt (blk_on Kh1.out X2); omega, fun e => by cases e⟩
        have Kc2 : Hid (Kb W2 t (.slice none 0 0) (W1.heap.size) (.cells #[.int .i64 64, .int .i64 1, .int .i64 1000, .int .i64 1000, .int .i64 1000, .int .i64 4, .int .i64 8] 24)) := ⟨blk_on Nc2 hb, by have := blk_lt Nc2; omega, fun e => by cases e⟩
        clear X2 hb hT ht Nc2 HB1
        try clear Kh1
        go_wp2_with (fail)
        have X3 := bel_a0 W2
        have T3 := HT2.out.on X3
        refine (hset _ _ _ T3 (bel_step (HB2.out) X3 (Below.refl _ _))).mono ?_
        rintro e W3 ⟨rfl, v3, hT, hm⟩
        have HT3 : Hid (Tab W3 t v3 64 1 l) := hT
        have Hq3 := (bel_step (HB2.out) X3 (Below.refl _ _))
        have HB3 : Hid (Below w.heap.size w W3) := hm.below' Hq3 Hq3.size Htw.out HG2.out
        have HG3 : Hid (∀ k, v3.ownBlock = some k → w.heap.size ≤ k) := hm.ge Hq3.size HG2.out
        have Kh3 : Hid (Kb W3 t v3 (w.heap.size) (.cells #[.int .u32 (h.s : Int), .int .u32 (h.d : Int), .int .u16 (h.p : Int), .int .u16 (h.q : Int), .int .u8 (h.r : Int)] 45)) := (Kh2.out.on X3).moved hm
        have Kc3 : Hid (Kb W3 t v3 (W1.heap.size) (.cells #[.int .i64 64, .int .i64 1, .int .i64 1000, .int .i64 1000, .int .i64 1000, .int .i64 4, .int .i64 8] 24)) := (Kc2.out.on X3).moved hm
        clear X3 hm hT Hq3 T3 HB2
        clear HT2 HG2
        try clear Kh2
        try clear Kc2
        go_wp2_with (fail)
        have X4 := bel_a0 W3
        have T4 := HT3.out.on X4
        refine (hat _ _ _ T4).mono ?_
        rintro e W4 ⟨rfl, hb⟩
        have HB4 : Hid (Below w.heap.size w W4) := bel_step (HB3.out) X4 hb
        have HT4 : Hid (Tab W4 t v3 64 1 l) := T4.on hb
        have Kh4 : Hid (Kb W4 t v3 (w.heap.size) (.cells #[.int .u32 (h.s : Int), .int .u32 (h.d : Int), .int .u16 (h.p : Int), .int .u16 (h.q : Int), .int .u8 (h.r : Int)] 45)) := (Kh3.out.on X4).on hb
        have Kc4 : Hid (Kb W4 t v3 (W1.heap.size) (.cells #[.int .i64 64, .int .i64 1, .int .i64 1000, .int .i64 1000, .int .i64 1000, .int .i64 4, .int .i64 8] 24)) := (Kc3.out.on X4).on hb
        clear X4 hb T4 HB3
        clear HT3
        try clear Kh3
        try clear Kc3
        go_wp2_with (fail)
        have X5 := bel_a1 W4 (.cells #[.int .i64 0, .int .u32 0, .int .i64 0, .int .u32 0, .int .i64 0, .int .u16 0, .int .u16 0, .int .u16 0, .int .u16 0, .int .u8 0, .int .u8 0, .int .i64 0] 43)
        have Nr5 : (W4.alloc (.cells #[.int .i64 0, .int .u32 0, .int .i64 0, .int .u32 0, .int .i64 0, .int .u16 0, .int .u16 0, .int .u16 0, .int .u16 0, .int .u8 0, .int .u8 0, .int .i64 0] 43)).heap[W4.heap.size]? = some (.cells #[.int .i64 0, .int .u32 0, .int .i64 0, .int .u32 0, .int .i64 0, .int .u16 0, .int .u16 0, .int .u16 0, .int .u16 0, .int .u8 0, .int .u8 0, .int .i64 0] 43) := (blk_new W4 (.cells #[.int .i64 0, .int .u32 0, .int .i64 0, .int .u32 0, .int .i64 0, .int .u16 0, .int .u16 0, .int .u16 0, .int .u16 0, .int .u8 0, .int .u8 0, .int .i64 0] 43))
        have T5 := HT4.out.on X5
        refine (awakeT _).mono ?_
        rintro e W5 ⟨rfl, hb⟩
        have HB5 : Hid (Below w.heap.size w W5) := bel_step (HB4.out) X5 hb
        have HT5 : Hid (Tab W5 t v3 64 1 l) := T5.on hb
        have Kh5 : Hid (Kb W5 t v3 (w.heap.size) (.cells #[.int .u32 (h.s : Int), .int .u32 (h.d : Int), .int .u16 (h.p : Int), .int .u16 (h.q : Int), .int .u8 (h.r : Int)] 45)) := (Kh4.out.on X5).on hb
        have Kc5 : Hid (Kb W5 t v3 (W1.heap.size) (.cells #[.int .i64 64, .int .i64 1, .int .i64 1000, .int .i64 1000, .int .i64 1000, .int .i64 4, .int .i64 8] 24)) := (Kc4.out.on X5).on hb
        have Qr5 : Kb (W4.alloc (.cells #[.int .i64 0, .int .u32 0, .int .i64 0, .int .u32 0, .int .i64 0, .int .u16 0, .int .u16 0, .int .u16 0, .int .u16 0, .int .u8 0, .int .u8 0, .int .i64 0] 43)) t v3 (W4.heap.size) (.cells #[.int .i64 0, .int .u32 0, .int .i64 0, .int .u32 0, .int .i64 0, .int .u16 0, .int .u16 0, .int .u16 0, .int .u16 0, .int .u8 0, .int .u8 0, .int .i64 0] 43) := ⟨Nr5, by have := HT4.out.lt; omega, fun e => by have := HT4.out.own e; omega⟩
        have Kr5 : Hid (Kb W5 t v3 (W4.heap.size) (.cells #[.int .i64 0, .int .u32 0, .int .i64 0, .int .u32 0, .int .i64 0, .int .u16 0, .int .u16 0, .int .u16 0, .int .u16 0, .int .u8 0, .int .u8 0, .int .i64 0] 43)) := Qr5.on hb
        clear X5 hb T5 Nr5 Qr5 HB4
        clear HT4
        try clear Kh4
        try clear Kc4
        go_wp2_with (fail)
        have X6 := bel_a0 W5
        have T6 := HT5.out.on X6
        refine (hru _ _ _ T6).mono ?_
        rintro e W6 ⟨ra, rfl, hr, hb⟩
        have HB6 : Hid (Below w.heap.size w W6) := bel_step (HB5.out) X6 hb
        have HT6 : Hid (Tab W6 t v3 64 1 l) := T6.on hb
        have Kh6 : Hid (Kb W6 t v3 (w.heap.size) (.cells #[.int .u32 (h.s : Int), .int .u32 (h.d : Int), .int .u16 (h.p : Int), .int .u16 (h.q : Int), .int .u8 (h.r : Int)] 45)) := (Kh5.out.on X6).on hb
        have Kc6 : Hid (Kb W6 t v3 (W1.heap.size) (.cells #[.int .i64 64, .int .i64 1, .int .i64 1000, .int .i64 1000, .int .i64 1000, .int .i64 4, .int .i64 8] 24)) := (Kc5.out.on X6).on hb
        have Kr6 : Hid (Kb W6 t v3 (W4.heap.size) (.cells #[.int .i64 0, .int .u32 0, .int .i64 0, .int .u32 0, .int .i64 0, .int .u16 0, .int .u16 0, .int .u16 0, .int .u16 0, .int .u8 0, .int .u8 0, .int .i64 0] 43)) := (Kr5.out.on X6).on hb
        have HRa : Hid (RowU W6 W5.heap.size ra l) := hr
        clear X6 hb T6 hr HB5
        clear HT5
        try clear Kh5
        try clear Kc5
        try clear Kr5
        obtain ⟨ada, capa, hva, _, _⟩ := HRa.out.form
        rw [← Hn.out] at hva
        subst hva
        clear HRa
        by_cases hz : n = 0
        · subst hz
          go_wp2_with (fail)
          go_ret
          exact ⟨ret_bool (by simp), HB6.out⟩
        · have hz1 : ¬ (n : Int) = 0 := by omega
          have hz2 : ((n : Int) == 0) = false := by simpa using hz
          go_wp2_with (fail)
          go_ret
          exact ⟨ret_bool (by simp), HB6.out⟩

    · have hE' : (E != 0) = true := by simpa using hE0
      have hnz : l.length ≠ 0 := fun e => hE0 (by rw [hE, List.eq_nil_of_length_eq_zero e]; rfl)
      have hset2 : ∀ (t : Nat) (v : Value) (W : World), Tab W t v 64 1 [] → Below w.heap.size w W → Calls Try.prog 17 #[.pointer (some ⟨t, 0, none⟩), u] W fun e w' => e = .returned (.int .i64 E) ∧ ∃ v', Tab w' t v' 64 1 [] ∧ Moved W w' t v v' := fun t v W hT hb => by
        have := hset t v W hT hb
        rw [if_neg hE0] at this
        exact this
      have hru := fun (t : Nat) (v : Value) (W : World) (hT : Tab W t v 64 1 []) => rulesC t v 64 1 [] W hT (Nat.zero_le _)
      have hat := fun (t : Nat) (v : Value) (W : World) (hT : Tab W t v 64 1 []) => at_out t v 64 1 [] p W hT (Nat.zero_le _) (by simp; omega)
      obtain ⟨n, hn⟩ : ∃ n, n = l.length := ⟨_, rfl⟩
      obtain ⟨ad, cap, rfl, hcap, hat'⟩ := hs
      rw [← hn] at hn64 hset2 hnz ⊢
      clear hat' hbd bd hn hE hset wp hl2 hl3
      have hset := hset2
      clear hset2
      have hn'' : ¬ (64 : Int) < (n : Int) := by omega
      have hz1 : ¬ (n : Int) = 0 := by omega
      have hz3 : ¬ (0 : Int) = (n : Int) := by omega
      have hz2 : ((0 : Int) == (n : Int)) = false := by simpa using hz3
      go_enter Try.func6, Try.ntmps6
      go_wp2_with (fail)
      have X1 := bel_a1 w (.cells #[.int .u32 (h.s : Int), .int .u32 (h.d : Int), .int .u16 (h.p : Int), .int .u16 (h.q : Int), .int .u8 (h.r : Int)] 45)
      have Nh1 : (w.alloc (.cells #[.int .u32 (h.s : Int), .int .u32 (h.d : Int), .int .u16 (h.p : Int), .int .u16 (h.q : Int), .int .u8 (h.r : Int)] 45)).heap[w.heap.size]? = some (.cells #[.int .u32 (h.s : Int), .int .u32 (h.d : Int), .int .u16 (h.p : Int), .int .u16 (h.q : Int), .int .u8 (h.r : Int)] 45) := (blk_new w (.cells #[.int .u32 (h.s : Int), .int .u32 (h.d : Int), .int .u16 (h.p : Int), .int .u16 (h.q : Int), .int .u8 (h.r : Int)] 45))
      refine (exampleC _).mono ?_
      rintro e W1 ⟨rfl, hb⟩
      have HB1 : Hid (Below w.heap.size w W1) := bel_step (Below.refl _ _) X1 hb
      have Kh1 : Hid (W1.heap[w.heap.size]? = some (.cells #[.int .u32 (h.s : Int), .int .u32 (h.d : Int), .int .u16 (h.p : Int), .int .u16 (h.q : Int), .int .u8 (h.r : Int)] 45)) := blk_on Nh1 hb
      clear X1 hb Nh1
      go_wp2_with (fail)
      have X2 := bel_a1 W1 (.cells #[.int .i64 64, .int .i64 1, .int .i64 1000, .int .i64 1000, .int .i64 1000, .int .i64 4, .int .i64 8] 24)
      have Nc2 : (W1.alloc (.cells #[.int .i64 64, .int .i64 1, .int .i64 1000, .int .i64 1000, .int .i64 1000, .int .i64 4, .int .i64 8] 24)).heap[W1.heap.size]? = some (.cells #[.int .i64 64, .int .i64 1, .int .i64 1000, .int .i64 1000, .int .i64 1000, .int .i64 4, .int .i64 8] 24) := (blk_new W1 (.cells #[.int .i64 64, .int .i64 1, .int .i64 1000, .int .i64 1000, .int .i64 1000, .int .i64 4, .int .i64 8] 24))
      refine (newOk (exC 64) (exC_bd 64 (by unfold I64; decide)) (exC_ok 64 (by decide)) _).mono ?_
      rintro e W2 ⟨t, rfl, hT, ht, hb⟩
      have HB2 : Hid (Below w.heap.size w W2) := bel_step (HB1.out) X2 hb
      have HT2 : Hid (Tab W2 t (.slice none 0 0) 64 1 []) := hT
      have Htw : Hid (w.heap.size ≤ t) := Nat.le_trans (bel_step (HB1.out) X2 (Below.refl _ _)).size ht
      have HG2 : Hid (∀ k, (Value.slice none 0 0).ownBlock = some k → w.heap.size ≤ k) := fun k e => by cases e
      have Kh2 : Hid (Kb W2 t (.slice none 0 0) (w.heap.size) (.cells #[.int .u32 (h.s : Int), .int .u32 (h.d : Int), .int .u16 (h.p : Int), .int .u16 (h.q : Int), .int .u8 (h.r : Int)] 45)) := ⟨blk_on (blk_on Kh1.out X2) hb, by have := blk_lt (blk_on Kh1.out X2); omega, fun e => by cases e⟩
      have Kc2 : Hid (Kb W2 t (.slice none 0 0) (W1.heap.size) (.cells #[.int .i64 64, .int .i64 1, .int .i64 1000, .int .i64 1000, .int .i64 1000, .int .i64 4, .int .i64 8] 24)) := ⟨blk_on Nc2 hb, by have := blk_lt Nc2; omega, fun e => by cases e⟩
      clear X2 hb hT ht Nc2 HB1
      try clear Kh1
      go_wp2_with (fail)
      have X3 := bel_a0 W2
      have T3 := HT2.out.on X3
      refine (hset _ _ _ T3 (bel_step (HB2.out) X3 (Below.refl _ _))).mono ?_
      rintro e W3 ⟨rfl, v3, hT, hm⟩
      have HT3 : Hid (Tab W3 t v3 64 1 []) := hT
      have Hq3 := (bel_step (HB2.out) X3 (Below.refl _ _))
      have HB3 : Hid (Below w.heap.size w W3) := hm.below' Hq3 Hq3.size Htw.out HG2.out
      have HG3 : Hid (∀ k, v3.ownBlock = some k → w.heap.size ≤ k) := hm.ge Hq3.size HG2.out
      have Kh3 : Hid (Kb W3 t v3 (w.heap.size) (.cells #[.int .u32 (h.s : Int), .int .u32 (h.d : Int), .int .u16 (h.p : Int), .int .u16 (h.q : Int), .int .u8 (h.r : Int)] 45)) := (Kh2.out.on X3).moved hm
      have Kc3 : Hid (Kb W3 t v3 (W1.heap.size) (.cells #[.int .i64 64, .int .i64 1, .int .i64 1000, .int .i64 1000, .int .i64 1000, .int .i64 4, .int .i64 8] 24)) := (Kc2.out.on X3).moved hm
      clear X3 hm hT Hq3 T3 HB2
      clear HT2 HG2
      try clear Kh2
      try clear Kc2
      go_wp2_with (fail)
      have X4 := bel_a0 W3
      have T4 := HT3.out.on X4
      refine (hat _ _ _ T4).mono ?_
      rintro e W4 ⟨rfl, hb⟩
      have HB4 : Hid (Below w.heap.size w W4) := bel_step (HB3.out) X4 hb
      have HT4 : Hid (Tab W4 t v3 64 1 []) := T4.on hb
      have Kh4 : Hid (Kb W4 t v3 (w.heap.size) (.cells #[.int .u32 (h.s : Int), .int .u32 (h.d : Int), .int .u16 (h.p : Int), .int .u16 (h.q : Int), .int .u8 (h.r : Int)] 45)) := (Kh3.out.on X4).on hb
      have Kc4 : Hid (Kb W4 t v3 (W1.heap.size) (.cells #[.int .i64 64, .int .i64 1, .int .i64 1000, .int .i64 1000, .int .i64 1000, .int .i64 4, .int .i64 8] 24)) := (Kc3.out.on X4).on hb
      clear X4 hb T4 HB3
      clear HT3
      try clear Kh3
      try clear Kc3
      go_wp2_with (fail)
      have X5 := bel_a1 W4 (.cells #[.int .i64 0, .int .u32 0, .int .i64 0, .int .u32 0, .int .i64 0, .int .u16 0, .int .u16 0, .int .u16 0, .int .u16 0, .int .u8 0, .int .u8 0, .int .i64 0] 43)
      have Nr5 : (W4.alloc (.cells #[.int .i64 0, .int .u32 0, .int .i64 0, .int .u32 0, .int .i64 0, .int .u16 0, .int .u16 0, .int .u16 0, .int .u16 0, .int .u8 0, .int .u8 0, .int .i64 0] 43)).heap[W4.heap.size]? = some (.cells #[.int .i64 0, .int .u32 0, .int .i64 0, .int .u32 0, .int .i64 0, .int .u16 0, .int .u16 0, .int .u16 0, .int .u16 0, .int .u8 0, .int .u8 0, .int .i64 0] 43) := (blk_new W4 (.cells #[.int .i64 0, .int .u32 0, .int .i64 0, .int .u32 0, .int .i64 0, .int .u16 0, .int .u16 0, .int .u16 0, .int .u16 0, .int .u8 0, .int .u8 0, .int .i64 0] 43))
      have T5 := HT4.out.on X5
      refine (awakeT _).mono ?_
      rintro e W5 ⟨rfl, hb⟩
      have HB5 : Hid (Below w.heap.size w W5) := bel_step (HB4.out) X5 hb
      have HT5 : Hid (Tab W5 t v3 64 1 []) := T5.on hb
      have Kh5 : Hid (Kb W5 t v3 (w.heap.size) (.cells #[.int .u32 (h.s : Int), .int .u32 (h.d : Int), .int .u16 (h.p : Int), .int .u16 (h.q : Int), .int .u8 (h.r : Int)] 45)) := (Kh4.out.on X5).on hb
      have Kc5 : Hid (Kb W5 t v3 (W1.heap.size) (.cells #[.int .i64 64, .int .i64 1, .int .i64 1000, .int .i64 1000, .int .i64 1000, .int .i64 4, .int .i64 8] 24)) := (Kc4.out.on X5).on hb
      have Qr5 : Kb (W4.alloc (.cells #[.int .i64 0, .int .u32 0, .int .i64 0, .int .u32 0, .int .i64 0, .int .u16 0, .int .u16 0, .int .u16 0, .int .u16 0, .int .u8 0, .int .u8 0, .int .i64 0] 43)) t v3 (W4.heap.size) (.cells #[.int .i64 0, .int .u32 0, .int .i64 0, .int .u32 0, .int .i64 0, .int .u16 0, .int .u16 0, .int .u16 0, .int .u16 0, .int .u8 0, .int .u8 0, .int .i64 0] 43) := ⟨Nr5, by have := HT4.out.lt; omega, fun e => by have := HT4.out.own e; omega⟩
      have Kr5 : Hid (Kb W5 t v3 (W4.heap.size) (.cells #[.int .i64 0, .int .u32 0, .int .i64 0, .int .u32 0, .int .i64 0, .int .u16 0, .int .u16 0, .int .u16 0, .int .u16 0, .int .u8 0, .int .u8 0, .int .i64 0] 43)) := Qr5.on hb
      clear X5 hb T5 Nr5 Qr5 HB4
      clear HT4
      try clear Kh4
      try clear Kc4
      go_wp2_with (fail)
      have X6 := bel_a0 W5
      have T6 := HT5.out.on X6
      refine (hru _ _ _ T6).mono ?_
      rintro e W6 ⟨ra, rfl, hr, hb⟩
      have HB6 : Hid (Below w.heap.size w W6) := bel_step (HB5.out) X6 hb
      have HT6 : Hid (Tab W6 t v3 64 1 []) := T6.on hb
      have Kh6 : Hid (Kb W6 t v3 (w.heap.size) (.cells #[.int .u32 (h.s : Int), .int .u32 (h.d : Int), .int .u16 (h.p : Int), .int .u16 (h.q : Int), .int .u8 (h.r : Int)] 45)) := (Kh5.out.on X6).on hb
      have Kc6 : Hid (Kb W6 t v3 (W1.heap.size) (.cells #[.int .i64 64, .int .i64 1, .int .i64 1000, .int .i64 1000, .int .i64 1000, .int .i64 4, .int .i64 8] 24)) := (Kc5.out.on X6).on hb
      have Kr6 : Hid (Kb W6 t v3 (W4.heap.size) (.cells #[.int .i64 0, .int .u32 0, .int .i64 0, .int .u32 0, .int .i64 0, .int .u16 0, .int .u16 0, .int .u16 0, .int .u16 0, .int .u8 0, .int .u8 0, .int .i64 0] 43)) := (Kr5.out.on X6).on hb
      have HRa : Hid (RowU W6 W5.heap.size ra []) := hr
      clear X6 hb T6 hr HB5
      clear HT5
      try clear Kh5
      try clear Kc5
      try clear Kr5
      obtain ⟨ada, capa, hva, _, _⟩ := HRa.out.form
      subst hva
      clear HRa
      go_wp2_with (fail)
      go_ret
      exact ⟨ret_bool (by simp), HB6.out⟩

set_option maxRecDepth 100000 in
theorem tableBack_lifted (os : Os) (started : os.Started) (H : Type) (enc : TypeId × Value → H) :
    ReturnsInHanded {} Try.checked os 6 .any (Rows.tableBackSpec.pre6 enc Try.prog Try.f6 Rows.tableBackRow.domain false) (Rows.tableBackSpec.post enc Try.prog Try.f6 false true false false) := by
  refine returnsInHanded_of_change (C := Try.checked) own started (by kernel_rfl) Try.func6
    (ChangeSpec.witness6 (enc := enc) (C := Try.checked) false ⟨#[], #[.slice none 0 0, .int .i64 0, .agg #[.int .u32 0, .int .u32 0, .int .u16 0, .int .u16 0, .int .u8 0]], []⟩ 8 (by kernel_rfl) (by kernel_rfl) (by kernel_rfl) (by kernel_rfl)) ?_
  intro W base args ds gs before hval0 hW hcnd _
  have hval : ∀ (j : Nat) t v, Try.f6.params[j]? = some t → args[j]? = some v → Value.okWide Try.prog W .any base t v := hval0
  have hW' := hW
  obtain ⟨p, q, hA0, hV, rfl, hfz, hnd⟩ := hW
  have hA : DataW.TrodAll enc Try.prog W 0 (fun _ => true) true Try.f6.params.toList args.toList ds p := hA0
  rw [Try.params6] at hA hval
  obtain ⟨v0, vs0, d0, ds0, p0, q0, hargs, rfl, rfl, h0, r0⟩ := trodAll_cons hA
  obtain ⟨v1, vs1, d1, ds1, p1, q1, rfl, rfl, rfl, h1, r1⟩ := trodAll_cons r0
  obtain ⟨v2, vs2, d2, ds2, p2, q2, rfl, rfl, rfl, h2, r2⟩ := trodAll_cons r1
  obtain ⟨rfl, rfl, rfl⟩ := trodAll_nil r2
  obtain rfl : args = #[v0, v1, v2] := by cases args; simp_all
  obtain ⟨rfl, rfl⟩ := trodVars_none hV
  have hlt0 : ∀ x ∈ p0, x.block < W.heap.size := fun x hx => by simpa using hW'.lt x (by simp [hx])
  obtain ⟨l0, s0, bd0⟩ := open_rus (hval 0 33 v0 rfl rfl) h0
  have hlt1 : ∀ x ∈ p1, x.block < W.heap.size := fun x hx => by simpa using hW'.lt x (by simp [hx])
  obtain ⟨a1, rfl, _, _, w1⟩ := open_int Try.underlying3 (hval 1 3 v1 rfl rfl) h1
  have hlt2 : ∀ x ∈ p2, x.block < W.heap.size := fun x hx => by simpa using hW'.lt x (by simp [hx])
  obtain ⟨g2, rfl, o2⟩ := open_hd (hval 2 45 v2 rfl rfl) h2
  clear hA0 hval0
  simp only [List.append_nil] at hW'
  refine (tableBack_walk l0 v0 bd0 a1 w1 g2 o2 W s0).mono fun e W' ⟨he, bel⟩ => ?_
  subst he
  exact ⟨_, rfl, _, _, _, [], _, [], hW', trodAll_mk1 (shut_bool Try.underlying4 _), (trodAll_cons_mk (Below.trod laidOut (by kernel_rfl) (of_decide_eq_true (by kernel_rfl)) h0 bel hlt0) (trodAll_cons_mk (Below.trod laidOut (by kernel_rfl) (of_decide_eq_true (by kernel_rfl)) h1 bel hlt1) (trodAll_cons_mk (Below.trod laidOut (by kernel_rfl) (of_decide_eq_true (by kernel_rfl)) h2 bel hlt2) trodAll_mk0))), rfl, bel.frame _, fun h => by cases h⟩

/-- The given statement. -/
theorem tableBack_holds : Rows.TableBackSaid :=
  OpenClaim.holds_of_wide 6 Try.f6 rfl rfl rfl rfl rfl rfl rfl ⟨rfl, rfl, rfl, rfl, rfl⟩ rfl rfl rfl rfl rfl (by kernel_rfl) Try.func6 (by kernel_rfl)
    (of_decide_eq_true (by kernel_rfl)) (by unfold Func.isWrapper; first | (rw [if_pos (by decide +kernel)]; kernel_rfl) | (rw [if_neg (by decide +kernel)]; exact ⟨rfl, rfl⟩))
    (fun os started H enc _ => tableBack_lifted os started H enc)
#print axioms tableBack_holds
end Go.Proofs.Ytlghbcdahnjcpaa
