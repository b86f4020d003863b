/-
  Any script on a table and on the document's list. Written by tools/mkHiW.py.
-/
import Derived.Test.YthfjdoenofkghaaHiD
namespace Go.Proofs.Ythfjdoenofkghaa
open Go.RowKit
set_option linter.unusedVariables false
set_option linter.unusedSimpArgs false

set_option maxHeartbeats 8000000 in
set_option maxRecDepth 20000 in
theorem runs_walk (a : Int) (ha : I64 a) (l : List Oy) (v : Value) (bd : ∀ R ∈ l, BdO R) (w : World) (hs : SrcO w v l) :
    Calls Try.prog 4 #[.int .i64 a, v] w fun e w' => e = .returned (.bool true) ∧ Below w.heap.size w w' := by
  obtain ⟨ad, cap, rfl⟩ := srcO_form hs
  obtain ⟨N, hN⟩ : ∃ N, N = l.length := ⟨_, rfl⟩
  have HN : Hid (N = l.length) := hN
  rw [← hN] at hs ⊢
  clear hN
  by_cases h1 : a < 1
  · skip
    clear hs bd
    go_enter Try.func4, Try.ntmps4
    go_wp2_with (fail)
    refine (awakeC w).mono ?_
    rintro e w2 ⟨rfl, hb2⟩
    have HB2 : Hid (Below w.heap.size w w2) := hb2
    clear hb2
    go_wp2_with (fail)
    go_ret
    exact ⟨rfl, HB2.out⟩
  by_cases h2 : 65536 < a
  · skip
    clear hs bd
    go_enter Try.func4, Try.ntmps4
    go_wp2_with (fail)
    refine (awakeC w).mono ?_
    rintro e w2 ⟨rfl, hb2⟩
    have HB2 : Hid (Below w.heap.size w w2) := hb2
    clear hb2
    go_wp2_with (fail)
    go_ret
    exact ⟨rfl, HB2.out⟩
  by_cases h3 : (3000 : Int) < (N : Int)
  · skip
    clear hs bd
    go_enter Try.func4, Try.ntmps4
    go_wp2_with (fail)
    refine (awakeC w).mono ?_
    rintro e w2 ⟨rfl, hb2⟩
    have HB2 : Hid (Below w.heap.size w w2) := hb2
    clear hb2
    go_wp2_with (fail)
    go_ret
    exact ⟨rfl, HB2.out⟩
  obtain ⟨M, rfl⟩ : ∃ M : Nat, a = (M : Int) := ⟨a.toNat, by omega⟩
  have hM1 : 1 ≤ M := by omega
  have hM2 : M ≤ 65536 := by omega
  have h4 : (N : Int) ≤ 3000 := by omega
  have HS1 : Hid (SrcO w (.slice ad N cap) l) := hs
  have Hbd : Hid (∀ R ∈ l, BdO R) := bd
  clear hs bd ha
  go_enter Try.func4, Try.ntmps4
  go_wp2_with (fail)
  refine (newC M w hM1 hM2).mono ?_
  rintro e w2 ⟨t, rfl, ho2⟩
  obtain ⟨v2, hog2⟩ := og_of ho2
  have HG2 : Hid (Og w w2 t v2 M 0 0 m0) := hog2
  clear ho2 hog2
  go_wp2_with (fail)
  go_loopw [7, 8, 9] (fun vl vp vi wr => ∃ (i c P pk : Nat) (tv : Value) (m : Hd → Option Int) (D : List Ey) (la : Option Addr) (lc : Nat), i ≤ N ∧ vl = .slice la c lc ∧ vp = .int .i64 (pk : Int) ∧ vi = .int .i64 (i : Int) ∧ Hid (Og w wr t tv M c P m) ∧ Hid (Tells m D) ∧ Hid (Li wr t tv (.slice la c lc) D) ∧ Hid (c = D.length ∧ P ≤ pk ∧ pk ≤ 65536)) (fun _ _ vi _ => N - (intOf vi).toNat)
  case atStart => exact ⟨0, 0, 0, 0, v2, m0, [], none, 0, Nat.zero_le _, rfl, rfl, rfl, HG2.out, tells_nil, ⟨(RowY.nil _ 0).src, fun b e => by cases e⟩, rfl, Nat.le_refl _, by decide⟩
  case round =>
    clear HG2
    obtain ⟨i, c, P, pk, tv, m, D, la, lc, hi, rfl, rfl, rfl, HG, HT, HL, Hc⟩ := hrel
    have hpc : c ≤ 65536 := by obtain ⟨_, _, _, _, _, _, _, a, b, d⟩ := HG.out.a; omega
    have Hcl : Hid (D.length ≤ 65536) := by show _ ≤ _; rw [← Hc.out.1]; exact hpc
    have HBr : Hid (Below w.heap.size w wr) := HG.out.bel
    by_cases hlt : i < N
    · obtain ⟨q, hq⟩ : ∃ q, l[i]? = some q := ⟨_, List.getElem?_eq_getElem (by rw [← HN.out]; exact hlt)⟩
      have hqb := Hbd.out q (List.mem_of_getElem? hq)
      have HSr := HS1.out.keep HBr.out
      obtain ⟨g, off, hade, hgl, d0, d1, d2, d3, d4, d5, d6⟩ := srcO_at HSr hq
      have Hqk : Hid (OkH q.k ∧ I64 q.v) := ⟨hqb.2.1, hqb.2.2⟩
      have hlt' : (i : Int) < (N : Int) := by omega
      have hix2 : ¬ N ≤ i := by omega
      subst hade
      clear HSr hq hqb
      have hZZ := blk_new wr (.cells #[.int .i64 0, .int .u32 0, .int .u32 0, .int .u16 0, .int .u16 0, .int .u8 0, .int .i64 0] 38)
      have hgx2 : ¬ g = wr.heap.size := by omega
      go_upto_region 12 with (refine wpList_store_blk rfl 38 (.tmp 10) (.tmp 54) rfl wr.heap.size 0 #[.int .i64 q.i, .int .u32 (q.k.s : Int), .int .u32 (q.k.d : Int), .int .u16 (q.k.p : Int), .int .u16 (q.k.q : Int), .int .u8 (q.k.r : Int), .int .i64 q.v] #[.int .i64 q.i, .int .u32 (q.k.s : Int), .int .u32 (q.k.d : Int), .int .u16 (q.k.p : Int), .int .u16 (q.k.q : Int), .int .u8 (q.k.r : Int), .int .i64 q.v] rfl rfl 38 _ hZZ (Nat.le_of_ble_eq_true rfl) rfl (by kernel_rfl) rfl ?_; intro w4 hw4 how4)
      simp only [List.getElem_toArray, List.getElem_cons_succ, List.getElem_cons_zero, Act.put, List.setIfInBounds_toArray, List.set_cons_zero, List.set_cons_succ]
      have b4 : Below wr.heap.size wr w4 := ((Below.refl _ _).alloc (Nat.le_refl _) _).trans (how4.below (Nat.le_refl _))
      have HG4 : Hid (Og w w4 t tv M c P m) := HG.out.on b4
      have HQ4 : Hid (Kb w4 t tv wr.heap.size (.cells #[.int .i64 q.i, .int .u32 (q.k.s : Int), .int .u32 (q.k.d : Int), .int .u16 (q.k.p : Int), .int .u16 (q.k.q : Int), .int .u8 (q.k.r : Int), .int .i64 q.v] 38)) := HG.out.new b4 (Nat.le_refl _) hw4
      have HL4 : Hid (Li w4 t tv (.slice la c lc) D) := HL.out.on b4
      clear hw4 how4 d0 d1 d2 d3 d4 d5 d6 hZZ hgx2 b4 HG HL HBr
      generalize wr.heap.size = B at *
      obtain ⟨e0, e1, e2, e3, e4, e5, e6⟩ := blk7 HQ4.out.1
      by_cases hk1 : q.i = 1
      · rw [hk1] at e0
        have hpt := og_put q.k q.v HG4.out Hqk.out.1
        obtain ⟨E, hE⟩ : ∃ E, E = putE m M c q.k := ⟨_, rfl⟩
        have HE : Hid (E = putE m M c q.k) := hE
        rw [← hE] at hpt
        clear hE
        go_wp2_with (fail)
        refine hpt.mono ?_
        rintro e w5 ⟨rfl, v5, hg5, hm5⟩
        have HG5 : Hid (Og w w5 t v5 M (putN m M c q.k) (max P (putN m M c q.k)) (putM m M c q.k q.v)) := hg5
        have HL5 : Hid (Li w5 t v5 (.slice la c lc) D) := HL4.out.moved hm5
        have HQ5 : Hid (Kb w5 t v5 B (.cells #[.int .i64 q.i, .int .u32 (q.k.s : Int), .int .u32 (q.k.d : Int), .int .u16 (q.k.p : Int), .int .u16 (q.k.q : Int), .int .u8 (q.k.r : Int), .int .i64 q.v] 38)) := HQ4.out.moved hm5
        have hrp := rputY (.slice la c lc) m D M c q.k q.v w5 HL5.out.1 HT.out (by have := Hcl.out; omega) Hqk.out.1 Hc.out.1
        rw [← HE.out] at hrp
        clear HG4 HL4 HQ4 hpt hg5 hm5 HE
        clear e0 e1 e2 e3 e4 e5 e6
        obtain ⟨e0, e1, e2, e3, e4, e5, e6⟩ := blk7 HQ5.out.1
        go_wp2_with (fail)
        refine hrp.mono ?_
        rintro e w6 ⟨u', D', rfl, hT6, hN6, hk6, hb6⟩
        have HL6 : Hid (Li w6 t v5 u' D') := HL5.out.back HG5.out hb6 hk6
        have HQ7 : Hid (Kb w6 t v5 B (.cells #[.int .i64 q.i, .int .u32 (q.k.s : Int), .int .u32 (q.k.d : Int), .int .u16 (q.k.p : Int), .int .u16 (q.k.q : Int), .int .u8 (q.k.r : Int), .int .i64 q.v] 38)) := HQ5.out.on hb6
        obtain ⟨C', hC'⟩ : ∃ C', C' = putN m M c q.k := ⟨_, rfl⟩
        rw [← hC'] at HG5 hN6
        obtain ⟨la', lc', rfl⟩ : ∃ la' lc', u' = .slice la' C' lc' := by obtain ⟨ad, cap, e, _⟩ := HL6.out.1; exact ⟨ad, cap, by rw [e, hN6]⟩
        have HG7 : Hid (Og w w6 t v5 M C' (max P C') (putM m M c q.k q.v)) := HG5.out.on hb6
        have HT7 : Hid (Tells (putM m M c q.k q.v) D') := hT6
        have HL7 : Hid (Li w6 t v5 (.slice la' C' lc') D') := HL6.out
        obtain ⟨P', hP'⟩ : ∃ P', P' = max P C' := ⟨_, rfl⟩
        rw [← hP'] at HG7
        have Hc7 : Hid (C' = D'.length ∧ P' ≤ max pk C') := ⟨hN6, by have := Hc.out.2.1; omega⟩
        generalize putM m M c q.k q.v = m' at *
        clear hrp HG5 HL5 HQ5 HL6 hT6 hN6 hk6 hb6 hC' hP'
        clear e0 e1 e2 e3 e4 e5 e6
        have hcc : C' ≤ P' ∧ P' ≤ 65536 := by obtain ⟨_, _, _, _, _, _, _, a, b, d⟩ := HG7.out.a; omega
        have hc7 : (C' : Int) ≤ 65536 := by omega
        have hp7 : (pk : Int) ≤ 65536 := by have := Hc.out.2.2; omega
        obtain ⟨PK, hPK⟩ : ∃ PK, PK = max pk C' := ⟨_, rfl⟩
        have hmx : max (pk : Int) (C' : Int) = (PK : Int) := by rw [hPK]; omega
        have HPK : Hid (P' ≤ PK ∧ PK ≤ 65536) := by have h1 := Hc7.out.2; have h2 := Hc.out.2.2; rw [← hPK] at h1; exact ⟨h1, by omega⟩
        obtain ⟨e0, e1, e2, e3, e4, e5, e6⟩ := blk7 HQ7.out.1
        have hbd := boundsC t v5 M C' P' PK m' q.k w6 HG7.out.a Hqk.out.1 HPK.out.1 HPK.out.2
        clear hPK hcc
        go_upto_region 31 with (fail)
        try rw [hmx]
        clear hmx
        go_wp2_with (fail)
        refine hbd.mono ?_
        rintro e w9 ⟨rfl, hb9⟩
        have HG9 : Hid (Og w w9 t v5 M C' P' m') := HG7.out.on hb9
        have HL9 : Hid (Li w9 t v5 (.slice la' C' lc') D') := HL7.out.on hb9
        clear hbd hb9 e0 e1 e2 e3 e4 e5 e6 HQ7
        go_wp2_with (fail)
        go_roundw
        case rel => exact ⟨i + 1, C', P', PK, v5, m', D', la', lc', by omega, rfl, rfl, by go_num, HG9.out, HT7.out, HL9.out, Hc7.out.1, HPK.out.1, HPK.out.2⟩
        case measure => simp [intOf]; omega
      · by_cases hk2 : q.i = 2
        · rw [hk2] at e0
          have hgt := og_get q.k HG4.out Hqk.out.1
          have HRG : Hid (∀ W, Below w4.heap.size w4 W → Calls Try.prog 13 #[.slice la c lc, .agg #[.int .u32 ((q.k).s : Int), .int .u32 ((q.k).d : Int), .int .u16 ((q.k).p : Int), .int .u16 ((q.k).q : Int), .int .u8 ((q.k).r : Int)]] W fun e w' => e = .returned (.tuple #[.int .i64 ((m q.k).getD 0), .bool (m q.k).isSome]) ∧ Below W.heap.size W w') := fun W hb => rgetY (.slice la c lc) m D q.k W (HL4.out.on hb).1 HT.out (by have := Hcl.out; omega) Hqk.out.1
          obtain ⟨yy, hyy⟩ : ∃ yy, yy = (m q.k).getD 0 := ⟨_, rfl⟩
          obtain ⟨bb, hbb⟩ : ∃ bb, bb = (m q.k).isSome := ⟨_, rfl⟩
          rw [← hyy, ← hbb] at hgt HRG
          clear hyy hbb
          go_wp2_with (fail)
          refine hgt.mono ?_
          rintro e w5 ⟨rfl, hb5⟩
          have hrg := HRG.out w5 hb5
          have HG5 : Hid (Og w w5 t tv M c P m) := HG4.out.on hb5
          have HL5 : Hid (Li w5 t tv (.slice la c lc) D) := HL4.out.on hb5
          have HQ5 : Hid (Kb w5 t tv B (.cells #[.int .i64 q.i, .int .u32 (q.k.s : Int), .int .u32 (q.k.d : Int), .int .u16 (q.k.p : Int), .int .u16 (q.k.q : Int), .int .u8 (q.k.r : Int), .int .i64 q.v] 38)) := HQ4.out.on hb5
          clear HG4 HL4 HQ4 hgt HRG hb5
          clear e0 e1 e2 e3 e4 e5 e6
          obtain ⟨e0, e1, e2, e3, e4, e5, e6⟩ := blk7 HQ5.out.1
          go_wp2_with (fail)
          refine hrg.mono ?_
          rintro e w6 ⟨rfl, hb6⟩
          have HG7 : Hid (Og w w6 t tv M c P m) := HG5.out.on hb6
          have HT7 : Hid (Tells m D) := HT.out
          have HL7 : Hid (Li w6 t tv (.slice la c lc) D) := HL5.out.on hb6
          have HQ7 : Hid (Kb w6 t tv B (.cells #[.int .i64 q.i, .int .u32 (q.k.s : Int), .int .u32 (q.k.d : Int), .int .u16 (q.k.p : Int), .int .u16 (q.k.q : Int), .int .u8 (q.k.r : Int), .int .i64 q.v] 38)) := HQ5.out.on hb6
          have Hc7 : Hid (c = D.length ∧ P ≤ max pk c) := ⟨Hc.out.1, by have := Hc.out.2.1; omega⟩
          clear HG5 HL5 HQ5 hrg hb6
          clear e0 e1 e2 e3 e4 e5 e6
          have hcc : c ≤ P ∧ P ≤ 65536 := by obtain ⟨_, _, _, _, _, _, _, a, b, d⟩ := HG7.out.a; omega
          have hc7 : (c : Int) ≤ 65536 := by omega
          have hp7 : (pk : Int) ≤ 65536 := by have := Hc.out.2.2; omega
          obtain ⟨PK, hPK⟩ : ∃ PK, PK = max pk c := ⟨_, rfl⟩
          have hmx : max (pk : Int) (c : Int) = (PK : Int) := by rw [hPK]; omega
          have HPK : Hid (P ≤ PK ∧ PK ≤ 65536) := by have h1 := Hc7.out.2; have h2 := Hc.out.2.2; rw [← hPK] at h1; exact ⟨h1, by omega⟩
          obtain ⟨e0, e1, e2, e3, e4, e5, e6⟩ := blk7 HQ7.out.1
          have hbd := boundsC t tv M c P PK m q.k w6 HG7.out.a Hqk.out.1 HPK.out.1 HPK.out.2
          clear hPK hcc
          go_upto_region 31 with (fail)
          try rw [hmx]
          clear hmx
          go_wp2_with (fail)
          refine hbd.mono ?_
          rintro e w9 ⟨rfl, hb9⟩
          have HG9 : Hid (Og w w9 t tv M c P m) := HG7.out.on hb9
          have HL9 : Hid (Li w9 t tv (.slice la c lc) D) := HL7.out.on hb9
          clear hbd hb9 e0 e1 e2 e3 e4 e5 e6 HQ7
          go_wp2_with (fail)
          go_roundw
          case rel => exact ⟨i + 1, c, P, PK, tv, m, D, la, lc, by omega, rfl, rfl, by go_num, HG9.out, HT7.out, HL9.out, Hc7.out.1, HPK.out.1, HPK.out.2⟩
          case measure => simp [intOf]; omega
        · by_cases hk3 : q.i = 3
          · rw [hk3] at e0
            have hdl := og_del q.k HG4.out Hqk.out.1
            obtain ⟨bb, hbb⟩ : ∃ bb, bb = (m q.k).isSome := ⟨_, rfl⟩
            have Hbb : Hid (bb = (m q.k).isSome) := hbb
            rw [← hbb] at hdl
            clear hbb
            go_wp2_with (fail)
            refine hdl.mono ?_
            rintro e w5 ⟨rfl, hg5, hm5⟩
            have HG5 : Hid (Og w w5 t tv M (delN m c q.k) P (upd m q.k none)) := hg5
            have HL5 : Hid (Li w5 t tv (.slice la c lc) D) := HL4.out.moved hm5
            have HQ5 : Hid (Kb w5 t tv B (.cells #[.int .i64 q.i, .int .u32 (q.k.s : Int), .int .u32 (q.k.d : Int), .int .u16 (q.k.p : Int), .int .u16 (q.k.q : Int), .int .u8 (q.k.r : Int), .int .i64 q.v] 38)) := HQ4.out.moved hm5
            have hrd := rdelY (.slice la c lc) m D c q.k w5 HL5.out.1 HT.out (by have := Hcl.out; omega) Hqk.out.1 Hc.out.1
            rw [← Hbb.out] at hrd
            clear HG4 HL4 HQ4 hdl hg5 hm5 Hbb
            clear e0 e1 e2 e3 e4 e5 e6
            obtain ⟨e0, e1, e2, e3, e4, e5, e6⟩ := blk7 HQ5.out.1
            go_wp2_with (fail)
            refine hrd.mono ?_
            rintro e w6 ⟨u', D', rfl, hT6, hN6, hk6, hb6⟩
            have HL6 : Hid (Li w6 t tv u' D') := HL5.out.back HG5.out hb6 hk6
            obtain ⟨C', hC'⟩ : ∃ C', C' = delN m c q.k := ⟨_, rfl⟩
            have hle : C' ≤ c := by rw [hC']; unfold delN; split <;> omega
            rw [← hC'] at HG5 hN6
            obtain ⟨la', lc', rfl⟩ : ∃ la' lc', u' = .slice la' C' lc' := by obtain ⟨ad, cap, e, _⟩ := HL6.out.1; exact ⟨ad, cap, by rw [e, hN6]⟩
            have HG7 : Hid (Og w w6 t tv M C' P (upd m q.k none)) := HG5.out.on hb6
            have HT7 : Hid (Tells (upd m q.k none) D') := hT6
            have HL7 : Hid (Li w6 t tv (.slice la' C' lc') D') := HL6.out
            have HQ7 : Hid (Kb w6 t tv B (.cells #[.int .i64 q.i, .int .u32 (q.k.s : Int), .int .u32 (q.k.d : Int), .int .u16 (q.k.p : Int), .int .u16 (q.k.q : Int), .int .u8 (q.k.r : Int), .int .i64 q.v] 38)) := HQ5.out.on hb6
            have Hc7 : Hid (C' = D'.length ∧ P ≤ max pk C') := ⟨hN6, by have := Hc.out.2.1; omega⟩
            generalize upd m q.k none = m' at *
            clear HG5 HL5 HQ5 HL6 hrd hb6 hT6 hN6 hk6 hC' hle
            clear e0 e1 e2 e3 e4 e5 e6
            have hcc : C' ≤ P ∧ P ≤ 65536 := by obtain ⟨_, _, _, _, _, _, _, a, b, d⟩ := HG7.out.a; omega
            have hc7 : (C' : Int) ≤ 65536 := by omega
            have hp7 : (pk : Int) ≤ 65536 := by have := Hc.out.2.2; omega
            obtain ⟨PK, hPK⟩ : ∃ PK, PK = max pk C' := ⟨_, rfl⟩
            have hmx : max (pk : Int) (C' : Int) = (PK : Int) := by rw [hPK]; omega
            have HPK : Hid (P ≤ PK ∧ PK ≤ 65536) := by have h1 := Hc7.out.2; have h2 := Hc.out.2.2; rw [← hPK] at h1; exact ⟨h1, by omega⟩
            obtain ⟨e0, e1, e2, e3, e4, e5, e6⟩ := blk7 HQ7.out.1
            have hbd := boundsC t tv M C' P PK m' q.k w6 HG7.out.a Hqk.out.1 HPK.out.1 HPK.out.2
            clear hPK hcc
            go_upto_region 31 with (fail)
            try rw [hmx]
            clear hmx
            go_wp2_with (fail)
            refine hbd.mono ?_
            rintro e w9 ⟨rfl, hb9⟩
            have HG9 : Hid (Og w w9 t tv M C' P m') := HG7.out.on hb9
            have HL9 : Hid (Li w9 t tv (.slice la' C' lc') D') := HL7.out.on hb9
            clear hbd hb9 e0 e1 e2 e3 e4 e5 e6 HQ7
            go_wp2_with (fail)
            go_roundw
            case rel => exact ⟨i + 1, C', P, PK, tv, m', D', la', lc', by omega, rfl, rfl, by go_num, HG9.out, HT7.out, HL9.out, Hc7.out.1, HPK.out.1, HPK.out.2⟩
            case measure => simp [intOf]; omega
          · by_cases hk4 : q.i = 4
            · rw [hk4] at e0
              have hal := allsC t tv M c P m D (.slice la c lc) q.v w4 HG4.out.a HT.out HL4.out.1 (by have := Hcl.out; omega) Hqk.out.2.1 Hqk.out.2.2
              go_wp2_with (fail)
              refine hal.mono ?_
              rintro e w5 ⟨rfl, hb5⟩
              have HG7 : Hid (Og w w5 t tv M c P m) := HG4.out.on hb5
              have HT7 : Hid (Tells m D) := HT.out
              have HL7 : Hid (Li w5 t tv (.slice la c lc) D) := HL4.out.on hb5
              have HQ7 : Hid (Kb w5 t tv B (.cells #[.int .i64 q.i, .int .u32 (q.k.s : Int), .int .u32 (q.k.d : Int), .int .u16 (q.k.p : Int), .int .u16 (q.k.q : Int), .int .u8 (q.k.r : Int), .int .i64 q.v] 38)) := HQ4.out.on hb5
              have Hc7 : Hid (c = D.length ∧ P ≤ max pk c) := ⟨Hc.out.1, by have := Hc.out.2.1; omega⟩
              clear HG4 HL4 HQ4 hal hb5
              clear e0 e1 e2 e3 e4 e5 e6
              have hcc : c ≤ P ∧ P ≤ 65536 := by obtain ⟨_, _, _, _, _, _, _, a, b, d⟩ := HG7.out.a; omega
              have hc7 : (c : Int) ≤ 65536 := by omega
              have hp7 : (pk : Int) ≤ 65536 := by have := Hc.out.2.2; omega
              obtain ⟨PK, hPK⟩ : ∃ PK, PK = max pk c := ⟨_, rfl⟩
              have hmx : max (pk : Int) (c : Int) = (PK : Int) := by rw [hPK]; omega
              have HPK : Hid (P ≤ PK ∧ PK ≤ 65536) := by have h1 := Hc7.out.2; have h2 := Hc.out.2.2; rw [← hPK] at h1; exact ⟨h1, by omega⟩
              obtain ⟨e0, e1, e2, e3, e4, e5, e6⟩ := blk7 HQ7.out.1
              have hbd := boundsC t tv M c P PK m q.k w5 HG7.out.a Hqk.out.1 HPK.out.1 HPK.out.2
              clear hPK hcc
              go_upto_region 31 with (fail)
              try rw [hmx]
              clear hmx
              go_wp2_with (fail)
              refine hbd.mono ?_
              rintro e w9 ⟨rfl, hb9⟩
              have HG9 : Hid (Og w w9 t tv M c P m) := HG7.out.on hb9
              have HL9 : Hid (Li w9 t tv (.slice la c lc) D) := HL7.out.on hb9
              clear hbd hb9 e0 e1 e2 e3 e4 e5 e6 HQ7
              go_wp2_with (fail)
              go_roundw
              case rel => exact ⟨i + 1, c, P, PK, tv, m, D, la, lc, by omega, rfl, rfl, by go_num, HG9.out, HT7.out, HL9.out, Hc7.out.1, HPK.out.1, HPK.out.2⟩
              case measure => simp [intOf]; omega
            · have HG7 : Hid (Og w w4 t tv M c P m) := HG4.out
              have HT7 : Hid (Tells m D) := HT.out
              have HL7 : Hid (Li w4 t tv (.slice la c lc) D) := HL4.out
              have HQ7 : Hid (Kb w4 t tv B (.cells #[.int .i64 q.i, .int .u32 (q.k.s : Int), .int .u32 (q.k.d : Int), .int .u16 (q.k.p : Int), .int .u16 (q.k.q : Int), .int .u8 (q.k.r : Int), .int .i64 q.v] 38)) := HQ4.out
              have Hc7 : Hid (c = D.length ∧ P ≤ max pk c) := ⟨Hc.out.1, by have := Hc.out.2.1; omega⟩
              clear HG4 HL4 HQ4
              clear e0 e1 e2 e3 e4 e5 e6
              have hcc : c ≤ P ∧ P ≤ 65536 := by obtain ⟨_, _, _, _, _, _, _, a, b, d⟩ := HG7.out.a; omega
              have hc7 : (c : Int) ≤ 65536 := by omega
              have hp7 : (pk : Int) ≤ 65536 := by have := Hc.out.2.2; omega
              obtain ⟨PK, hPK⟩ : ∃ PK, PK = max pk c := ⟨_, rfl⟩
              have hmx : max (pk : Int) (c : Int) = (PK : Int) := by rw [hPK]; omega
              have HPK : Hid (P ≤ PK ∧ PK ≤ 65536) := by have h1 := Hc7.out.2; have h2 := Hc.out.2.2; rw [← hPK] at h1; exact ⟨h1, by omega⟩
              obtain ⟨e0, e1, e2, e3, e4, e5, e6⟩ := blk7 HQ7.out.1
              have hbd := boundsC t tv M c P PK m q.k w4 HG7.out.a Hqk.out.1 HPK.out.1 HPK.out.2
              clear hPK hcc
              go_upto_region 31 with (fail)
              try rw [hmx]
              clear hmx
              go_wp2_with (fail)
              refine hbd.mono ?_
              rintro e w9 ⟨rfl, hb9⟩
              have HG9 : Hid (Og w w9 t tv M c P m) := HG7.out.on hb9
              have HL9 : Hid (Li w9 t tv (.slice la c lc) D) := HL7.out.on hb9
              clear hbd hb9 e0 e1 e2 e3 e4 e5 e6 HQ7
              go_wp2_with (fail)
              go_roundw
              case rel => exact ⟨i + 1, c, P, PK, tv, m, D, la, lc, by omega, rfl, rfl, by go_num, HG9.out, HT7.out, HL9.out, Hc7.out.1, HPK.out.1, HPK.out.2⟩
              case measure => simp [intOf]; omega
    · obtain rfl : i = N := by omega
      have hnl : ¬ (i : Int) < (i : Int) := by omega
      go_wp2_with (fail)
      refine (awakeC wr).mono ?_
      rintro e w5 ⟨rfl, hb5⟩
      have hal := allsC t tv M c P m D (.slice la c lc) 0 w5 (HG.out.on hb5).a HT.out (HL.out.on hb5).1 (by have := Hcl.out; omega) (by decide) (by decide)
      have HB5 : Hid (Below w.heap.size w w5) := HBr.out.trans (hb5.mono HBr.out.size)
      clear hb5 HG HL
      go_wp2_with (fail)
      refine hal.mono ?_
      rintro e w6 ⟨rfl, hb6⟩
      have HB6 : Hid (Below w.heap.size w w6) := bel_of HB5.out hb6 HB5.out.size
      clear hal hb6 HB5
      go_wp2_with (fail)
      go_ret
      exact ⟨rfl, HB6.out⟩

end Go.Proofs.Ythfjdoenofkghaa
