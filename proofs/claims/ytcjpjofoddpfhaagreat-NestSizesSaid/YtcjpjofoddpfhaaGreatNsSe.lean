/-
  The document's Pairs.
-/
import Derived.Test.YtcjpjofoddpfhaaGreatNsLd
namespace Go.Proofs.YtcjpjofoddpfhaaGreat
open Go.RowKit
set_option linter.unusedVariables false
set_option linter.unusedSimpArgs false

set_option maxRecDepth 20000 in
set_option maxHeartbeats 4000000 in
theorem rPairsC (l : List Ru) (h : Hd) (v : Value) (w : World) (hs : SrcU w v l) (hl : l.length ≤ 16777216) (hb : ∀ R ∈ l, BdR R) (ho : OkH h) :
    Calls Tryz.prog 25 #[v, .agg #[.int .u32 (h.s : Int), .int .u32 (h.d : Int), .int .u16 (h.p : Int), .int .u16 (h.q : Int), .int .u8 (h.r : Int)]] w fun e w' => e = .returned (.int .i64 (prsN l h : Nat)) ∧ Below w.heap.size w w' := by
  have HS : Hid (SrcU w v l) := hs
  have HBd : Hid (∀ R ∈ l, BdR R) := hb
  obtain ⟨ad, cap, rfl, _, _⟩ := hs
  obtain ⟨n, hn⟩ : ∃ n, n = l.length := ⟨_, rfl⟩
  rw [← hn] at HS hl ⊢
  have Hn : Hid (n = l.length) := hn
  have Hend : Hid (prsN l h = (l.take n).countP (prsB h)) := by rw [hn, List.take_length]; rfl
  clear hn hb
  obtain ⟨A0, hA0⟩ : ∃ A, A = prsN l h := ⟨_, rfl⟩
  rw [← hA0] at Hend ⊢
  clear hA0
  obtain ⟨w0, hw0⟩ : ∃ w0, w0 = w.alloc (.cells #[.int .u32 (h.s : Int), .int .u32 (h.d : Int), .int .u16 (h.p : Int), .int .u16 (h.q : Int), .int .u8 (h.r : Int)] 40) := ⟨_, rfl⟩
  have z0 : w0.cell? ⟨w.heap.size, 0, none⟩ = some (.int .u32 (h.s : Int)) := by rw [hw0]; exact blk_cell (blk_new w _) rfl
  have z1 : w0.cell? ⟨w.heap.size, 1, none⟩ = some (.int .u32 (h.d : Int)) := by rw [hw0]; exact blk_cell (blk_new w _) rfl
  have HB0 : Hid (Below w.heap.size w w0) := by rw [hw0]; exact (Below.refl _ _).alloc (Nat.le_refl _) _
  have Hz0 : Hid _ := z0
  have Hz1 : Hid _ := z1
  have hw0s : w.alloc (.cells #[.int .u32 (h.s : Int), .int .u32 (h.d : Int), .int .u16 (h.p : Int), .int .u16 (h.q : Int), .int .u8 (h.r : Int)] 40) = w0 := hw0.symm
  clear hw0 z0 z1
  obtain ⟨ho1, ho2, _⟩ := ho
  go_enter Tryz.func25, Tryz.ntmps25
  go_wp2_with (fail)
  try simp only [hw0s]
  clear hw0s
  go_loopw [5, 6] (fun vs vi wr => ∃ k : Nat, k ≤ n ∧ vs = .int .i64 (((l.take k).countP (prsB h) : Nat) : Int) ∧ vi = .int .i64 (k : Int) ∧ Hid (Below w0.heap.size w0 wr)) (fun _ vi _ => n - (intOf vi).toNat)
  case atStart => exact ⟨0, Nat.zero_le _, rfl, rfl, Below.refl _ _⟩
  case round =>
    obtain ⟨k, hk, rfl, rfl, HB⟩ := hrel
    have HBw : Hid (Below w.heap.size w wr) := bel_of HB0.out HB.out HB0.out.size
    by_cases hlt : k < n
    · have hlt' : k < l.length := by rw [← Hn.out]; exact hlt
      have hlti : (k : Int) < (n : Int) := by omega
      obtain ⟨g, off, ea, hrg⟩ := HS.out.rng.2 wr HBw.out k hlt'
      subst ea
      have hst := prs_step (h := h) hlt'
      have hbd := HBd.out _ (List.getElem_mem hlt')
      obtain ⟨p, hp⟩ : ∃ p, p = l[k] := ⟨_, rfl⟩
      rw [← hp] at hrg hst hbd
      clear hp
      have x1 : wr.cell? ⟨g, off + k * 12 + 1, none⟩ = some (.int .u32 (p.s : Int)) := hrg 1 _ rfl
      have x2 : wr.cell? ⟨g, off + k * 12 + 2, none⟩ = some (.int .i64 p.sl) := hrg 2 _ rfl
      have x3 : wr.cell? ⟨g, off + k * 12 + 3, none⟩ = some (.int .u32 (p.d : Int)) := hrg 3 _ rfl
      have x4 : wr.cell? ⟨g, off + k * 12 + 4, none⟩ = some (.int .i64 p.dl) := hrg 4 _ rfl
      have z0 := cell_on1 HB.out Hz0.out
      have z1 := cell_on1 HB.out Hz1.out
      have hM : ∀ W, Calls Tryz.prog 48 #[.agg (encU p).toArray] W fun e w' => e = .returned (.bool (okR p)) ∧ Below W.heap.size W w' := fun W => rmayR p W hbd
      have hi : (Tryz.prog.info? 54).map (·.size) = some (encU p).toArray.size := infoXU
      have hg' : wr.rangeAt g (off + k * 12) (encU p).toArray.toList := hrg
      have hH1 := fun W => Pf.rhas_any p.s p.sl h.s W hbd.1 ho1
      have hH2 := fun W => Pf.rhas_any p.d p.dl h.d W hbd.2.1 ho2
      have Hst : Hid (((l.take (k + 1)).countP (prsB h)) = (l.take k).countP (prsB h) + if prsB h p then 1 else 0) := hst
      have hCb : (l.take k).countP (prsB h) ≤ 16777216 := Nat.le_trans List.countP_le_length (by rw [List.length_take]; omega)
      have Hpq : Hid (prsB h p = (okR p && (Pf.hasB p.s p.sl h.s && Pf.hasB p.d p.dl h.d))) := rfl
      clear hrg hst hbd
      generalize (encU p).toArray = A at *
      generalize (l.take k).countP (prsB h) = C at *
      have H1 : Hid _ := hg'
      have Hi : Hid _ := hi
      have kx1 : ∀ y : Kin wr, y.val.cell? ⟨g, off + k * 12 + 1, none⟩ = _ := fun y => cell_on1 y.is x1
      have kx2 : ∀ y : Kin wr, y.val.cell? ⟨g, off + k * 12 + 2, none⟩ = _ := fun y => cell_on1 y.is x2
      have kx3 : ∀ y : Kin wr, y.val.cell? ⟨g, off + k * 12 + 3, none⟩ = _ := fun y => cell_on1 y.is x3
      have kx4 : ∀ y : Kin wr, y.val.cell? ⟨g, off + k * 12 + 4, none⟩ = _ := fun y => cell_on1 y.is x4
      have kz0 : ∀ y : Kin wr, y.val.cell? ⟨w.heap.size, 0, none⟩ = _ := fun y => cell_on1 y.is z0
      have kz1 : ∀ y : Kin wr, y.val.cell? ⟨w.heap.size, 1, none⟩ = _ := fun y => cell_on1 y.is z1
      have kne : Nonempty (Kin wr) := ⟨⟨_, Below.refl _ _⟩⟩
      clear hg' hi x1 x2 x3 x4 z0 z1
      cases hok : okR p with
      | false =>
        rw [hok] at hM
        have Hq : Hid (((l.take (k + 1)).countP (prsB h)) = C) := by have := Hst.out; rw [Hpq.out, hok] at this; show _ = _; simpa using this
        clear hok Hst Hpq
        go_upto_region 5 with (fail)
        refine wp_region_kin wr (Below.refl _ _) (by kernel_rfl) (by kernel_rfl) ?_
        iterate 3 (go_big_quiet_step (fail))
        refine wpQuiet_load_mid rfl 54 (.tmp 15) rfl g (off + k * 12) A rfl (range_kin H1.out) Tryz.underlying54 rfl Hi.out ?_
        simp only [List.getElem_toArray, List.getElem_cons_succ, List.getElem_cons_zero, Act.put, List.setIfInBounds_toArray, List.set_cons_zero, List.set_cons_succ]
        repeat (go_big_quiet_step (first | (go_at_call 48; exact kin_call (hM _))))
        refine wpQuiet_nil ?_
        rintro wq ⟨⟨xq, hxq⟩, hyq⟩
        have HB2 : Hid (Below w0.heap.size w0 wq) := by show Below _ _ _; rw [hyq]; exact bel_of HB.out hxq HB.out.size
        clear hyq hxq xq kne hM hH1 hH2 kx1 kx2 kx3 kx4 kz0 kz1 H1 Hi
        go_wp2_with (fail)
        go_roundw
        case rel => exact ⟨k + 1, by omega, by rw [Hq.out], by go_num, HB2.out⟩
        case measure => simp [intOf]; omega
      | true =>
        rw [hok] at hM
        cases h1 : Pf.hasB p.s p.sl h.s with
        | false =>
          rw [h1] at hH1
          have Hq : Hid (((l.take (k + 1)).countP (prsB h)) = C) := by have := Hst.out; rw [Hpq.out, hok, h1] at this; show _ = _; simpa using this
          clear hok h1 Hst Hpq
          go_upto_region 5 with (fail)
          refine wp_region_kin wr (Below.refl _ _) (by kernel_rfl) (by kernel_rfl) ?_
          iterate 3 (go_big_quiet_step (fail))
          refine wpQuiet_load_mid rfl 54 (.tmp 15) rfl g (off + k * 12) A rfl (range_kin H1.out) Tryz.underlying54 rfl Hi.out ?_
          simp only [List.getElem_toArray, List.getElem_cons_succ, List.getElem_cons_zero, Act.put, List.setIfInBounds_toArray, List.set_cons_zero, List.set_cons_succ]
          repeat (go_big_quiet_step (first | (go_at_call 48; exact kin_call (hM _)) | (go_at_call 49; exact kin_call (hH1 _))))
          refine wpQuiet_nil ?_
          rintro wq ⟨⟨xq, hxq⟩, hyq⟩
          have HB2 : Hid (Below w0.heap.size w0 wq) := by show Below _ _ _; rw [hyq]; exact bel_of HB.out hxq HB.out.size
          clear hyq hxq xq kne hM hH1 hH2 kx1 kx2 kx3 kx4 kz0 kz1 H1 Hi
          go_wp2_with (fail)
          go_roundw
          case rel => exact ⟨k + 1, by omega, by rw [Hq.out], by go_num, HB2.out⟩
          case measure => simp [intOf]; omega
        | true =>
          rw [h1] at hH1
          cases h2 : Pf.hasB p.d p.dl h.d with
          | false =>
            rw [h2] at hH2
            have Hq : Hid (((l.take (k + 1)).countP (prsB h)) = C) := by have := Hst.out; rw [Hpq.out, hok, h1, h2] at this; show _ = _; simpa using this
            clear hok h1 h2 Hst Hpq
            go_upto_region 5 with (fail)
            refine wp_region_kin wr (Below.refl _ _) (by kernel_rfl) (by kernel_rfl) ?_
            iterate 3 (go_big_quiet_step (fail))
            refine wpQuiet_load_mid rfl 54 (.tmp 15) rfl g (off + k * 12) A rfl (range_kin H1.out) Tryz.underlying54 rfl Hi.out ?_
            simp only [List.getElem_toArray, List.getElem_cons_succ, List.getElem_cons_zero, Act.put, List.setIfInBounds_toArray, List.set_cons_zero, List.set_cons_succ]
            repeat (go_big_quiet_step (first | (go_at_call 48; exact kin_call (hM _)) | (go_at_call_of 49 (Value.agg #[Value.int IntKind.u32 (p.s : Int), Value.int IntKind.i64 p.sl]); exact kin_call (hH1 _)) | (go_at_call_of 49 (Value.agg #[Value.int IntKind.u32 (p.d : Int), Value.int IntKind.i64 p.dl]); exact kin_call (hH2 _))))
            refine wpQuiet_nil ?_
            rintro wq ⟨⟨xq, hxq⟩, hyq⟩
            have HB2 : Hid (Below w0.heap.size w0 wq) := by show Below _ _ _; rw [hyq]; exact bel_of HB.out hxq HB.out.size
            clear hyq hxq xq kne hM hH1 hH2 kx1 kx2 kx3 kx4 kz0 kz1 H1 Hi
            go_wp2_with (fail)
            go_roundw
            case rel => exact ⟨k + 1, by omega, by rw [Hq.out], by go_num, HB2.out⟩
            case measure => simp [intOf]; omega
          | true =>
            rw [h2] at hH2
            have Hq : Hid (((l.take (k + 1)).countP (prsB h)) = C + 1) := by have := Hst.out; rw [Hpq.out, hok, h1, h2] at this; show _ = _; simpa using this
            clear hok h1 h2 Hst Hpq
            go_upto_region 5 with (fail)
            refine wp_region_kin wr (Below.refl _ _) (by kernel_rfl) (by kernel_rfl) ?_
            iterate 3 (go_big_quiet_step (fail))
            refine wpQuiet_load_mid rfl 54 (.tmp 15) rfl g (off + k * 12) A rfl (range_kin H1.out) Tryz.underlying54 rfl Hi.out ?_
            simp only [List.getElem_toArray, List.getElem_cons_succ, List.getElem_cons_zero, Act.put, List.setIfInBounds_toArray, List.set_cons_zero, List.set_cons_succ]
            repeat (go_big_quiet_step (first | (go_at_call 48; exact kin_call (hM _)) | (go_at_call_of 49 (Value.agg #[Value.int IntKind.u32 (p.s : Int), Value.int IntKind.i64 p.sl]); exact kin_call (hH1 _)) | (go_at_call_of 49 (Value.agg #[Value.int IntKind.u32 (p.d : Int), Value.int IntKind.i64 p.dl]); exact kin_call (hH2 _))))
            refine wpQuiet_nil ?_
            rintro wq ⟨⟨xq, hxq⟩, hyq⟩
            have HB2 : Hid (Below w0.heap.size w0 wq) := by show Below _ _ _; rw [hyq]; exact bel_of HB.out hxq HB.out.size
            clear hyq hxq xq kne hM hH1 hH2 kx1 kx2 kx3 kx4 kz0 kz1 H1 Hi
            go_wp2_with (fail)
            go_roundw
            case rel => exact ⟨k + 1, by omega, (by rw [Hq.out]; go_num), by go_num, HB2.out⟩
            case measure => simp [intOf]; omega
    · obtain rfl : k = n := by omega
      have hni : ¬ (k : Int) < (k : Int) := by omega
      rw [← Hend.out]
      go_wp2
      go_ret
      exact ⟨rfl, HBw.out⟩
end Go.Proofs.YtcjpjofoddpfhaaGreat
