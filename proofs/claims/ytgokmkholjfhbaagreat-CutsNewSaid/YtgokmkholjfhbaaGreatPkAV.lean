/-
  PkAV: CtNs, one behind the other (tools/pack.py).
-/
import Derived.Test.YtgokmkholjfhbaaGreatPkAQ
import Derived.Test.YtgokmkholjfhbaaGreatPkAS
import Derived.Test.YtgokmkholjfhbaaGreatPkAE
set_option linter.unusedVariables false
set_option linter.unusedSimpArgs false
namespace Go.Proofs.YtgokmkholjfhbaaGreat
open Go.RowKit
set_option maxRecDepth 20000 in
set_option maxHeartbeats 40000000 in
theorem nars (i FFn : Nat) (hm : (i = 2 ∧ FFn = 89) ∨ (i = 3 ∧ FFn = 92)) (p : Pt) (L : List CtE) (t : Nat × Nat) (bf bm : Nat) (w : World)
  (hbf : w.cell? ⟨bf, 0, none⟩ = some (.func (.func FFn) #[] #[])) (hbm : w.cell? ⟨bm, 0, none⟩ = some (.func (.func 91) #[] #[]))
  (hs : SrcZ w (.slice p.ad p.n p.cap) L) (hl : L.length ≤ 64) (hLo : ∀ e ∈ L, okF i (fget i e.2) = true) (hLb : ∀ e ∈ L, bdF i (fget i e.2)) (hto : okF i t = true) (htb : bdF i t) :
  Calls Tryz.prog 116 #[.agg #[.int .u32 p.x.a.1, .int .u32 p.x.a.2, .int .u32 p.x.b.1, .int .u32 p.x.b.2, .int .u16 p.x.c.1, .int .u16 p.x.c.2, .int .u16 p.x.d.1, .int .u16 p.x.d.2, .int .u8 p.x.m.1, .int .u8 p.x.m.2, .slice p.ad p.n p.cap], .agg #[.int .u16 t.1, .int .u16 t.2], .pointer (some ⟨bf, 0, none⟩), .pointer (some ⟨bm, 0, none⟩)] w fun e w' =>
   ∃ q : Pt, e = .returned (.agg #[.int .u32 q.x.a.1, .int .u32 q.x.a.2, .int .u32 q.x.b.1, .int .u32 q.x.b.2, .int .u16 q.x.c.1, .int .u16 q.x.c.2, .int .u16 q.x.d.1, .int .u16 q.x.d.2, .int .u8 q.x.m.1, .int .u8 q.x.m.2, .slice q.ad q.n q.cap]) ∧ q.x = fset i p.x t ∧ RowZ w' w.heap.size (.slice q.ad q.n q.cap) (nar i (fset i p.x t) t L) ∧ Below w.heap.size w w' := by
 have hm2 : Mk i := ⟨⟩
 rcases hm with ⟨rfl, rfl⟩ | ⟨rfl, rfl⟩
 all_goals
  first | (have hq : Mk 2 := hm2; clear hq; have hf := fun (B o : Nat) (W : World) => fieldC2 B o W) | (have hq : Mk 3 := hm2; clear hq; have hf := fun (B o : Nat) (W : World) => fieldC3 B o W)
  obtain ⟨hn, hcap, hr⟩ := hs.rng
  obtain ⟨X, ad, n, cap⟩ := p
  simp only at hn hcap hr hs ⊢
  have hn64 : n ≤ 64 := by omega
  have hbfl : bf < w.heap.size := World.block_lt_of_cell? _ _ hbf
  have hbml : bm < w.heap.size := World.block_lt_of_cell? _ _ hbm
  have HS : Hid (SrcZ w (.slice ad n cap) L) := hs
  have HN : Hid (n = L.length) := hn
  have Hcap : Hid (n ≤ cap) := hcap
  first | (have hq : Mk 2 := hm2; clear hq; have HLo : Hid (∀ e ∈ L, okF 2 (fget 2 e.2) = true) := hLo) | (have hq : Mk 3 := hm2; clear hq; have HLo : Hid (∀ e ∈ L, okF 3 (fget 3 e.2) = true) := hLo)
  first | (have hq : Mk 2 := hm2; clear hq; have HLb : Hid (∀ e ∈ L, bdF 2 (fget 2 e.2)) := hLb) | (have hq : Mk 3 := hm2; clear hq; have HLb : Hid (∀ e ∈ L, bdF 3 (fget 3 e.2)) := hLb)
  first | (have hq : Mk 2 := hm2; clear hq; have Hto : Hid (okF 2 t = true) := hto) | (have hq : Mk 3 := hm2; clear hq; have Hto : Hid (okF 3 t = true) := hto)
  first | (have hq : Mk 2 := hm2; clear hq; have Htb : Hid (bdF 2 t) := htb) | (have hq : Mk 3 := hm2; clear hq; have Htb : Hid (bdF 3 t) := htb)
  have HR : Hid _ := hr
  have Hf : Hid _ := hf
  clear hs hn hcap hLo hLb hto htb hr hl hf
  obtain ⟨hp0, ht0, hr0, hb0⟩ := al3 w (.cells #[.int .u32 X.a.1, .int .u32 X.a.2, .int .u32 X.b.1, .int .u32 X.b.2, .int .u16 X.c.1, .int .u16 X.c.2, .int .u16 X.d.1, .int .u16 X.d.2, .int .u8 X.m.1, .int .u8 X.m.2, .slice ad n cap] 135) (.cells #[.int .u16 t.1, .int .u16 t.2] 60) (.cells #[.int .u32 0, .int .u32 0, .int .u32 0, .int .u32 0, .int .u16 0, .int .u16 0, .int .u16 0, .int .u16 0, .int .u8 0, .int .u8 0, .slice none 0 0] 135)
  obtain ⟨w0, hw0⟩ : ∃ w0, w0 = (((w.alloc (.cells #[.int .u32 X.a.1, .int .u32 X.a.2, .int .u32 X.b.1, .int .u32 X.b.2, .int .u16 X.c.1, .int .u16 X.c.2, .int .u16 X.d.1, .int .u16 X.d.2, .int .u8 X.m.1, .int .u8 X.m.2, .slice ad n cap] 135)).alloc (.cells #[.int .u16 t.1, .int .u16 t.2] 60)).alloc (.cells #[.int .u32 0, .int .u32 0, .int .u32 0, .int .u32 0, .int .u16 0, .int .u16 0, .int .u16 0, .int .u16 0, .int .u8 0, .int .u8 0, .slice none 0 0] 135)) := ⟨_, rfl⟩
  rw [← hw0] at hp0 ht0 hr0 hb0
  have HB0 : Hid (Below w.heap.size w w0) := hb0
  have HP0 : Hid (w0.heap[w.heap.size]? = some (.cells #[.int .u32 X.a.1, .int .u32 X.a.2, .int .u32 X.b.1, .int .u32 X.b.2, .int .u16 X.c.1, .int .u16 X.c.2, .int .u16 X.d.1, .int .u16 X.d.2, .int .u8 X.m.1, .int .u8 X.m.2, .slice ad n cap] 135)) := hp0
  have HT0 : Hid (w0.heap[w.heap.size + 1]? = some (.cells #[.int .u16 t.1, .int .u16 t.2] 60)) := ht0
  have HR0 : Hid (w0.heap[w.heap.size + 1 + 1]? = some (.cells #[.int .u32 0, .int .u32 0, .int .u32 0, .int .u32 0, .int .u16 0, .int .u16 0, .int .u16 0, .int .u16 0, .int .u8 0, .int .u8 0, .slice none 0 0] 135)) := hr0
  clear hp0 ht0 hr0 hb0
  have Hw0 : Hid ((((w.alloc (.cells #[.int .u32 X.a.1, .int .u32 X.a.2, .int .u32 X.b.1, .int .u32 X.b.2, .int .u16 X.c.1, .int .u16 X.c.2, .int .u16 X.d.1, .int .u16 X.d.2, .int .u8 X.m.1, .int .u8 X.m.2, .slice ad n cap] 135)).alloc (.cells #[.int .u16 t.1, .int .u16 t.2] 60)).alloc (.cells #[.int .u32 0, .int .u32 0, .int .u32 0, .int .u32 0, .int .u16 0, .int .u16 0, .int .u16 0, .int .u16 0, .int .u8 0, .int .u8 0, .slice none 0 0] 135)) = w0) := hw0.symm
  clear hw0
  go_enter Tryz.func116, Tryz.ntmps116
  go_upto_region 1 with (fail)
  rw [Hw0.out]
  clear Hw0
  have cf0 := cell_on1 HB0.out hbf
  have cm0 := cell_on1 HB0.out hbm
  have hbf0 : Hid _ := hbf
  have hbm0 : Hid _ := hbm
  clear hbf hbm
  go_cut [7] (fun s wx => ∃ Bh g : Nat, s = .pointer (some ⟨Bh, 0, none⟩) ∧ Hid (wx.heap[Bh]? = some (.cells #[.int .u32 X.a.1, .int .u32 X.a.2, .int .u32 X.b.1, .int .u32 X.b.2, .int .u16 X.c.1, .int .u16 X.c.2, .int .u16 X.d.1, .int .u16 X.d.2, .int .u8 X.m.1, .int .u8 X.m.2, .slice (some ⟨g, 0, none⟩) 0 n] 135)) ∧ Hid (RowZ wx w.heap.size (.slice (some ⟨g, 0, none⟩) 0 n) []) ∧ Hid (Bh ≠ g ∧ w.heap.size + 1 + 1 < Bh ∧ w.heap.size + 1 + 1 < g) ∧ Hid (Below w0.heap.size w0 wx))
  case first =>
   obtain ⟨cP0, cP10⟩ := ct_part HP0.out
   have lP := blk_lt HP0.out
   have lR := blk_lt HR0.out
   have hmk := fun W : World => run_makeZ W n hn64
   refine wp_region_held_drew (S := fun w' => Below w0.heap.size w0 w') (by kernel_rfl) (Below.drew (Below.refl _ _)) (fun hS0 => ?_)
   show wpAnyH _ _ _ _ _ 9 _ _ _
   refine wpTk (i := 0) (v := .pointer (some ⟨w.heap.size, 0, none⟩)) hS0 ?_
   simp only [nrm]
   refine wpLd (i := 1) rfl (yieldsIf_load_mid rfl 74 (.tmp 12) rfl w.heap.size 0 rfl [.int .u32 X.a.1, .int .u32 X.a.2, .int .u32 X.b.1, .int .u32 X.b.2, .int .u16 X.c.1, .int .u16 X.c.2, .int .u16 X.d.1, .int .u16 X.d.2, .int .u8 X.m.1, .int .u8 X.m.2] _ (fun w' hw' => rng_on hw' cP0) Tryz.underlying74 rfl (by kernel_rfl)) hS0 ?_
   simp only [nrm]
   refine wpTk (i := 2) (v := .pointer (some ⟨w.heap.size, 10, none⟩)) hS0 ?_
   simp only [nrm]
   refine wpAnyH_take (i := 3) (v := .slice ad n cap) rfl (by kernel_rfl) (by kernel_rfl) (by kernel_rfl) (fun _ _ _ h => h) (.inl ⟨rfl, fun w' hw' => by have hcc := cell_on1 hw' cP10; simp [execOp, go_sem, hcc]⟩) hS0 ?_
   simp only [nrm]
   refine wpTk (i := 4) (v := .int .i64 n) hS0 ?_
   simp only [nrm]
   refine wpAnyH_all (rs := [5, 7]) (by kernel_rfl) (by simp) ?_
   intro i hi
   simp only [mmL] at hi
   rcases hi with rfl | rfl
   ·refine wpOp_of_wp rfl rfl (fun K' hK' => ?_)
    have hm := hmk w0.drew
    go_wp2_with (fail)
    refine ⟨(Below.drew (Below.refl _ _)).alloc (Nat.le_refl _) _, ?_⟩
    have hS1 : Below w0.heap.size w0 (w0.drew.alloc (.cells (madeCells #[.int .i64 0, .int .u32 0, .int .u32 0, .int .u32 0, .int .u32 0, .int .u16 0, .int .u16 0, .int .u16 0, .int .u16 0, .int .u8 0, .int .u8 0] (n * 11)) 159)) := (Below.drew (Below.refl _ _)).alloc (Nat.le_refl _) _
    refine wpTk (i := 6) (v := .agg #[.int .u32 X.a.1, .int .u32 X.a.2, .int .u32 X.b.1, .int .u32 X.b.2, .int .u16 X.c.1, .int .u16 X.c.2, .int .u16 X.d.1, .int .u16 X.d.2, .int .u8 X.m.1, .int .u8 X.m.2, .slice (some ⟨w0.heap.size, 0, none⟩) 0 n]) hS1 ?_
    simp only [nrm]
    refine wpO 7 (fun K' hK' => ?_)
    go_wp2_with (fail)
    have hS2 : Below w0.heap.size w0 ((w0.drew.alloc (.cells (madeCells #[.int .i64 0, .int .u32 0, .int .u32 0, .int .u32 0, .int .u32 0, .int .u16 0, .int .u16 0, .int .u16 0, .int .u16 0, .int .u8 0, .int .u8 0] (n * 11)) 159)).alloc (.cells #[.int .u32 0, .int .u32 0, .int .u32 0, .int .u32 0, .int .u16 0, .int .u16 0, .int .u16 0, .int .u16 0, .int .u8 0, .int .u8 0, .slice none 0 0] 135)) := hS1.alloc (by simp) _
    refine ⟨hS2, ?_⟩
    have hBP := blk_new (w0.drew.alloc (.cells (madeCells #[.int .i64 0, .int .u32 0, .int .u32 0, .int .u32 0, .int .u32 0, .int .u16 0, .int .u16 0, .int .u16 0, .int .u16 0, .int .u8 0, .int .u8 0] (n * 11)) 159)) (.cells #[.int .u32 0, .int .u32 0, .int .u32 0, .int .u32 0, .int .u16 0, .int .u16 0, .int .u16 0, .int .u16 0, .int .u8 0, .int .u8 0, .slice none 0 0] 135)
    rw [show (w0.drew.alloc (.cells (madeCells #[.int .i64 0, .int .u32 0, .int .u32 0, .int .u32 0, .int .u32 0, .int .u16 0, .int .u16 0, .int .u16 0, .int .u16 0, .int .u8 0, .int .u8 0] (n * 11)) 159)).heap.size = w0.heap.size + 1 by simp] at hBP
    have hRw := (made_rowZ w0.drew n hn64).alloc (.cells #[.int .u32 0, .int .u32 0, .int .u32 0, .int .u32 0, .int .u16 0, .int .u16 0, .int .u16 0, .int .u16 0, .int .u8 0, .int .u8 0, .slice none 0 0] 135)
    have hBl := blk_lt HR0.out
    refine wpO 8 (fun K' hK' => ?_)
    refine wpSt 135 (.tmp 7) (.tmp 18) rfl (w0.heap.size + 1) 0 #[.int .u32 X.a.1, .int .u32 X.a.2, .int .u32 X.b.1, .int .u32 X.b.2, .int .u16 X.c.1, .int .u16 X.c.2, .int .u16 X.d.1, .int .u16 X.d.2, .int .u8 X.m.1, .int .u8 X.m.2, .slice (some ⟨w0.heap.size, 0, none⟩) 0 n] #[.int .u32 X.a.1, .int .u32 X.a.2, .int .u32 X.b.1, .int .u32 X.b.2, .int .u16 X.c.1, .int .u16 X.c.2, .int .u16 X.d.1, .int .u16 X.d.2, .int .u8 X.m.1, .int .u8 X.m.2, .slice (some ⟨w0.heap.size, 0, none⟩) 0 n] rfl rfl 135 _ hBP (fun w9 h9 ho9 => hK' _ _ ⟨?_, ?_⟩)
    ·exact hS2.trans (ho9.below (by simp))
    ·refine wpAnyH_done (by kernel_rfl) ?_ _
     simp only [nrm]
     have HS9 : Hid (Below w0.heap.size w0 w9) := hS2.trans (ho9.below (by simp))
     have HR9 : Hid (RowZ w9 w.heap.size (.slice (some ⟨w0.heap.size, 0, none⟩) 0 n) []) := (rowZ_stay (hRw) (fun k hk => ho9.block k (by intro e; subst e; simp [Value.ownBlock] at hk))).base (by have := HB0.out.size; first | omega | (simp; omega))
     have HN9 : Hid (w0.heap.size + 1 ≠ w0.heap.size ∧ w.heap.size + 1 + 1 < w0.heap.size + 1 ∧ w.heap.size + 1 + 1 < w0.heap.size) := ⟨by simp, by omega, by omega⟩
     go_wp2_with (fail)
     go_meet
     case rel => exact ⟨_, _, rfl, h9, HR9.out, HN9.out, HS9.out⟩
   ·refine wpOp_of_wp rfl rfl (fun K' hK' => ?_)
    go_wp2_with (fail)
    have hS1 : Below w0.heap.size w0 (w0.drew.alloc (.cells #[.int .u32 0, .int .u32 0, .int .u32 0, .int .u32 0, .int .u16 0, .int .u16 0, .int .u16 0, .int .u16 0, .int .u8 0, .int .u8 0, .slice none 0 0] 135)) := (Below.drew (Below.refl _ _)).alloc (Nat.le_refl _) _
    refine ⟨hS1, ?_⟩
    have hm := hmk (w0.drew.alloc (.cells #[.int .u32 0, .int .u32 0, .int .u32 0, .int .u32 0, .int .u16 0, .int .u16 0, .int .u16 0, .int .u16 0, .int .u8 0, .int .u8 0, .slice none 0 0] 135))
    refine wpO 5 (fun K' hK' => ?_)
    go_wp2_with (fail)
    have hS2 : Below w0.heap.size w0 ((w0.drew.alloc (.cells #[.int .u32 0, .int .u32 0, .int .u32 0, .int .u32 0, .int .u16 0, .int .u16 0, .int .u16 0, .int .u16 0, .int .u8 0, .int .u8 0, .slice none 0 0] 135)).alloc (.cells (madeCells #[.int .i64 0, .int .u32 0, .int .u32 0, .int .u32 0, .int .u32 0, .int .u16 0, .int .u16 0, .int .u16 0, .int .u16 0, .int .u8 0, .int .u8 0] (n * 11)) 159)) := hS1.alloc (by simp) _
    refine ⟨hS2, ?_⟩
    refine wpTk (i := 6) (v := .agg #[.int .u32 X.a.1, .int .u32 X.a.2, .int .u32 X.b.1, .int .u32 X.b.2, .int .u16 X.c.1, .int .u16 X.c.2, .int .u16 X.d.1, .int .u16 X.d.2, .int .u8 X.m.1, .int .u8 X.m.2, .slice (some ⟨w0.heap.size + 1, 0, none⟩) 0 n]) hS2 ?_
    simp only [nrm]
    have hBP := blk_alloc (blk_new w0.drew (.cells #[.int .u32 0, .int .u32 0, .int .u32 0, .int .u32 0, .int .u16 0, .int .u16 0, .int .u16 0, .int .u16 0, .int .u8 0, .int .u8 0, .slice none 0 0] 135)) (.cells (madeCells #[.int .i64 0, .int .u32 0, .int .u32 0, .int .u32 0, .int .u32 0, .int .u16 0, .int .u16 0, .int .u16 0, .int .u16 0, .int .u8 0, .int .u8 0] (n * 11)) 159)
    have hRw := made_rowZ (w0.drew.alloc (.cells #[.int .u32 0, .int .u32 0, .int .u32 0, .int .u32 0, .int .u16 0, .int .u16 0, .int .u16 0, .int .u16 0, .int .u8 0, .int .u8 0, .slice none 0 0] 135)) n hn64
    rw [show (w0.drew.alloc (.cells #[.int .u32 0, .int .u32 0, .int .u32 0, .int .u32 0, .int .u16 0, .int .u16 0, .int .u16 0, .int .u16 0, .int .u8 0, .int .u8 0, .slice none 0 0] 135)).heap.size = w0.heap.size + 1 by simp] at hRw
    have hBl := blk_lt HR0.out
    refine wpO 8 (fun K' hK' => ?_)
    refine wpSt 135 (.tmp 7) (.tmp 18) rfl (w0.heap.size) 0 #[.int .u32 X.a.1, .int .u32 X.a.2, .int .u32 X.b.1, .int .u32 X.b.2, .int .u16 X.c.1, .int .u16 X.c.2, .int .u16 X.d.1, .int .u16 X.d.2, .int .u8 X.m.1, .int .u8 X.m.2, .slice (some ⟨w0.heap.size + 1, 0, none⟩) 0 n] #[.int .u32 X.a.1, .int .u32 X.a.2, .int .u32 X.b.1, .int .u32 X.b.2, .int .u16 X.c.1, .int .u16 X.c.2, .int .u16 X.d.1, .int .u16 X.d.2, .int .u8 X.m.1, .int .u8 X.m.2, .slice (some ⟨w0.heap.size + 1, 0, none⟩) 0 n] rfl rfl 135 _ hBP (fun w9 h9 ho9 => hK' _ _ ⟨?_, ?_⟩)
    ·exact hS2.trans (ho9.below (by simp))
    ·refine wpAnyH_done (by kernel_rfl) ?_ _
     simp only [nrm]
     have HS9 : Hid (Below w0.heap.size w0 w9) := hS2.trans (ho9.below (by simp))
     have HR9 : Hid (RowZ w9 w.heap.size (.slice (some ⟨w0.heap.size + 1, 0, none⟩) 0 n) []) := (rowZ_stay (hRw) (fun k hk => ho9.block k (by intro e; subst e; simp [Value.ownBlock] at hk))).base (by have := HB0.out.size; first | omega | (simp; omega))
     have HN9 : Hid (w0.heap.size ≠ w0.heap.size + 1 ∧ w.heap.size + 1 + 1 < w0.heap.size ∧ w.heap.size + 1 + 1 < w0.heap.size + 1) := ⟨by simp, by omega, by omega⟩
     go_wp2_with (fail)
     go_meet
     case rel => exact ⟨_, _, rfl, h9, HR9.out, HN9.out, HS9.out⟩
  case rest =>
   obtain ⟨Bh, g, rfl, HH, HRow, Hne, HBx⟩ := hcut
   have Hn0 : Hid (NarS w wc Bh g 0 n (.cells #[.int .u32 X.a.1, .int .u32 X.a.2, .int .u32 X.b.1, .int .u32 X.b.2, .int .u16 X.c.1, .int .u16 X.c.2, .int .u16 X.d.1, .int .u16 X.d.2, .int .u8 X.m.1, .int .u8 X.m.2, .slice ad n cap] 135) (.cells #[.int .u16 t.1, .int .u16 t.2] 60) (.cells #[.int .u32 0, .int .u32 0, .int .u32 0, .int .u32 0, .int .u16 0, .int .u16 0, .int .u16 0, .int .u16 0, .int .u8 0, .int .u8 0, .slice none 0 0] 135) (.cells #[.int .u32 X.a.1, .int .u32 X.a.2, .int .u32 X.b.1, .int .u32 X.b.2, .int .u16 X.c.1, .int .u16 X.c.2, .int .u16 X.d.1, .int .u16 X.d.2, .int .u8 X.m.1, .int .u8 X.m.2, .slice (some ⟨g, 0, none⟩) 0 n] 135) []) := ⟨blk_on HP0.out HBx.out, blk_on HT0.out HBx.out, blk_on HR0.out HBx.out, HH.out, HRow.out, Hne.out, HB0.out.trans (HBx.out.mono HB0.out.size)⟩
   clear HH HRow Hne HBx HP0 HT0 HR0 HB0 cf0 cm0
   have cf1 := cell_on1 Hn0.out.bel hbf0.out
   have rT := rng_two Hn0.out.ht
   obtain ⟨n1, n2, n3⟩ := Hn0.out.ne
   first | (have hq : Mk 2 := hm2; clear hq; obtain ⟨Y, hY⟩ : ∃ Y, Y = fset 2 X t := ⟨_, rfl⟩) | (have hq : Mk 3 := hm2; clear hq; obtain ⟨Y, hY⟩ : ∃ Y, Y = fset 3 X t := ⟨_, rfl⟩)
   first | (have hq : Mk 2 := hm2; clear hq; have hYc : (#[.int .u32 Y.a.1, .int .u32 Y.a.2, .int .u32 Y.b.1, .int .u32 Y.b.2, .int .u16 Y.c.1, .int .u16 Y.c.2, .int .u16 Y.d.1, .int .u16 Y.d.2, .int .u8 Y.m.1, .int .u8 Y.m.2, .slice (some ⟨g, 0, none⟩) 0 n] : Array Value) = #[.int .u32 X.a.1, .int .u32 X.a.2, .int .u32 X.b.1, .int .u32 X.b.2, .int .u16 t.1, .int .u16 t.2, .int .u16 X.d.1, .int .u16 X.d.2, .int .u8 X.m.1, .int .u8 X.m.2, .slice (some ⟨g, 0, none⟩) 0 n] := by rw [hY]; rfl) | (have hq : Mk 3 := hm2; clear hq; have hYc : (#[.int .u32 Y.a.1, .int .u32 Y.a.2, .int .u32 Y.b.1, .int .u32 Y.b.2, .int .u16 Y.c.1, .int .u16 Y.c.2, .int .u16 Y.d.1, .int .u16 Y.d.2, .int .u8 Y.m.1, .int .u8 Y.m.2, .slice (some ⟨g, 0, none⟩) 0 n] : Array Value) = #[.int .u32 X.a.1, .int .u32 X.a.2, .int .u32 X.b.1, .int .u32 X.b.2, .int .u16 X.c.1, .int .u16 X.c.2, .int .u16 t.1, .int .u16 t.2, .int .u8 X.m.1, .int .u8 X.m.2, .slice (some ⟨g, 0, none⟩) 0 n] := by rw [hY]; rfl)
   first | (have hq : Mk 2 := hm2; clear hq; have HY : Hid (Y = fset 2 X t) := hY) | (have hq : Mk 3 := hm2; clear hq; have HY : Hid (Y = fset 3 X t) := hY)
   clear hY
   go_upto_region 2 with (fail)
   refine wp_region_held_drew (S := fun w' => Only Bh wc w') (by kernel_rfl) (Only.drew Bh wc) (fun hS0 => ?_)
   show wpAnyH _ _ _ _ _ 6 _ _ _
   first | (have hq : Mk 2 := hm2; clear hq; refine wpAnyH_take (i := 0) (v := .func (.func 89) #[] #[]) rfl (by kernel_rfl) (by kernel_rfl) (by kernel_rfl) (fun _ _ _ h => h) (.inl ⟨rfl, fun w' hw' => by have hcc := hw'.cell (p := ⟨bf, 0, none⟩) (by simp; omega) cf1; simp [execOp, go_sem, hcc]⟩) hS0 ?_) | (have hq : Mk 3 := hm2; clear hq; refine wpAnyH_take (i := 0) (v := .func (.func 92) #[] #[]) rfl (by kernel_rfl) (by kernel_rfl) (by kernel_rfl) (fun _ _ _ h => h) (.inl ⟨rfl, fun w' hw' => by have hcc := hw'.cell (p := ⟨bf, 0, none⟩) (by simp; omega) cf1; simp [execOp, go_sem, hcc]⟩) hS0 ?_)
   simp only [nrm]
   refine wpTk (i := 1) (v := .pointer (some ⟨Bh, 0, none⟩)) hS0 ?_
   simp only [nrm]
   refine wpLd (i := 3) rfl (yieldsIf_load_mid rfl 60 (.tmp 5) rfl (w.heap.size + 1) 0 rfl [.int .u16 t.1, .int .u16 t.2] _ (fun w' hw' => hw'.rng (by omega) rT) Tryz.underlying60 rfl (by kernel_rfl)) hS0 ?_
   simp only [nrm]
   refine wpO 2 (fun K' hK' => ?_)
   first | (have hq : Mk 2 := hm2; clear hq; go_wp2_with (go_at_call 89; refine (Hf.out _ _ _).mono ?_; rintro e w' ⟨rfl, hw⟩; obtain rfl := hw.symm; clear hw)) | (have hq : Mk 3 := hm2; clear hq; go_wp2_with (go_at_call 92; refine (Hf.out _ _ _).mono ?_; rintro e w' ⟨rfl, hw⟩; obtain rfl := hw.symm; clear hw))
   refine ⟨hS0, ?_⟩
   first | (have hq : Mk 2 := hm2; clear hq; refine wpTk (i := 4) (v := .pointer (some ⟨Bh, 4, none⟩)) hS0 ?_) | (have hq : Mk 3 := hm2; clear hq; refine wpTk (i := 4) (v := .pointer (some ⟨Bh, 6, none⟩)) hS0 ?_)
   simp only [nrm]
   refine wpO 5 (fun K' hK' => ?_)
   first | (have hq : Mk 2 := hm2; clear hq; refine wp_store_blk 60 (.tmp 23) (.tmp 22) rfl Bh 4 #[.int .u16 t.1, .int .u16 t.2] #[.int .u32 Y.a.1, .int .u32 Y.a.2, .int .u32 Y.b.1, .int .u32 Y.b.2, .int .u16 Y.c.1, .int .u16 Y.c.2, .int .u16 Y.d.1, .int .u16 Y.d.2, .int .u8 Y.m.1, .int .u8 Y.m.2, .slice (some ⟨g, 0, none⟩) 0 n] rfl rfl 135 _ Hn0.out.hh (Nat.le_of_ble_eq_true rfl) (by rw [hYc]; rfl) (by kernel_rfl) rfl (fun w2 h2 ho2 => hK' _ _ ⟨?_, ?_⟩)) | (have hq : Mk 3 := hm2; clear hq; refine wp_store_blk 60 (.tmp 23) (.tmp 22) rfl Bh 6 #[.int .u16 t.1, .int .u16 t.2] #[.int .u32 Y.a.1, .int .u32 Y.a.2, .int .u32 Y.b.1, .int .u32 Y.b.2, .int .u16 Y.c.1, .int .u16 Y.c.2, .int .u16 Y.d.1, .int .u16 Y.d.2, .int .u8 Y.m.1, .int .u8 Y.m.2, .slice (some ⟨g, 0, none⟩) 0 n] rfl rfl 135 _ Hn0.out.hh (Nat.le_of_ble_eq_true rfl) (by rw [hYc]; rfl) (by kernel_rfl) rfl (fun w2 h2 ho2 => hK' _ _ ⟨?_, ?_⟩))
   ·exact hS0.trans ho2
   ·refine wpAnyH_done (by kernel_rfl) ?_ _
    simp only [nrm]
    have Hn2 : Hid (NarS w w2 Bh g 0 n (.cells #[.int .u32 X.a.1, .int .u32 X.a.2, .int .u32 X.b.1, .int .u32 X.b.2, .int .u16 X.c.1, .int .u16 X.c.2, .int .u16 X.d.1, .int .u16 X.d.2, .int .u8 X.m.1, .int .u8 X.m.2, .slice ad n cap] 135) (.cells #[.int .u16 t.1, .int .u16 t.2] 60) (.cells #[.int .u32 0, .int .u32 0, .int .u32 0, .int .u32 0, .int .u16 0, .int .u16 0, .int .u16 0, .int .u16 0, .int .u8 0, .int .u8 0, .slice none 0 0] 135) (.cells #[.int .u32 Y.a.1, .int .u32 Y.a.2, .int .u32 Y.b.1, .int .u32 Y.b.2, .int .u16 Y.c.1, .int .u16 Y.c.2, .int .u16 Y.d.1, .int .u16 Y.d.2, .int .u8 Y.m.1, .int .u8 Y.m.2, .slice (some ⟨g, 0, none⟩) 0 n] 135) []) := Hn0.out.half h2 (hS0.trans ho2)
    clear h2 ho2 hS0 Hn0 cf1 rT hYc
    obtain ⟨_, cP10⟩ := ct_part Hn2.out.hp
    go_wp2_with (fail)
    clear cP10
    first | (have hq : Mk 2 := hm2; clear hq; go_loopw [27] (fun vi wr => ∃ (k g m cap1 : Nat) (R : List CtE), k ≤ n ∧ m ≤ k ∧ vi = .int .i64 k ∧ Hid (NarS w wr Bh g m cap1 (.cells #[.int .u32 X.a.1, .int .u32 X.a.2, .int .u32 X.b.1, .int .u32 X.b.2, .int .u16 X.c.1, .int .u16 X.c.2, .int .u16 X.d.1, .int .u16 X.d.2, .int .u8 X.m.1, .int .u8 X.m.2, .slice ad n cap] 135) (.cells #[.int .u16 t.1, .int .u16 t.2] 60) (.cells #[.int .u32 0, .int .u32 0, .int .u32 0, .int .u32 0, .int .u16 0, .int .u16 0, .int .u16 0, .int .u16 0, .int .u8 0, .int .u8 0, .slice none 0 0] 135) (.cells #[.int .u32 Y.a.1, .int .u32 Y.a.2, .int .u32 Y.b.1, .int .u32 Y.b.2, .int .u16 Y.c.1, .int .u16 Y.c.2, .int .u16 Y.d.1, .int .u16 Y.d.2, .int .u8 Y.m.1, .int .u8 Y.m.2, .slice (some ⟨g, 0, none⟩) m cap1] 135) R) ∧ Hid (nar 2 Y t L = R ++ nar 2 Y t (L.drop k))) (fun vi _ => n - (intOf vi).toNat)) | (have hq : Mk 3 := hm2; clear hq; go_loopw [27] (fun vi wr => ∃ (k g m cap1 : Nat) (R : List CtE), k ≤ n ∧ m ≤ k ∧ vi = .int .i64 k ∧ Hid (NarS w wr Bh g m cap1 (.cells #[.int .u32 X.a.1, .int .u32 X.a.2, .int .u32 X.b.1, .int .u32 X.b.2, .int .u16 X.c.1, .int .u16 X.c.2, .int .u16 X.d.1, .int .u16 X.d.2, .int .u8 X.m.1, .int .u8 X.m.2, .slice ad n cap] 135) (.cells #[.int .u16 t.1, .int .u16 t.2] 60) (.cells #[.int .u32 0, .int .u32 0, .int .u32 0, .int .u32 0, .int .u16 0, .int .u16 0, .int .u16 0, .int .u16 0, .int .u8 0, .int .u8 0, .slice none 0 0] 135) (.cells #[.int .u32 Y.a.1, .int .u32 Y.a.2, .int .u32 Y.b.1, .int .u32 Y.b.2, .int .u16 Y.c.1, .int .u16 Y.c.2, .int .u16 Y.d.1, .int .u16 Y.d.2, .int .u8 Y.m.1, .int .u8 Y.m.2, .slice (some ⟨g, 0, none⟩) m cap1] 135) R) ∧ Hid (nar 3 Y t L = R ++ nar 3 Y t (L.drop k))) (fun vi _ => n - (intOf vi).toNat))
    case atStart => exact ⟨0, g, 0, n, [], Nat.zero_le _, Nat.zero_le _, rfl, Hn2.out, by show _ = _; simp⟩
    case round =>
     clear Hn2
     obtain ⟨k, g, m, cap1, R, hk, hmk, rfl, HN1, HE⟩ := hrel
     by_cases hlt : k < n
     ·have hkL : k < L.length := by rw [← HN.out]; exact hlt
      obtain ⟨gl, off, rfl, hgl, hr1, hr2⟩ := HR.out k hkL
      obtain ⟨e, he⟩ : ∃ e, e = L[k] := ⟨_, rfl⟩
      rw [← he] at hr1 hr2
      have hdr : L.drop k = e :: L.drop (k + 1) := by rw [he]; exact List.drop_eq_getElem_cons hkL
      have heo := HLo.out e (by rw [he]; exact List.getElem_mem _)
      have heb := HLb.out e (by rw [he]; exact List.getElem_mem _)
      clear he
      have HDr : Hid (L.drop k = e :: L.drop (k + 1)) := hdr
      have Heo : Hid _ := heo
      have Heb : Hid _ := heb
      clear hdr heo heb
      have HA : Hid (wr.rangeAt gl (off + k * 11) #[.int .i64 e.1, .int .u32 e.2.a.1, .int .u32 e.2.a.2, .int .u32 e.2.b.1, .int .u32 e.2.b.2, .int .u16 e.2.c.1, .int .u16 e.2.c.2, .int .u16 e.2.d.1, .int .u16 e.2.d.2, .int .u8 e.2.m.1, .int .u8 e.2.m.2].toList) := rng_bel HN1.out.bel hgl hr1
      have HC : Hid (wr.rangeAt gl (off + k * 11 + 1) (Xb.encX e.2)) := rng_bel HN1.out.bel hgl hr2
      clear hr1 hr2
      have hkn : (k : Int) < (n : Int) := by omega
      have hk0 : (0 : Int) ≤ (k : Int) := by omega
      have HZ : Hid ((wr.alloc (.cells #[.int .i64 0, .int .u32 0, .int .u32 0, .int .u32 0, .int .u32 0, .int .u16 0, .int .u16 0, .int .u16 0, .int .u16 0, .int .u8 0, .int .u8 0] 159)).heap[wr.heap.size]? = some (.cells #[.int .i64 0, .int .u32 0, .int .u32 0, .int .u32 0, .int .u32 0, .int .u16 0, .int .u16 0, .int .u16 0, .int .u16 0, .int .u8 0, .int .u8 0] 159)) := blk_new _ _
      go_upto_region 6 with (first | (refine ct_loadL rfl 159 (.tmp 30) rfl gl (off + k * 11) #[.int .i64 e.1, .int .u32 e.2.a.1, .int .u32 e.2.a.2, .int .u32 e.2.b.1, .int .u32 e.2.b.2, .int .u16 e.2.c.1, .int .u16 e.2.c.2, .int .u16 e.2.d.1, .int .u16 e.2.d.2, .int .u8 e.2.m.1, .int .u8 e.2.m.2] rfl HA.out Tryz.underlying159 rfl (by kernel_rfl) ?_) | (refine wpList_store_blk rfl 159 (.tmp 9) (.tmp 31) rfl wr.heap.size 0 #[.int .i64 e.1, .int .u32 e.2.a.1, .int .u32 e.2.a.2, .int .u32 e.2.b.1, .int .u32 e.2.b.2, .int .u16 e.2.c.1, .int .u16 e.2.c.2, .int .u16 e.2.d.1, .int .u16 e.2.d.2, .int .u8 e.2.m.1, .int .u8 e.2.m.2] #[.int .i64 e.1, .int .u32 e.2.a.1, .int .u32 e.2.a.2, .int .u32 e.2.b.1, .int .u32 e.2.b.2, .int .u16 e.2.c.1, .int .u16 e.2.c.2, .int .u16 e.2.d.1, .int .u16 e.2.d.2, .int .u8 e.2.m.1, .int .u8 e.2.m.2] rfl rfl 159 _ HZ.out (Nat.le_of_ble_eq_true rfl) rfl (by kernel_rfl) rfl ?_; intro w3 hw3 ho3))
      try simp only [Act.put]
      have hb3 : Below wr.heap.size wr w3 := ((Below.refl _ _).alloc (Nat.le_refl _) _).trans (ho3.below (Nat.le_refl _))
      have HN3 : Hid (NarS w w3 Bh g m cap1 (.cells #[.int .u32 X.a.1, .int .u32 X.a.2, .int .u32 X.b.1, .int .u32 X.b.2, .int .u16 X.c.1, .int .u16 X.c.2, .int .u16 X.d.1, .int .u16 X.d.2, .int .u8 X.m.1, .int .u8 X.m.2, .slice (some ⟨gl, off, none⟩) n cap] 135) (.cells #[.int .u16 t.1, .int .u16 t.2] 60) (.cells #[.int .u32 0, .int .u32 0, .int .u32 0, .int .u32 0, .int .u16 0, .int .u16 0, .int .u16 0, .int .u16 0, .int .u8 0, .int .u8 0, .slice none 0 0] 135) (.cells #[.int .u32 Y.a.1, .int .u32 Y.a.2, .int .u32 Y.b.1, .int .u32 Y.b.2, .int .u16 Y.c.1, .int .u16 Y.c.2, .int .u16 Y.d.1, .int .u16 Y.d.2, .int .u8 Y.m.1, .int .u8 Y.m.2, .slice (some ⟨g, 0, none⟩) m cap1] 135) R) := HN1.out.on hb3
      have KE : Hid (w3.heap[wr.heap.size]? = some (.cells #[.int .i64 e.1, .int .u32 e.2.a.1, .int .u32 e.2.a.2, .int .u32 e.2.b.1, .int .u32 e.2.b.2, .int .u16 e.2.c.1, .int .u16 e.2.c.2, .int .u16 e.2.d.1, .int .u16 e.2.d.2, .int .u8 e.2.m.1, .int .u8 e.2.m.2] 159)) := hw3
      have hgr : gl < wr.heap.size := Nat.lt_of_lt_of_le hgl HN1.out.bel.size
      first | (have hq : Mk 2 := hm2; clear hq; have rC : w3.rangeAt gl (off + k * 11 + 1 + 4) #[.int .u16 e.2.c.1, .int .u16 e.2.c.2].toList := rng_bel hb3 hgr (rng_sub HC.out 4 2)) | (have hq : Mk 3 := hm2; clear hq; have rC : w3.rangeAt gl (off + k * 11 + 1 + 6) #[.int .u16 e.2.d.1, .int .u16 e.2.d.2].toList := rng_bel hb3 hgr (rng_sub HC.out 6 2))
      first | (have hq : Mk 2 := hm2; clear hq; have HC3 : Hid (w3.rangeAt gl (off + k * 11 + 1 + 4) #[.int .u16 e.2.c.1, .int .u16 e.2.c.2].toList) := rC) | (have hq : Mk 3 := hm2; clear hq; have HC3 : Hid (w3.rangeAt gl (off + k * 11 + 1 + 6) #[.int .u16 e.2.d.1, .int .u16 e.2.d.2].toList) := rC)
      obtain ⟨Be, hBe⟩ : ∃ Be, Be = wr.heap.size := ⟨_, rfl⟩
      rw [← hBe] at KE
      clear HN1 HA HC HZ hw3 ho3 hb3 hgr rC
      try rw [← hBe]
      clear hBe
      first | (have hq : Mk 2 := hm2; clear hq; obtain ⟨v, b, hv0, hM0⟩ := metSpanC e.2.c t) | (have hq : Mk 3 := hm2; clear hq; obtain ⟨v, b, hv0, hM0⟩ := metSpanC e.2.d t)
      first | (have hq : Mk 2 := hm2; clear hq; have hv : (metF 2 (fget 2 e.2) t = some v ∧ b = true) ∨ (metF 2 (fget 2 e.2) t = none ∧ b = false) := hv0) | (have hq : Mk 3 := hm2; clear hq; have hv : (metF 3 (fget 3 e.2) t = some v ∧ b = true) ∨ (metF 3 (fget 3 e.2) t = none ∧ b = false) := hv0)
      have HV : Hid _ := hv
      have HM : Hid _ := hM0
      clear hv0 hv hM0
      go_cut [10, 11] (fun s0 s1 wx => ∃ Bb : Nat, s0 = .pointer (some ⟨Bb, 0, none⟩) ∧ s1 = .bool b ∧ Hid (wx.heap[Bb]? = some (.cells #[.int .u16 v.1, .int .u16 v.2] 60)) ∧ Hid (Below w3.heap.size w3 wx) ∧ Hid (w3.heap.size ≤ Bb))
      case first =>
       have cf3 := cell_on1 HN3.out.bel hbf0.out
       have cm3 := cell_on1 HN3.out.bel hbm0.out
       obtain ⟨_, cP10⟩ := ct_part HN3.out.hp
       have rT := rng_two HN3.out.ht
       refine wp_region_held_drew (S := fun w' => Below w3.heap.size w3 w') (by kernel_rfl) (Below.drew (Below.refl _ _)) (fun hS0 => ?_)
       show wpAnyH _ _ _ _ _ 18 _ _ _
       refine wpAnyH_take (i := 0) (v := .func (.func 91) #[] #[]) rfl (by kernel_rfl) (by kernel_rfl) (by kernel_rfl) (fun _ _ _ h => h) (.inl ⟨rfl, fun w' hw' => by have hcc := cell_on1 hw' cm3; simp [execOp, go_sem, hcc]⟩) hS0 ?_
       simp only [nrm]
       first | (have hq : Mk 2 := hm2; clear hq; refine wpAnyH_take (i := 1) (v := .func (.func 89) #[] #[]) rfl (by kernel_rfl) (by kernel_rfl) (by kernel_rfl) (fun _ _ _ h => h) (.inl ⟨rfl, fun w' hw' => by have hcc := cell_on1 hw' cf3; simp [execOp, go_sem, hcc]⟩) hS0 ?_) | (have hq : Mk 3 := hm2; clear hq; refine wpAnyH_take (i := 1) (v := .func (.func 92) #[] #[]) rfl (by kernel_rfl) (by kernel_rfl) (by kernel_rfl) (fun _ _ _ h => h) (.inl ⟨rfl, fun w' hw' => by have hcc := cell_on1 hw' cf3; simp [execOp, go_sem, hcc]⟩) hS0 ?_)
       simp only [nrm]
       refine wpTk (i := 2) (v := .pointer (some ⟨w.heap.size, 10, none⟩)) hS0 ?_
       simp only [nrm]
       refine wpAnyH_take (i := 3) (v := .slice (some ⟨gl, off, none⟩) n cap) rfl (by kernel_rfl) (by kernel_rfl) (by kernel_rfl) (fun _ _ _ h => h) (.inl ⟨rfl, fun w' hw' => by have hcc := cell_on1 hw' cP10; simp [execOp, go_sem, hcc]⟩) hS0 ?_
       simp only [nrm]
       refine wpTk (i := 4) (v := .int .i64 k) hS0 ?_
       simp only [nrm]
       refine wpAnyH_take (i := 5) (v := .pointer (some ⟨gl, off + k * 11, none⟩)) rfl (by kernel_rfl) (by kernel_rfl) (by kernel_rfl) (fun _ _ _ h => h) (yieldsIf_index rfl 133 (.tmp 36) (.tmp 37) rfl _ (fun W => idxZ W gl off n cap k hlt)) hS0 ?_
       simp only [nrm]
       refine wpTk (i := 6) (v := .pointer (some ⟨gl, off + k * 11 + 1, none⟩)) hS0 ?_
       simp only [nrm]
       refine wpLd (i := 10) rfl (yieldsIf_load_mid rfl 60 (.tmp 5) rfl (w.heap.size + 1) 0 rfl [.int .u16 t.1, .int .u16 t.2] _ (fun w' hw' => rng_on hw' rT) Tryz.underlying60 rfl (by kernel_rfl)) hS0 ?_
       simp only [nrm]
       refine wpAnyH_all (rs := [7, 15]) (by kernel_rfl) (by simp) ?_
       intro i hi
       simp only [mmL] at hi
       rcases hi with rfl | rfl
       ·refine wpOp_of_wp rfl rfl (fun K' hK' => ?_)
        first | (have hq : Mk 2 := hm2; clear hq; go_wp2_with (go_at_call 89; refine (Hf.out _ _ _).mono ?_; rintro e w' ⟨rfl, hw⟩; obtain rfl := hw.symm; clear hw)) | (have hq : Mk 3 := hm2; clear hq; go_wp2_with (go_at_call 92; refine (Hf.out _ _ _).mono ?_; rintro e w' ⟨rfl, hw⟩; obtain rfl := hw.symm; clear hw))
        refine ⟨hS0, ?_⟩
        first | (have hq : Mk 2 := hm2; clear hq; refine wpTk (i := 8) (v := .pointer (some ⟨gl, off + k * 11 + 1 + 4, none⟩)) hS0 ?_) | (have hq : Mk 3 := hm2; clear hq; refine wpTk (i := 8) (v := .pointer (some ⟨gl, off + k * 11 + 1 + 6, none⟩)) hS0 ?_)
        simp only [nrm]
        first | (have hq : Mk 2 := hm2; clear hq; refine wpLd (i := 9) rfl (yieldsIf_load_mid rfl 60 (.tmp 41) rfl gl (off + k * 11 + 1 + 4) rfl (#[.int .u16 e.2.c.1, .int .u16 e.2.c.2] : Array Value).toList _ (fun w' hw' => rng_on hw' HC3.out) Tryz.underlying60 rfl (by kernel_rfl)) hS0 ?_) | (have hq : Mk 3 := hm2; clear hq; refine wpLd (i := 9) rfl (yieldsIf_load_mid rfl 60 (.tmp 41) rfl gl (off + k * 11 + 1 + 6) rfl (#[.int .u16 e.2.d.1, .int .u16 e.2.d.2] : Array Value).toList _ (fun w' hw' => rng_on hw' HC3.out) Tryz.underlying60 rfl (by kernel_rfl)) hS0 ?_)
        simp only [nrm]
        refine wpAnyH_all (rs := [11, 15]) (by kernel_rfl) (by simp) ?_
        intro i hi
        simp only [mmL] at hi
        rcases hi with rfl | rfl
        ·refine wpOp_of_wp rfl rfl (fun K' hK' => ?_)
         go_wp2_with (go_at_call 91; refine (HM.out _).mono ?_; rintro e wm ⟨rfl, hw⟩)
         have hSm : Below w3.heap.size w3 wm := hS0.trans (hw.mono hS0.size)
         refine ⟨hSm, ?_⟩
         refine wpTk (i := 12) (v := .tuple #[.agg #[.int .u16 v.1, .int .u16 v.2], .bool b]) hSm ?_
         simp only [nrm]
         refine wpTk (i := 13) (v := .agg #[.int .u16 v.1, .int .u16 v.2]) hSm ?_
         simp only [nrm]
         refine wpTk (i := 14) (v := .bool b) hSm ?_
         simp only [nrm]
         refine wpO 15 (fun K' hK' => ?_)
         go_wp2_with (fail)
         have hSa : Below w3.heap.size w3 (wm.alloc (.cells #[.int .u16 0, .int .u16 0] 60)) := hSm.alloc hSm.size _
         refine ⟨hSa, ?_⟩
         have hBb := blk_new wm (.cells #[.int .u16 0, .int .u16 0] 60)
         refine wpO 16 (fun K' hK' => ?_)
         refine wpSt 60 (.tmp 10) (.tmp 45) rfl (wm.heap.size) 0 #[.int .u16 v.1, .int .u16 v.2] #[.int .u16 v.1, .int .u16 v.2] rfl rfl 60 _ hBb (fun w9 h9 ho9 => hK' _ _ ⟨?_, ?_⟩)
         ·exact hSa.trans (ho9.below (hSm.size))
         ·have hS9 : Below w3.heap.size w3 w9 := hSa.trans (ho9.below (hSm.size))
          refine wpTk (i := 17) (v := .bool b) hS9 ?_
          simp only [nrm]
          refine wpAnyH_done (by kernel_rfl) ?_ _
          have HS9 : Hid _ := hS9
          have HBb : Hid (w3.heap.size ≤ wm.heap.size) := (hSm.size)
          go_wp2_with (fail)
          go_meet
          case rel => exact ⟨_, rfl, rfl, h9, HS9.out, HBb.out⟩
        ·refine wpOp_of_wp rfl rfl (fun K' hK' => ?_)
         go_wp2_with (fail)
         have hSa : Below w3.heap.size w3 (w3.drew.alloc (.cells #[.int .u16 0, .int .u16 0] 60)) := hS0.alloc hS0.size _
         refine ⟨hSa, ?_⟩
         have hBb := blk_new w3.drew (.cells #[.int .u16 0, .int .u16 0] 60)
         refine wpO 11 (fun K' hK' => ?_)
         go_wp2_with (go_at_call 91; refine (HM.out _).mono ?_; rintro e wm ⟨rfl, hw⟩)
         have hSm : Below w3.heap.size w3 wm := hSa.trans (hw.mono hSa.size)
         refine ⟨hSm, ?_⟩
         have hBm := blk_on hBb hw
         refine wpTk (i := 12) (v := .tuple #[.agg #[.int .u16 v.1, .int .u16 v.2], .bool b]) hSm ?_
         simp only [nrm]
         refine wpTk (i := 13) (v := .agg #[.int .u16 v.1, .int .u16 v.2]) hSm ?_
         simp only [nrm]
         refine wpTk (i := 14) (v := .bool b) hSm ?_
         simp only [nrm]
         refine wpO 16 (fun K' hK' => ?_)
         refine wpSt 60 (.tmp 10) (.tmp 45) rfl (w3.heap.size) 0 #[.int .u16 v.1, .int .u16 v.2] #[.int .u16 v.1, .int .u16 v.2] rfl rfl 60 _ hBm (fun w9 h9 ho9 => hK' _ _ ⟨?_, ?_⟩)
         ·exact hSm.trans (ho9.below (Nat.le_refl _))
         ·have hS9 : Below w3.heap.size w3 w9 := hSm.trans (ho9.below (Nat.le_refl _))
          refine wpTk (i := 17) (v := .bool b) hS9 ?_
          simp only [nrm]
          refine wpAnyH_done (by kernel_rfl) ?_ _
          have HS9 : Hid _ := hS9
          have HBb : Hid (w3.heap.size ≤ w3.heap.size) := (Nat.le_refl _)
          go_wp2_with (fail)
          go_meet
          case rel => exact ⟨_, rfl, rfl, h9, HS9.out, HBb.out⟩
       ·refine wpOp_of_wp rfl rfl (fun K' hK' => ?_)
        go_wp2_with (fail)
        have hSa : Below w3.heap.size w3 (w3.drew.alloc (.cells #[.int .u16 0, .int .u16 0] 60)) := hS0.alloc hS0.size _
        refine ⟨hSa, ?_⟩
        have hBb := blk_new w3.drew (.cells #[.int .u16 0, .int .u16 0] 60)
        refine wpO 7 (fun K' hK' => ?_)
        first | (have hq : Mk 2 := hm2; clear hq; go_wp2_with (go_at_call 89; refine (Hf.out _ _ _).mono ?_; rintro e w' ⟨rfl, hw⟩; obtain rfl := hw.symm; clear hw)) | (have hq : Mk 3 := hm2; clear hq; go_wp2_with (go_at_call 92; refine (Hf.out _ _ _).mono ?_; rintro e w' ⟨rfl, hw⟩; obtain rfl := hw.symm; clear hw))
        refine ⟨hSa, ?_⟩
        first | (have hq : Mk 2 := hm2; clear hq; refine wpTk (i := 8) (v := .pointer (some ⟨gl, off + k * 11 + 1 + 4, none⟩)) hSa ?_) | (have hq : Mk 3 := hm2; clear hq; refine wpTk (i := 8) (v := .pointer (some ⟨gl, off + k * 11 + 1 + 6, none⟩)) hSa ?_)
        simp only [nrm]
        first | (have hq : Mk 2 := hm2; clear hq; refine wpLd (i := 9) rfl (yieldsIf_load_mid rfl 60 (.tmp 41) rfl gl (off + k * 11 + 1 + 4) rfl (#[.int .u16 e.2.c.1, .int .u16 e.2.c.2] : Array Value).toList _ (fun w' hw' => rng_on hw' HC3.out) Tryz.underlying60 rfl (by kernel_rfl)) hSa ?_) | (have hq : Mk 3 := hm2; clear hq; refine wpLd (i := 9) rfl (yieldsIf_load_mid rfl 60 (.tmp 41) rfl gl (off + k * 11 + 1 + 6) rfl (#[.int .u16 e.2.d.1, .int .u16 e.2.d.2] : Array Value).toList _ (fun w' hw' => rng_on hw' HC3.out) Tryz.underlying60 rfl (by kernel_rfl)) hSa ?_)
        simp only [nrm]
        refine wpO 11 (fun K' hK' => ?_)
        go_wp2_with (go_at_call 91; refine (HM.out _).mono ?_; rintro e wm ⟨rfl, hw⟩)
        have hSm : Below w3.heap.size w3 wm := hSa.trans (hw.mono hSa.size)
        refine ⟨hSm, ?_⟩
        have hBm := blk_on hBb hw
        refine wpTk (i := 12) (v := .tuple #[.agg #[.int .u16 v.1, .int .u16 v.2], .bool b]) hSm ?_
        simp only [nrm]
        refine wpTk (i := 13) (v := .agg #[.int .u16 v.1, .int .u16 v.2]) hSm ?_
        simp only [nrm]
        refine wpTk (i := 14) (v := .bool b) hSm ?_
        simp only [nrm]
        refine wpO 16 (fun K' hK' => ?_)
        refine wpSt 60 (.tmp 10) (.tmp 45) rfl (w3.heap.size) 0 #[.int .u16 v.1, .int .u16 v.2] #[.int .u16 v.1, .int .u16 v.2] rfl rfl 60 _ hBm (fun w9 h9 ho9 => hK' _ _ ⟨?_, ?_⟩)
        ·exact hSm.trans (ho9.below (Nat.le_refl _))
        ·have hS9 : Below w3.heap.size w3 w9 := hSm.trans (ho9.below (Nat.le_refl _))
         refine wpTk (i := 17) (v := .bool b) hS9 ?_
         simp only [nrm]
         refine wpAnyH_done (by kernel_rfl) ?_ _
         have HS9 : Hid _ := hS9
         have HBb : Hid (w3.heap.size ≤ w3.heap.size) := (Nat.le_refl _)
         go_wp2_with (fail)
         go_meet
         case rel => exact ⟨_, rfl, rfl, h9, HS9.out, HBb.out⟩
      case rest =>
       obtain ⟨Bb, rfl, rfl, HBb, HB4, HBl⟩ := hcut
       have HN4 : Hid (NarS w wc Bh g m cap1 (.cells #[.int .u32 X.a.1, .int .u32 X.a.2, .int .u32 X.b.1, .int .u32 X.b.2, .int .u16 X.c.1, .int .u16 X.c.2, .int .u16 X.d.1, .int .u16 X.d.2, .int .u8 X.m.1, .int .u8 X.m.2, .slice (some ⟨gl, off, none⟩) n cap] 135) (.cells #[.int .u16 t.1, .int .u16 t.2] 60) (.cells #[.int .u32 0, .int .u32 0, .int .u32 0, .int .u32 0, .int .u16 0, .int .u16 0, .int .u16 0, .int .u16 0, .int .u8 0, .int .u8 0, .slice none 0 0] 135) (.cells #[.int .u32 Y.a.1, .int .u32 Y.a.2, .int .u32 Y.b.1, .int .u32 Y.b.2, .int .u16 Y.c.1, .int .u16 Y.c.2, .int .u16 Y.d.1, .int .u16 Y.d.2, .int .u8 Y.m.1, .int .u8 Y.m.2, .slice (some ⟨g, 0, none⟩) m cap1] 135) R) := HN3.out.on HB4.out
       have KE4 : Hid (wc.heap[Be]? = some (.cells #[.int .i64 e.1, .int .u32 e.2.a.1, .int .u32 e.2.a.2, .int .u32 e.2.b.1, .int .u32 e.2.b.2, .int .u16 e.2.c.1, .int .u16 e.2.c.2, .int .u16 e.2.d.1, .int .u16 e.2.d.2, .int .u8 e.2.m.1, .int .u8 e.2.m.2] 159)) := blk_on KE.out HB4.out
       have HBh : Hid (Bb ≠ Bh ∧ Bb ≠ g) := by have h1 := blk_lt HN3.out.hh; have h2 := HN3.out.glt; have h3 := HBl.out; exact ⟨by omega, by omega⟩
       clear KE HN3 HC3 HB4 HBl HM
       rcases HV.out with ⟨hm, rfl⟩ | ⟨hm, rfl⟩
       ·obtain ⟨_, c10⟩ := ct_part HN4.out.hh
        have HrE : Hid (wc.rangeAt Be 0 (#[.int .i64 e.1, .int .u32 e.2.a.1, .int .u32 e.2.a.2, .int .u32 e.2.b.1, .int .u32 e.2.b.2, .int .u16 e.2.c.1, .int .u16 e.2.c.2, .int .u16 e.2.d.1, .int .u16 e.2.d.2, .int .u8 e.2.m.1, .int .u8 e.2.m.2] : Array Value).toList) := rngAll KE4.out
        have hbA : Below wc.heap.size wc (wc.alloc (.cells #[.int .i64 e.1, .int .u32 e.2.a.1, .int .u32 e.2.a.2, .int .u32 e.2.b.1, .int .u32 e.2.b.2, .int .u16 e.2.c.1, .int .u16 e.2.c.2, .int .u16 e.2.d.1, .int .u16 e.2.d.2, .int .u8 e.2.m.1, .int .u8 e.2.m.2] 159)) := (Below.refl _ _).alloc (Nat.le_refl _) _
        have HN4a : Hid (NarS w (wc.alloc (.cells #[.int .i64 e.1, .int .u32 e.2.a.1, .int .u32 e.2.a.2, .int .u32 e.2.b.1, .int .u32 e.2.b.2, .int .u16 e.2.c.1, .int .u16 e.2.c.2, .int .u16 e.2.d.1, .int .u16 e.2.d.2, .int .u8 e.2.m.1, .int .u8 e.2.m.2] 159)) Bh g m cap1 (.cells #[.int .u32 X.a.1, .int .u32 X.a.2, .int .u32 X.b.1, .int .u32 X.b.2, .int .u16 X.c.1, .int .u16 X.c.2, .int .u16 X.d.1, .int .u16 X.d.2, .int .u8 X.m.1, .int .u8 X.m.2, .slice (some ⟨gl, off, none⟩) n cap] 135) (.cells #[.int .u16 t.1, .int .u16 t.2] 60) (.cells #[.int .u32 0, .int .u32 0, .int .u32 0, .int .u32 0, .int .u16 0, .int .u16 0, .int .u16 0, .int .u16 0, .int .u8 0, .int .u8 0, .slice none 0 0] 135) (.cells #[.int .u32 Y.a.1, .int .u32 Y.a.2, .int .u32 Y.b.1, .int .u32 Y.b.2, .int .u16 Y.c.1, .int .u16 Y.c.2, .int .u16 Y.d.1, .int .u16 Y.d.2, .int .u8 Y.m.1, .int .u8 Y.m.2, .slice (some ⟨g, 0, none⟩) m cap1] 135) R) := HN4.out.on hbA
        have rr : Hid _ := HN4a.out.row
        have ro : Hid (SrcZ (wc.alloc (.cells #[.int .i64 e.1, .int .u32 e.2.a.1, .int .u32 e.2.a.2, .int .u32 e.2.b.1, .int .u32 e.2.b.2, .int .u16 e.2.c.1, .int .u16 e.2.c.2, .int .u16 e.2.d.1, .int .u16 e.2.d.2, .int .u8 e.2.m.1, .int .u8 e.2.m.2] 159)) (.slice (some ⟨wc.heap.size, 0, none⟩) 1 1) [e]) := (RowZ.one wc 0 e (Nat.zero_le _)).src
        have sz : Hid (w.heap.size ≤ (wc.alloc (.cells #[.int .i64 e.1, .int .u32 e.2.a.1, .int .u32 e.2.a.2, .int .u32 e.2.b.1, .int .u32 e.2.b.2, .int .u16 e.2.c.1, .int .u16 e.2.c.2, .int .u16 e.2.d.1, .int .u16 e.2.d.2, .int .u8 e.2.m.1, .int .u8 e.2.m.2] 159)).heap.size) := HN4a.out.bel.size
        have ln : Hid (R.length + [e].length ≤ 4294967296) := by have := HN4.out.len; show R.length + 1 ≤ _; omega
        have el : Hid ((R ++ [e]).length = m + 1) := by show _ = _; rw [List.length_append, HN4.out.len]; rfl
        have HBbA : Hid ((wc.alloc (.cells #[.int .i64 e.1, .int .u32 e.2.a.1, .int .u32 e.2.a.2, .int .u32 e.2.b.1, .int .u32 e.2.b.2, .int .u16 e.2.c.1, .int .u16 e.2.c.2, .int .u16 e.2.d.1, .int .u16 e.2.d.2, .int .u8 e.2.m.1, .int .u8 e.2.m.2] 159)).heap[Bb]? = some (.cells #[.int .u16 v.1, .int .u16 v.2] 60)) := blk_alloc HBb.out _
        go_upto_region 9 with (first | (refine ct_loadL rfl 159 (.tmp 9) rfl Be 0 #[.int .i64 e.1, .int .u32 e.2.a.1, .int .u32 e.2.a.2, .int .u32 e.2.b.1, .int .u32 e.2.b.2, .int .u16 e.2.c.1, .int .u16 e.2.c.2, .int .u16 e.2.d.1, .int .u16 e.2.d.2, .int .u8 e.2.m.1, .int .u8 e.2.m.2] rfl HrE.out Tryz.underlying159 rfl (by kernel_rfl) ?_) | (at_builtin; refine wpList_appendSZ rfl (.tmp 50) (.tmp 52) rfl w.heap.size (.slice (some ⟨g, 0, none⟩) m cap1) R rfl rr.out _ [e] rfl ro.out sz.out ln.out ?_; intro v5 w5 hr5 hg5 hat5; have hr6 := hr5.some (by simp); rw [el.out] at hr6; obtain ⟨g5, cap5, rfl, h5c, h5b, h5l⟩ := hr6; obtain ⟨hB5, hN5, hF5⟩ := NarS.app HN4a.out hr5 hg5 (by simpa [Value.ownBlock] using hat5); have c5 := blk_cell (j := 10) hB5 rfl; have f5 := blk_free hB5 10))
        have HBb5 : Hid _ := hF5 Bb _ HBh.out.2 HBh.out.1 HBbA.out
        have HN5 : Hid (NarS w (w5.setCell ⟨Bh, 10, none⟩ (.slice (some ⟨g5, 0, none⟩) (m + 1) cap5)) Bh g5 (m + 1) cap5 (.cells #[.int .u32 X.a.1, .int .u32 X.a.2, .int .u32 X.b.1, .int .u32 X.b.2, .int .u16 X.c.1, .int .u16 X.c.2, .int .u16 X.d.1, .int .u16 X.d.2, .int .u8 X.m.1, .int .u8 X.m.2, .slice (some ⟨gl, off, none⟩) n cap] 135) (.cells #[.int .u16 t.1, .int .u16 t.2] 60) (.cells #[.int .u32 0, .int .u32 0, .int .u32 0, .int .u32 0, .int .u16 0, .int .u16 0, .int .u16 0, .int .u16 0, .int .u8 0, .int .u8 0, .slice none 0 0] 135) (.cells #[.int .u32 Y.a.1, .int .u32 Y.a.2, .int .u32 Y.b.1, .int .u32 Y.b.2, .int .u16 Y.c.1, .int .u16 Y.c.2, .int .u16 Y.d.1, .int .u16 Y.d.2, .int .u8 Y.m.1, .int .u8 Y.m.2, .slice (some ⟨g5, 0, none⟩) (m + 1) cap5] 135) (R ++ [e])) := hN5
        have Hb5 : Hid (Bb ≠ g5) := by rcases hat5 with h | h <;> simp [Value.ownBlock] at h <;> have h1 := HBh.out.2 <;> have h2 := blk_lt HBb.out <;> show _ ≠ _ <;> omega
        clear c10 HrE hbA HN4a rr ro sz ln el HBbA hr5 hg5 hat5 hB5 hN5 hF5 c5 f5 h5c h5b h5l KE4 HN4 HBb HBh
        generalize w5.setCell ⟨Bh, 10, none⟩ (.slice (some ⟨g5, 0, none⟩) (m + 1) cap5) = w6 at *
        have cf6 := cell_on1 HN5.out.bel hbf0.out
        obtain ⟨_, c10⟩ := ct_part HN5.out.hh
        obtain ⟨n4, n5, n6⟩ := HN5.out.ne
        have hRl := HN5.out.len
        have rB := rng_two HBb5.out
        have nB := Hb5.out
        first | (have hq : Mk 2 := hm2; clear hq; obtain ⟨cur, new, q1, q2, q3, q4⟩ := rowZ_field (o := 5) (e' := (e.1, fset 2 e.2 v)) (cs := [.int .u16 v.1, .int .u16 v.2]) HN5.out.row (by simpa using hRl) rfl (by decide) rfl) | (have hq : Mk 3 := hm2; clear hq; obtain ⟨cur, new, q1, q2, q3, q4⟩ := rowZ_field (o := 7) (e' := (e.1, fset 3 e.2 v)) (cs := [.int .u16 v.1, .int .u16 v.2]) HN5.out.row (by simpa using hRl) rfl (by decide) rfl)
        refine wp_region_held_drew (S := fun w' => Only g5 w6 w') (by kernel_rfl) (Only.drew g5 w6) (fun hS0 => ?_)
        show wpAnyH _ _ _ _ _ 13 _ _ _
        first | (have hq : Mk 2 := hm2; clear hq; refine wpAnyH_take (i := 0) (v := .func (.func 89) #[] #[]) rfl (by kernel_rfl) (by kernel_rfl) (by kernel_rfl) (fun _ _ _ h => h) (.inl ⟨rfl, fun w' hw' => by have hcc := hw'.cell (p := ⟨bf, 0, none⟩) (by simp; omega) cf6; simp [execOp, go_sem, hcc]⟩) hS0 ?_) | (have hq : Mk 3 := hm2; clear hq; refine wpAnyH_take (i := 0) (v := .func (.func 92) #[] #[]) rfl (by kernel_rfl) (by kernel_rfl) (by kernel_rfl) (fun _ _ _ h => h) (.inl ⟨rfl, fun w' hw' => by have hcc := hw'.cell (p := ⟨bf, 0, none⟩) (by simp; omega) cf6; simp [execOp, go_sem, hcc]⟩) hS0 ?_)
        simp only [nrm]
        refine wpTk (i := 1) (v := .pointer (some ⟨Bh, 10, none⟩)) hS0 ?_
        simp only [nrm]
        refine wpAnyH_take (i := 2) (v := .slice (some ⟨g5, 0, none⟩) (m + 1) cap5) rfl (by kernel_rfl) (by kernel_rfl) (by kernel_rfl) (fun _ _ _ h => h) (.inl ⟨rfl, fun w' hw' => by have hcc := hw'.cell (p := ⟨Bh, 10, none⟩) n4 c10; simp [execOp, go_sem, hcc]⟩) hS0 ?_
        simp only [nrm]
        refine wpTk (i := 3) (v := .pointer (some ⟨Bh, 10, none⟩)) hS0 ?_
        simp only [nrm]
        refine wpAnyH_take (i := 4) (v := .slice (some ⟨g5, 0, none⟩) (m + 1) cap5) rfl (by kernel_rfl) (by kernel_rfl) (by kernel_rfl) (fun _ _ _ h => h) (.inl ⟨rfl, fun w' hw' => by have hcc := hw'.cell (p := ⟨Bh, 10, none⟩) n4 c10; simp [execOp, go_sem, hcc]⟩) hS0 ?_
        simp only [nrm]
        refine wpTk (i := 5) (v := .int .i64 ((m + 1 : Nat) : Int)) hS0 ?_
        simp only [nrm]
        have hw1 : IntKind.i64.wrap (m : Int) = (m : Int) := by rw [IntKind.wrap_i64]; omega
        refine wpAnyH_take (i := 6) (v := .int .i64 m) rfl (by kernel_rfl) (by kernel_rfl) (by kernel_rfl) (fun _ _ _ h => h) (.inl ⟨rfl, fun w' hw' => by simp [execOp, go_sem, hw1]⟩) hS0 ?_
        simp only [nrm]
        refine wpAnyH_take (i := 7) (v := .pointer (some ⟨g5, m * 11, none⟩)) rfl (by kernel_rfl) (by kernel_rfl) (by kernel_rfl) (fun _ _ _ h => h) (yieldsIf_index rfl 133 (.tmp 57) (.tmp 61) rfl _ (fun W => idxZ0 W g5 (m + 1) cap5 m (Nat.lt_succ_self m))) hS0 ?_
        simp only [nrm]
        refine wpTk (i := 8) (v := .pointer (some ⟨g5, m * 11 + 1, none⟩)) hS0 ?_
        simp only [nrm]
        refine wpLd (i := 10) rfl (yieldsIf_load_mid rfl 60 (.tmp 10) rfl Bb 0 rfl [.int .u16 v.1, .int .u16 v.2] _ (fun w' hw' => hw'.rng nB rB) Tryz.underlying60 rfl (by kernel_rfl)) hS0 ?_
        simp only [nrm]
        refine wpO 9 (fun K' hK' => ?_)
        first | (have hq : Mk 2 := hm2; clear hq; go_wp2_with (go_at_call 89; refine (Hf.out _ _ _).mono ?_; rintro e w' ⟨rfl, hw⟩; obtain rfl := hw.symm; clear hw)) | (have hq : Mk 3 := hm2; clear hq; go_wp2_with (go_at_call 92; refine (Hf.out _ _ _).mono ?_; rintro e w' ⟨rfl, hw⟩; obtain rfl := hw.symm; clear hw))
        refine ⟨hS0, ?_⟩
        first | (have hq : Mk 2 := hm2; clear hq; refine wpTk (i := 11) (v := .pointer (some ⟨g5, m * 11 + 1 + 4, none⟩)) hS0 ?_) | (have hq : Mk 3 := hm2; clear hq; refine wpTk (i := 11) (v := .pointer (some ⟨g5, m * 11 + 1 + 6, none⟩)) hS0 ?_)
        simp only [nrm]
        refine wpO 12 (fun K' hK' => ?_)
        first | (have hq : Mk 2 := hm2; clear hq; refine wp_store_blk 60 (.tmp 66) (.tmp 65) rfl g5 (m * 11 + 5) #[.int .u16 v.1, .int .u16 v.2] new rfl rfl 159 cur q1 q2 q3 (by kernel_rfl) rfl (fun w7 h7 ho7 => hK' _ _ ⟨hS0.trans ho7, ?_⟩)) | (have hq : Mk 3 := hm2; clear hq; refine wp_store_blk 60 (.tmp 66) (.tmp 65) rfl g5 (m * 11 + 7) #[.int .u16 v.1, .int .u16 v.2] new rfl rfl 159 cur q1 q2 q3 (by kernel_rfl) rfl (fun w7 h7 ho7 => hK' _ _ ⟨hS0.trans ho7, ?_⟩))
        refine wpAnyH_done (by kernel_rfl) ?_ _
        try simp only [nrm]
        first | (have hq : Mk 2 := hm2; clear hq; have HN7 : Hid (NarS w w7 Bh g5 (m + 1) cap5 (.cells #[.int .u32 X.a.1, .int .u32 X.a.2, .int .u32 X.b.1, .int .u32 X.b.2, .int .u16 X.c.1, .int .u16 X.c.2, .int .u16 X.d.1, .int .u16 X.d.2, .int .u8 X.m.1, .int .u8 X.m.2, .slice (some ⟨gl, off, none⟩) n cap] 135) (.cells #[.int .u16 t.1, .int .u16 t.2] 60) (.cells #[.int .u32 0, .int .u32 0, .int .u32 0, .int .u32 0, .int .u16 0, .int .u16 0, .int .u16 0, .int .u16 0, .int .u8 0, .int .u8 0, .slice none 0 0] 135) (.cells #[.int .u32 Y.a.1, .int .u32 Y.a.2, .int .u32 Y.b.1, .int .u32 Y.b.2, .int .u16 Y.c.1, .int .u16 Y.c.2, .int .u16 Y.d.1, .int .u16 Y.d.2, .int .u8 Y.m.1, .int .u8 Y.m.2, .slice (some ⟨g5, 0, none⟩) (m + 1) cap5] 135) (R ++ [(e.1, fset 2 e.2 v)])) := HN5.out.field (q4 w7 h7) (hS0.trans ho7)) | (have hq : Mk 3 := hm2; clear hq; have HN7 : Hid (NarS w w7 Bh g5 (m + 1) cap5 (.cells #[.int .u32 X.a.1, .int .u32 X.a.2, .int .u32 X.b.1, .int .u32 X.b.2, .int .u16 X.c.1, .int .u16 X.c.2, .int .u16 X.d.1, .int .u16 X.d.2, .int .u8 X.m.1, .int .u8 X.m.2, .slice (some ⟨gl, off, none⟩) n cap] 135) (.cells #[.int .u16 t.1, .int .u16 t.2] 60) (.cells #[.int .u32 0, .int .u32 0, .int .u32 0, .int .u32 0, .int .u16 0, .int .u16 0, .int .u16 0, .int .u16 0, .int .u8 0, .int .u8 0, .slice none 0 0] 135) (.cells #[.int .u32 Y.a.1, .int .u32 Y.a.2, .int .u32 Y.b.1, .int .u32 Y.b.2, .int .u16 Y.c.1, .int .u16 Y.c.2, .int .u16 Y.d.1, .int .u16 Y.d.2, .int .u8 Y.m.1, .int .u8 Y.m.2, .slice (some ⟨g5, 0, none⟩) (m + 1) cap5] 135) (R ++ [(e.1, fset 3 e.2 v)])) := HN5.out.field (q4 w7 h7) (hS0.trans ho7))
        first | (have hq : Mk 2 := hm2; clear hq; have hlen : (R ++ [(e.1, fset 2 e.2 v)]).length ≤ 4096 := by have := HN7.out.len; omega) | (have hq : Mk 3 := hm2; clear hq; have hlen : (R ++ [(e.1, fset 3 e.2 v)]).length ≤ 4096 := by have := HN7.out.len; omega)
        first | (have hq : Mk 2 := hm2; clear hq; have hset := fun W hb => settledC Bh ⟨Y, some ⟨g5, 0, none⟩, m + 1, cap5⟩ (R ++ [(e.1, fset 2 e.2 v)]) W (HN7.out.on hb).hh (HN7.out.on hb).row.src hlen) | (have hq : Mk 3 := hm2; clear hq; have hset := fun W hb => settledC Bh ⟨Y, some ⟨g5, 0, none⟩, m + 1, cap5⟩ (R ++ [(e.1, fset 3 e.2 v)]) W (HN7.out.on hb).hh (HN7.out.on hb).row.src hlen)
        rw [lastZ_snoc] at hset
        clear q1 q2 q3 q4 h7 ho7 hS0 cf6 c10 HN5 HBb5 rB hlen
        first | (have hq : Mk 2 := hm2; clear hq; by_cases hq : fset 2 e.2 v = Y) | (have hq : Mk 3 := hm2; clear hq; by_cases hq : fset 3 e.2 v = Y)
        ·first | (have hq : Mk 2 := hm2; clear hq; rw [show decide (((e.1, fset 2 e.2 v) : CtE).2 = Y) = true from decide_eq_true hq] at hset) | (have hq : Mk 3 := hm2; clear hq; rw [show decide (((e.1, fset 3 e.2 v) : CtE).2 = Y) = true from decide_eq_true hq] at hset)
         first | (have hq : Mk 2 := hm2; clear hq; go_wp2_with (first | (go_at_call 82; refine (hset _ (Below.refl _ _)).mono ?_; rintro e9 w8 ⟨rfl, hb8⟩; have HN8 : Hid (NarS w w8 Bh g5 (m + 1) cap5 (.cells #[.int .u32 X.a.1, .int .u32 X.a.2, .int .u32 X.b.1, .int .u32 X.b.2, .int .u16 X.c.1, .int .u16 X.c.2, .int .u16 X.d.1, .int .u16 X.d.2, .int .u8 X.m.1, .int .u8 X.m.2, .slice (some ⟨gl, off, none⟩) n cap] 135) (.cells #[.int .u16 t.1, .int .u16 t.2] 60) (.cells #[.int .u32 0, .int .u32 0, .int .u32 0, .int .u32 0, .int .u16 0, .int .u16 0, .int .u16 0, .int .u16 0, .int .u8 0, .int .u8 0, .slice none 0 0] 135) (.cells #[.int .u32 Y.a.1, .int .u32 Y.a.2, .int .u32 Y.b.1, .int .u32 Y.b.2, .int .u16 Y.c.1, .int .u16 Y.c.2, .int .u16 Y.d.1, .int .u16 Y.d.2, .int .u8 Y.m.1, .int .u8 Y.m.2, .slice (some ⟨g5, 0, none⟩) (m + 1) cap5] 135) (R ++ [(e.1, fset 2 e.2 v)])) := HN7.out.on hb8; have Hr : Hid (w8.rangeAt Bh 0 (#[.int .u32 Y.a.1, .int .u32 Y.a.2, .int .u32 Y.b.1, .int .u32 Y.b.2, .int .u16 Y.c.1, .int .u16 Y.c.2, .int .u16 Y.d.1, .int .u16 Y.d.2, .int .u8 Y.m.1, .int .u8 Y.m.2, .slice (some ⟨g5, 0, none⟩) (m + 1) cap5] : Array Value).toList) := rngAll HN8.out.hh) | (refine ct_loadL rfl 135 (.tmp 7) rfl Bh 0 #[.int .u32 Y.a.1, .int .u32 Y.a.2, .int .u32 Y.b.1, .int .u32 Y.b.2, .int .u16 Y.c.1, .int .u16 Y.c.2, .int .u16 Y.d.1, .int .u16 Y.d.2, .int .u8 Y.m.1, .int .u8 Y.m.2, .slice (some ⟨g5, 0, none⟩) (m + 1) cap5] rfl Hr.out Tryz.underlying135 rfl (by kernel_rfl) ?_) | (refine wpList_store_blk rfl 135 (.tmp 6) (.tmp 69) rfl (w.heap.size + 1 + 1) 0 #[.int .u32 Y.a.1, .int .u32 Y.a.2, .int .u32 Y.b.1, .int .u32 Y.b.2, .int .u16 Y.c.1, .int .u16 Y.c.2, .int .u16 Y.d.1, .int .u16 Y.d.2, .int .u8 Y.m.1, .int .u8 Y.m.2, .slice (some ⟨g5, 0, none⟩) (m + 1) cap5] #[.int .u32 Y.a.1, .int .u32 Y.a.2, .int .u32 Y.b.1, .int .u32 Y.b.2, .int .u16 Y.c.1, .int .u16 Y.c.2, .int .u16 Y.d.1, .int .u16 Y.d.2, .int .u8 Y.m.1, .int .u8 Y.m.2, .slice (some ⟨g5, 0, none⟩) (m + 1) cap5] rfl rfl 135 _ HN8.out.hr (Nat.le_of_ble_eq_true rfl) rfl (by kernel_rfl) rfl ?_; intro wz hwz hoz))) | (have hq : Mk 3 := hm2; clear hq; go_wp2_with (first | (go_at_call 82; refine (hset _ (Below.refl _ _)).mono ?_; rintro e9 w8 ⟨rfl, hb8⟩; have HN8 : Hid (NarS w w8 Bh g5 (m + 1) cap5 (.cells #[.int .u32 X.a.1, .int .u32 X.a.2, .int .u32 X.b.1, .int .u32 X.b.2, .int .u16 X.c.1, .int .u16 X.c.2, .int .u16 X.d.1, .int .u16 X.d.2, .int .u8 X.m.1, .int .u8 X.m.2, .slice (some ⟨gl, off, none⟩) n cap] 135) (.cells #[.int .u16 t.1, .int .u16 t.2] 60) (.cells #[.int .u32 0, .int .u32 0, .int .u32 0, .int .u32 0, .int .u16 0, .int .u16 0, .int .u16 0, .int .u16 0, .int .u8 0, .int .u8 0, .slice none 0 0] 135) (.cells #[.int .u32 Y.a.1, .int .u32 Y.a.2, .int .u32 Y.b.1, .int .u32 Y.b.2, .int .u16 Y.c.1, .int .u16 Y.c.2, .int .u16 Y.d.1, .int .u16 Y.d.2, .int .u8 Y.m.1, .int .u8 Y.m.2, .slice (some ⟨g5, 0, none⟩) (m + 1) cap5] 135) (R ++ [(e.1, fset 3 e.2 v)])) := HN7.out.on hb8; have Hr : Hid (w8.rangeAt Bh 0 (#[.int .u32 Y.a.1, .int .u32 Y.a.2, .int .u32 Y.b.1, .int .u32 Y.b.2, .int .u16 Y.c.1, .int .u16 Y.c.2, .int .u16 Y.d.1, .int .u16 Y.d.2, .int .u8 Y.m.1, .int .u8 Y.m.2, .slice (some ⟨g5, 0, none⟩) (m + 1) cap5] : Array Value).toList) := rngAll HN8.out.hh) | (refine ct_loadL rfl 135 (.tmp 7) rfl Bh 0 #[.int .u32 Y.a.1, .int .u32 Y.a.2, .int .u32 Y.b.1, .int .u32 Y.b.2, .int .u16 Y.c.1, .int .u16 Y.c.2, .int .u16 Y.d.1, .int .u16 Y.d.2, .int .u8 Y.m.1, .int .u8 Y.m.2, .slice (some ⟨g5, 0, none⟩) (m + 1) cap5] rfl Hr.out Tryz.underlying135 rfl (by kernel_rfl) ?_) | (refine wpList_store_blk rfl 135 (.tmp 6) (.tmp 69) rfl (w.heap.size + 1 + 1) 0 #[.int .u32 Y.a.1, .int .u32 Y.a.2, .int .u32 Y.b.1, .int .u32 Y.b.2, .int .u16 Y.c.1, .int .u16 Y.c.2, .int .u16 Y.d.1, .int .u16 Y.d.2, .int .u8 Y.m.1, .int .u8 Y.m.2, .slice (some ⟨g5, 0, none⟩) (m + 1) cap5] #[.int .u32 Y.a.1, .int .u32 Y.a.2, .int .u32 Y.b.1, .int .u32 Y.b.2, .int .u16 Y.c.1, .int .u16 Y.c.2, .int .u16 Y.d.1, .int .u16 Y.d.2, .int .u8 Y.m.1, .int .u8 Y.m.2, .slice (some ⟨g5, 0, none⟩) (m + 1) cap5] rfl rfl 135 _ HN8.out.hr (Nat.le_of_ble_eq_true rfl) rfl (by kernel_rfl) rfl ?_; intro wz hwz hoz)))
         refine bodyPost_ret (results_blk Tryz.results116 rfl hwz Tryz.underlying135 rfl (by kernel_rfl)) rfl ⟨⟨Y, some ⟨g5, 0, none⟩, m + 1, cap5⟩, rfl, HY.out, ?_, HN8.out.bel.trans (hoz.below (by omega))⟩
         have hrow := rowZ_stay HN8.out.row (fun k hk => hoz.block k (by have := HN8.out.ne; simp [Value.ownBlock] at hk; omega))
         have e1 := HE.out
         rw [HDr.out, nar, hm] at e1
         simp only [hq, if_true] at e1
         rw [HY.out] at e1
         rw [e1]
         rw [← HY.out, ← hq]
         exact hrow
        ·first | (have hq : Mk 2 := hm2; clear hq; rw [show decide (((e.1, fset 2 e.2 v) : CtE).2 = Y) = false from decide_eq_false hq] at hset) | (have hq : Mk 3 := hm2; clear hq; rw [show decide (((e.1, fset 3 e.2 v) : CtE).2 = Y) = false from decide_eq_false hq] at hset)
         go_wp2_with (go_at_call 82; refine (hset _ (Below.refl _ _)).mono ?_; rintro e9 w8 ⟨rfl, hb8⟩)
         first | (have hq : Mk 2 := hm2; clear hq; have HN8 : Hid (NarS w w8 Bh g5 (m + 1) cap5 (.cells #[.int .u32 X.a.1, .int .u32 X.a.2, .int .u32 X.b.1, .int .u32 X.b.2, .int .u16 X.c.1, .int .u16 X.c.2, .int .u16 X.d.1, .int .u16 X.d.2, .int .u8 X.m.1, .int .u8 X.m.2, .slice (some ⟨gl, off, none⟩) n cap] 135) (.cells #[.int .u16 t.1, .int .u16 t.2] 60) (.cells #[.int .u32 0, .int .u32 0, .int .u32 0, .int .u32 0, .int .u16 0, .int .u16 0, .int .u16 0, .int .u16 0, .int .u8 0, .int .u8 0, .slice none 0 0] 135) (.cells #[.int .u32 Y.a.1, .int .u32 Y.a.2, .int .u32 Y.b.1, .int .u32 Y.b.2, .int .u16 Y.c.1, .int .u16 Y.c.2, .int .u16 Y.d.1, .int .u16 Y.d.2, .int .u8 Y.m.1, .int .u8 Y.m.2, .slice (some ⟨g5, 0, none⟩) (m + 1) cap5] 135) (R ++ [(e.1, fset 2 e.2 v)])) := HN7.out.on hb8) | (have hq : Mk 3 := hm2; clear hq; have HN8 : Hid (NarS w w8 Bh g5 (m + 1) cap5 (.cells #[.int .u32 X.a.1, .int .u32 X.a.2, .int .u32 X.b.1, .int .u32 X.b.2, .int .u16 X.c.1, .int .u16 X.c.2, .int .u16 X.d.1, .int .u16 X.d.2, .int .u8 X.m.1, .int .u8 X.m.2, .slice (some ⟨gl, off, none⟩) n cap] 135) (.cells #[.int .u16 t.1, .int .u16 t.2] 60) (.cells #[.int .u32 0, .int .u32 0, .int .u32 0, .int .u32 0, .int .u16 0, .int .u16 0, .int .u16 0, .int .u16 0, .int .u8 0, .int .u8 0, .slice none 0 0] 135) (.cells #[.int .u32 Y.a.1, .int .u32 Y.a.2, .int .u32 Y.b.1, .int .u32 Y.b.2, .int .u16 Y.c.1, .int .u16 Y.c.2, .int .u16 Y.d.1, .int .u16 Y.d.2, .int .u8 Y.m.1, .int .u8 Y.m.2, .slice (some ⟨g5, 0, none⟩) (m + 1) cap5] 135) (R ++ [(e.1, fset 3 e.2 v)])) := HN7.out.on hb8)
         clear HN7 hset hb8
         go_wp2_with (fail)
         go_roundw
         first | (have hq : Mk 2 := hm2; clear hq; case rel => exact ⟨k + 1, g5, m + 1, cap5, R ++ [(e.1, fset 2 e.2 v)], by omega, by omega, by go_num, HN8.out, by have e1 := HE.out; rw [HDr.out, nar, hm] at e1; simp only [hq, if_false] at e1; show _ = _; rw [e1]; simp⟩) | (have hq : Mk 3 := hm2; clear hq; case rel => exact ⟨k + 1, g5, m + 1, cap5, R ++ [(e.1, fset 3 e.2 v)], by omega, by omega, by go_num, HN8.out, by have e1 := HE.out; rw [HDr.out, nar, hm] at e1; simp only [hq, if_false] at e1; show _ = _; rw [e1]; simp⟩)
         case measure => simp [intOf]; omega
       ·go_wp2_with (fail)
        go_roundw
        case rel => exact ⟨k + 1, g, m, cap1, R, by omega, by omega, by go_num, HN4.out, by have e1 := HE.out; rw [HDr.out, nar, hm] at e1; exact e1⟩
        case measure => simp [intOf]; omega
     ·obtain rfl : k = n := by omega
      have Hr : Hid (wr.rangeAt Bh 0 (#[.int .u32 Y.a.1, .int .u32 Y.a.2, .int .u32 Y.b.1, .int .u32 Y.b.2, .int .u16 Y.c.1, .int .u16 Y.c.2, .int .u16 Y.d.1, .int .u16 Y.d.2, .int .u8 Y.m.1, .int .u8 Y.m.2, .slice (some ⟨g, 0, none⟩) (m) cap1] : Array Value).toList) := rngAll HN1.out.hh
      go_wp2_with (first | (refine ct_loadL rfl 135 (.tmp 7) rfl Bh 0 #[.int .u32 Y.a.1, .int .u32 Y.a.2, .int .u32 Y.b.1, .int .u32 Y.b.2, .int .u16 Y.c.1, .int .u16 Y.c.2, .int .u16 Y.d.1, .int .u16 Y.d.2, .int .u8 Y.m.1, .int .u8 Y.m.2, .slice (some ⟨g, 0, none⟩) (m) cap1] rfl Hr.out Tryz.underlying135 rfl (by kernel_rfl) ?_) | (refine wpList_store_blk rfl 135 (.tmp 6) (.tmp 69) rfl (w.heap.size + 1 + 1) 0 #[.int .u32 Y.a.1, .int .u32 Y.a.2, .int .u32 Y.b.1, .int .u32 Y.b.2, .int .u16 Y.c.1, .int .u16 Y.c.2, .int .u16 Y.d.1, .int .u16 Y.d.2, .int .u8 Y.m.1, .int .u8 Y.m.2, .slice (some ⟨g, 0, none⟩) (m) cap1] #[.int .u32 Y.a.1, .int .u32 Y.a.2, .int .u32 Y.b.1, .int .u32 Y.b.2, .int .u16 Y.c.1, .int .u16 Y.c.2, .int .u16 Y.d.1, .int .u16 Y.d.2, .int .u8 Y.m.1, .int .u8 Y.m.2, .slice (some ⟨g, 0, none⟩) (m) cap1] rfl rfl 135 _ HN1.out.hr (Nat.le_of_ble_eq_true rfl) rfl (by kernel_rfl) rfl ?_; intro wz hwz hoz))
      refine bodyPost_ret (results_blk Tryz.results116 rfl hwz Tryz.underlying135 rfl (by kernel_rfl)) rfl ⟨⟨Y, some ⟨g, 0, none⟩, m, cap1⟩, rfl, HY.out, ?_, HN1.out.bel.trans (hoz.below (by omega))⟩
      have hrow := rowZ_stay HN1.out.row (fun k hk => hoz.block k (by have := HN1.out.ne; simp [Value.ownBlock] at hk; omega))
      have e1 := HE.out
      rw [List.drop_eq_nil_of_le (by have := HN.out; omega), nar, List.append_nil, HY.out] at e1
      rw [e1]
      exact hrow
end Go.Proofs.YtgokmkholjfhbaaGreat
