/-
  SyGB: SyG SyH SyI SyJ SyL, one behind the other (tools/merge.py).
-/
import Derived.Test.YtehedlgdencboabGreatDoorSyGA
import Derived.Test.YtehedlgdencboabGreatDoorLxUb
/-
  hasId; a rule's line, read.
-/
namespace Go.Proofs.YtehedlgdencboabGreatDoor
open Go.RowKit
set_option linter.unusedVariables false
set_option linter.unusedSimpArgs false

theorem any_step {l : List Ru} {x : Int} {k : Nat} (hk : k < l.length) (h : (l[k]'hk).i = x) : (l.any fun y => decide (y.i = x)) = true := List.any_eq_true.2 ⟨l[k], List.getElem_mem hk, by simpa using h⟩
theorem any_none {l : List Ru} {x : Int} (h : ∀ k (hk : k < l.length), (l[k]'hk).i ≠ x) : (l.any fun y => decide (y.i = x)) = false := by
  rw [Bool.eq_false_iff]
  intro c
  obtain ⟨y, hy, e⟩ := List.any_eq_true.1 c
  obtain ⟨k, hk, rfl⟩ := List.mem_iff_getElem.1 hy
  exact h k hk (by simpa using e)
set_option maxRecDepth 20000 in
set_option maxHeartbeats 8000000 in
theorem hasIdC (v : Value) (l : List Ru) (x : Int) (w : World) (hs : SrcU w v l) (hl : l.length ≤ 200000) :
    Calls Tryz.prog 22 #[v, .int .i64 x] w fun e w' => e = .returned (.bool (l.any fun y => decide (y.i = x))) ∧ Below w.heap.size w w' := by
  have HS : Hid (SrcU w v l) := hs
  obtain ⟨ad, cap, rfl, hcap, hat⟩ := hs
  have HY : Hid (∀ k (hk : k < l.length), (l[k]'hk).i = x → (l.any fun y => decide (y.i = x)) = true) := fun k hk h => any_step hk h
  have HN : Hid ((∀ k (hk : k < l.length), (l[k]'hk).i ≠ x) → (l.any fun y => decide (y.i = x)) = false) := any_none
  generalize (l.any fun y => decide (y.i = x)) = A at *
  obtain ⟨n, hn⟩ : ∃ n, n = l.length := ⟨_, rfl⟩
  have Hn : Hid (n = l.length) := hn
  have HAt : Hid (∀ (W : World), Below w.heap.size w W → ∀ k (hk : k < l.length), ∃ g off, ad = some ⟨g, off, none⟩ ∧ g < W.heap.size ∧ ∀ j, j < 12 → W.cell? ⟨g, off + (k * 12 + j), none⟩ = (encU (l[k]'hk))[j]?) := fun W hb k hk => by
    obtain ⟨g, off, e, h3⟩ := hat (by omega)
    have h0 := h3 k hk 0 (by decide)
    have hg : g < w.heap.size := World.block_lt_of_cell? w _ (h0.trans rfl)
    exact ⟨g, off, e, by have := hb.size; omega, fun j hj => by
      have := h3 k hk j hj
      obtain ⟨u, hu⟩ := encU_some (l[k]'hk) hj
      rw [hb.cell (p := ⟨g, off + (k * 12 + j), none⟩) hg]; exact this⟩
  rw [← hn] at hl hcap ⊢
  have hn0 : (n : Int) ≤ 200000 := by omega
  clear hn hat HS
  go_enter Tryz.func22, Tryz.ntmps22
  go_wp2_with (fail)
  go_loopw [9] (fun i wr => ∃ k : Nat, k ≤ n ∧ i = .int .i64 (k : Int) ∧ Hid (Below w.heap.size w wr) ∧ Hid (∀ j (hj : j < l.length), j < k → (l[j]'hj).i ≠ x)) (fun i _ => n - (intOf i).toNat)
  case atStart => exact ⟨0, Nat.zero_le _, rfl, Below.refl _ _, fun j _ hj => absurd hj (Nat.not_lt_zero _)⟩
  case round =>
    obtain ⟨k, hk, rfl, HB, HK⟩ := hrel
    by_cases hlt : k < n
    · have hkl : k < l.length := by rw [← Hn.out]; exact hlt
      obtain ⟨g, off, rfl, hg, hc⟩ := HAt.out wr HB.out k hkl
      obtain ⟨p, hp⟩ : ∃ p, p = l[k]'hkl := ⟨_, rfl⟩
      rw [← hp] at hc
      have x0 : wr.cell? ⟨g, off + k * 12, none⟩ = some (.int .i64 p.i) := hc 0 (by decide)
      have x1 : wr.cell? ⟨g, off + k * 12 + 1, none⟩ = some (.int .u32 (p.s : Int)) := hc 1 (by decide)
      have x2 : wr.cell? ⟨g, off + k * 12 + 2, none⟩ = some (.int .i64 p.sl) := hc 2 (by decide)
      have x3 : wr.cell? ⟨g, off + k * 12 + 3, none⟩ = some (.int .u32 (p.d : Int)) := hc 3 (by decide)
      have x4 : wr.cell? ⟨g, off + k * 12 + 4, none⟩ = some (.int .i64 p.dl) := hc 4 (by decide)
      have x5 : wr.cell? ⟨g, off + k * 12 + 5, none⟩ = some (.int .u16 (p.p.1 : Int)) := hc 5 (by decide)
      have x6 : wr.cell? ⟨g, off + k * 12 + 6, none⟩ = some (.int .u16 (p.p.2 : Int)) := hc 6 (by decide)
      have x7 : wr.cell? ⟨g, off + k * 12 + 7, none⟩ = some (.int .u16 (p.q.1 : Int)) := hc 7 (by decide)
      have x8 : wr.cell? ⟨g, off + k * 12 + 8, none⟩ = some (.int .u16 (p.q.2 : Int)) := hc 8 (by decide)
      have x9 : wr.cell? ⟨g, off + k * 12 + 9, none⟩ = some (.int .u8 (p.m.1 : Int)) := hc 9 (by decide)
      have x10 : wr.cell? ⟨g, off + k * 12 + 10, none⟩ = some (.int .u8 (p.m.2 : Int)) := hc 10 (by decide)
      have x11 : wr.cell? ⟨g, off + k * 12 + 11, none⟩ = some (.int .i64 p.act) := hc 11 (by decide)
      have hlt' : (k : Int) < (n : Int) := by omega
      clear hc
      by_cases hx : p.i = x
      · have HV : Hid (A = true) := HY.out k hkl (by rw [← hp]; exact hx)
        rw [hx] at x0
        clear hp hx HK HY HN HAt
        go_wp2_with (fail)
        go_ret
        exact ⟨ret_same (by rw [HV.out]), HB.out.alloc HB.out.size _⟩
      · have HK2 : Hid (∀ j (hj : j < l.length), j < k + 1 → (l[j]'hj).i ≠ x) := fun j hj h => by
          rcases Nat.lt_or_ge j k with c | c
          · exact HK.out j hj c
          · have e : j = k := by omega
            subst e
            rw [← hp]; exact hx
        have hx' : (p.i == x) = false := by simpa using hx
        clear hp HK HY HN HAt hkl
        go_wp2_with (fail)
        go_roundw
        case rel => exact ⟨k + 1, by omega, by go_num, HB.out.alloc HB.out.size _, HK2.out⟩
        case measure => simp [intOf]; omega
    · obtain rfl : k = n := by omega
      have HV : Hid (A = false) := HN.out (fun j hj => HK.out j hj (by rw [Hn.out]; exact hj))
      clear HK HY HN HAt
      go_wp2_with (fail)
      go_ret
      exact ⟨ret_same (by rw [HV.out]), HB.out⟩
end Go.Proofs.YtehedlgdencboabGreatDoor
/-
  A rule's line, read. Written by tools/mkSyH.py.
-/
namespace Go.Proofs.YtehedlgdencboabGreatDoor
open Go.RowKit
set_option linter.unusedVariables false
set_option linter.unusedSimpArgs false
variable {zA zC : TypeId × (Nat × Nat)}

/-- What came of a line: a value, and the place behind its end; or what is wrong. -/
def LineOut (w : World) (R : Nat) (v V : Value) (st : Rd) (e : Ending) (w' : World) : Prop :=
  But R w w' ∧ ((st.w.e ≠ 0 ∧ Bad w.heap.size st.w e w') ∨ (st.w = ⟨0, 0, 0⟩ ∧ e = .returned V ∧ Rdr w' R v (st.a + 1)))
/-- The row u does not lie in block R. -/
def Off (R : Nat) (u : Value) : Prop := ∀ k, u.ownBlock = some k → k ≠ R
theorem SrcU.but {R : Nat} {w w1 : World} {u : Value} {l : List Ru} (h : SrcU w u l) (hb : But R w w1) (ho : Off R u) : SrcU w1 u l := by
  obtain ⟨ad, cap, rfl, hc, h2⟩ := h
  refine ⟨ad, cap, rfl, hc, fun h0 => ?_⟩
  obtain ⟨g, off, rfl, h3⟩ := h2 h0
  have hg : g ≠ R := ho g rfl
  exact ⟨g, off, rfl, fun k hk j hj => by
    have := h3 k hk j hj
    obtain ⟨x, hx⟩ := encU_some (l[k]'hk) hj
    rw [hx] at this ⊢
    exact hb.at this hg⟩
theorem any_map (out : List Rp) (i : Nat) : ((out.map ruOf).any fun y => decide (y.i = (i : Int))) = out.any fun y => decide (y.i = i) := by
  rw [List.any_map]
  congr 1
  funext y
  show decide ((y.i : Int) = (i : Int)) = decide (y.i = i)
  rw [decide_eq_decide]
  omega
theorem SrcU.len {w : World} {u : Value} {l : List Ru} (h : SrcU w u l) : ∃ ad cap, u = .slice ad l.length cap := by
  obtain ⟨ad, cap, h1, _⟩ := h
  exact ⟨ad, cap, h1⟩
theorem ratR {w w1 : World} {R b a B : Nat} {v : Value} {L : List Tk} (h : RAt w R b v L a) (ho : Only B w w1) (hR : R ≠ B) (hT : some B ≠ v.ownBlock) : RAt w1 R b v L a :=
  ⟨by have := h.r; unfold Rdr at this ⊢; rw [ho.block R hR]; exact this, h.t.onlyT ho hT, h.ne, h.g, h.lt⟩
set_option maxRecDepth 20000 in
set_option maxHeartbeats 16000000 in
theorem ruleLineC (w : World) (R b a : Nat) (v : Value) (L : List Tk) (h : RAt w R b v L a) (hA : ActAt zA w) (hgR : 8 < R) (u : Value) (out : List Rp) (hu : SrcU w u (out.map ruOf)) (hoff : Off R u) (h64 : out.length ≤ 64) :
    Calls Tryz.prog 24 #[.pointer (some ⟨R, 0, none⟩), u] w fun e w' => LineOut w R v (.agg #[.int .i64 (ruOf (oneS chkN L out a).1).i, .int .u32 ((ruOf (oneS chkN L out a).1).s : Int), .int .i64 (ruOf (oneS chkN L out a).1).sl, .int .u32 ((ruOf (oneS chkN L out a).1).d : Int), .int .i64 (ruOf (oneS chkN L out a).1).dl, .int .u16 ((ruOf (oneS chkN L out a).1).p.1 : Int), .int .u16 ((ruOf (oneS chkN L out a).1).p.2 : Int), .int .u16 ((ruOf (oneS chkN L out a).1).q.1 : Int), .int .u16 ((ruOf (oneS chkN L out a).1).q.2 : Int), .int .u8 ((ruOf (oneS chkN L out a).1).m.1 : Int), .int .u8 ((ruOf (oneS chkN L out a).1).m.2 : Int), .int .i64 (ruOf (oneS chkN L out a).1).act]) (oneS chkN L out a).2 e w' := by
  have HT : Hid (Old w.heap.size v) := h.old
  have h1 := @one_1 L out a
  have h2 := @one_2 L out a
  have h3 := @one_3 L out a
  have h4 := @one_4 L out a
  have h5 := @one_5 L out a
  have h6 := @one_6 L out a
  have hV : (oneS chkN L out a).1 = (ruleS L ⟨a, ⟨0, 0, 0⟩⟩).1 := rfl
  have hbd := rule_bd L ⟨a, ⟨0, 0, 0⟩⟩
  have hact := @rule_act L ⟨a, ⟨0, 0, 0⟩⟩
  have hbg := begs_at L ⟨a, ⟨0, 0, 0⟩⟩
  have hbl : (begs L ⟨a, ⟨0, 0, 0⟩⟩).length = 8 := rfl
  have hRu : ∀ W : World, RAt W R b v L a → ActAt zA W → Calls Tryz.prog 41 #[.pointer (some ⟨R, 0, none⟩)] W _ := fun W hW hX => ruleC W R b v L ⟨a, ⟨0, 0, 0⟩⟩ rfl hW hX hgR
  have hNx : ∀ W : World, RAt W R b v L a → Calls Tryz.prog 32 #[.pointer (some ⟨R, 0, none⟩)] W _ := fun W hW => nextC W R b a v L hW
  have hG0 := fun c W => giveUpC c (tkA L a) W
  rw [hV]
  clear hV
  generalize tkA L a = fst at *
  generalize (oneS chkN L out a).2 = FIN at *
  generalize begs L ⟨a, ⟨0, 0, 0⟩⟩ = bg at *
  generalize ruleS L ⟨a, ⟨0, 0, 0⟩⟩ = P at *
  obtain ⟨Rp0, at_, rs⟩ := P
  simp only at h1 h2 h3 h4 h5 h6 hbd hact hbg hRu ⊢
  have hlR : R < w.heap.size := blk_lt h.r
  have HR : Hid (RAt (w.alloc (.cells #[.int .i64 0, .int .u32 0, .int .i64 0, .int .u32 0, .int .i64 0, .int .u16 0, .int .u16 0, .int .u16 0, .int .u16 0, .int .u8 0, .int .u8 0, .int .i64 0] 52)) R b v L a) := h.on ((Below.refl _ _).alloc (Nat.le_refl _) _)
  have HA : Hid (ActAt zA (w.alloc (.cells #[.int .i64 0, .int .u32 0, .int .i64 0, .int .u32 0, .int .i64 0, .int .u16 0, .int .u16 0, .int .u16 0, .int .u16 0, .int .u8 0, .int .u8 0, .int .i64 0] 52))) := blk_alloc hA _
  have HU : Hid (SrcU (w.alloc (.cells #[.int .i64 0, .int .u32 0, .int .i64 0, .int .u32 0, .int .i64 0, .int .u16 0, .int .u16 0, .int .u16 0, .int .u16 0, .int .u8 0, .int .u8 0, .int .i64 0] 52)) u (out.map ruOf)) := hu.keep ((Below.refl _ _).alloc (Nat.le_refl _) _)
  have HX : Hid ((w.alloc (.cells #[.int .i64 0, .int .u32 0, .int .i64 0, .int .u32 0, .int .i64 0, .int .u16 0, .int .u16 0, .int .u16 0, .int .u16 0, .int .u8 0, .int .u8 0, .int .i64 0] 52)).heap[w.heap.size]? = some (.cells #[.int .i64 0, .int .u32 0, .int .i64 0, .int .u32 0, .int .i64 0, .int .u16 0, .int .u16 0, .int .u16 0, .int .u16 0, .int .u8 0, .int .u8 0, .int .i64 0] 52)) := blk_new w _
  have HB : Hid (But R w (w.alloc (.cells #[.int .i64 0, .int .u32 0, .int .i64 0, .int .u32 0, .int .i64 0, .int .u16 0, .int .u16 0, .int .u16 0, .int .u16 0, .int .u8 0, .int .u8 0, .int .i64 0] 52))) := (But.refl R w).al _
  have HZ : Hid (w.heap.size + 1 ≤ (w.alloc (.cells #[.int .i64 0, .int .u32 0, .int .i64 0, .int .u32 0, .int .i64 0, .int .u16 0, .int .u16 0, .int .u16 0, .int .u16 0, .int .u8 0, .int .u8 0, .int .i64 0] 52)).heap.size) := by show _ ≤ _; simp
  obtain ⟨uad, ucap, rfl⟩ := hu.len
  rw [List.length_map]
  rw [List.length_map] at HU hoff
  clear h hA hu
  generalize hW0 : (w.alloc (.cells #[.int .i64 0, .int .u32 0, .int .i64 0, .int .u32 0, .int .i64 0, .int .u16 0, .int .u16 0, .int .u16 0, .int .u16 0, .int .u8 0, .int .u8 0, .int .i64 0] 52)) = W0 at *
  obtain ⟨n, hn⟩ : ∃ n, n = out.length := ⟨_, rfl⟩
  rw [← hn] at HU hoff h3 h4 h5 h6 h64 ⊢
  have HN : Hid (n = out.length) := hn
  clear hn
  go_enter Tryz.func24, Tryz.ntmps24
  go_upto_region 1 with (fail)
  try rw [hW0]
  clear hW0
  go_wp2_with (fail)
  refine (hNx _ HR.out).mono ?_
  rintro e w1 ⟨rfl, hb1⟩
  have H1R : Hid (RAt (w1.alloc (.cells #[.int .i64 (fst.k : Int), .string fst.t, .int .u32 (fst.v : Int), .int .i64 (fst.l : Int), .int .i64 (fst.c : Int)] 84)) R b v L a) := (HR.out.on hb1).on ((Below.refl _ _).alloc (Nat.le_refl _) _)
  have H1A : Hid (ActAt zA (w1.alloc (.cells #[.int .i64 (fst.k : Int), .string fst.t, .int .u32 (fst.v : Int), .int .i64 (fst.l : Int), .int .i64 (fst.c : Int)] 84))) := blk_alloc (blk_on HA.out hb1) _
  have H1U : Hid (SrcU (w1.alloc (.cells #[.int .i64 (fst.k : Int), .string fst.t, .int .u32 (fst.v : Int), .int .i64 (fst.l : Int), .int .i64 (fst.c : Int)] 84)) (.slice uad n ucap) (out.map ruOf)) := (HU.out.keep hb1).keep ((Below.refl _ _).alloc (Nat.le_refl _) _)
  have H1X : Hid ((w1.alloc (.cells #[.int .i64 (fst.k : Int), .string fst.t, .int .u32 (fst.v : Int), .int .i64 (fst.l : Int), .int .i64 (fst.c : Int)] 84)).heap[w.heap.size]? = some (.cells #[.int .i64 0, .int .u32 0, .int .i64 0, .int .u32 0, .int .i64 0, .int .u16 0, .int .u16 0, .int .u16 0, .int .u16 0, .int .u8 0, .int .u8 0, .int .i64 0] 52)) := blk_alloc (blk_on HX.out hb1) _
  have H1T : Hid ((w1.alloc (.cells #[.int .i64 (fst.k : Int), .string fst.t, .int .u32 (fst.v : Int), .int .i64 (fst.l : Int), .int .i64 (fst.c : Int)] 84)).heap[w1.heap.size]? = some (.cells #[.int .i64 (fst.k : Int), .string fst.t, .int .u32 (fst.v : Int), .int .i64 (fst.l : Int), .int .i64 (fst.c : Int)] 84)) := blk_new w1 _
  have H1B : Hid (But R w (w1.alloc (.cells #[.int .i64 (fst.k : Int), .string fst.t, .int .u32 (fst.v : Int), .int .i64 (fst.l : Int), .int .i64 (fst.c : Int)] 84))) := (HB.out.then hb1).al _
  have z1 : w.heap.size + 1 ≤ w1.heap.size := Nat.le_trans HZ.out hb1.size
  clear hb1 HR HA HU HX HB HZ
  go_wp2_with (fail)
  refine (hRu _ H1R.out H1A.out).mono ?_
  rintro e w2 ⟨hB, ⟨hne, F, rfl, hF, hl⟩ | ⟨h0, rfl, hR⟩⟩
  · exact ⟨rfl, by rw [h1 hne]; exact ⟨H1B.out.tr hB, .inl ⟨hne, F, rfl, hF, Nat.le_trans H1B.out.size hl⟩⟩⟩
  have z2 : w1.heap.size + 1 ≤ w2.heap.size := by have := hB.size; simpa using this
  have H2R : Hid (RAt w2 R b v L rs.a) := hR
  have H2U : Hid (SrcU w2 (.slice uad n ucap) (out.map ruOf)) := H1U.out.but hB hoff
  have H2X : Hid (w2.heap[w.heap.size]? = some (.cells #[.int .i64 0, .int .u32 0, .int .i64 0, .int .u32 0, .int .i64 0, .int .u16 0, .int .u16 0, .int .u16 0, .int .u16 0, .int .u8 0, .int .u8 0, .int .i64 0] 52)) := hB.blk H1X.out (by omega)
  have H2T : Hid (w2.heap[w1.heap.size]? = some (.cells #[.int .i64 (fst.k : Int), .string fst.t, .int .u32 (fst.v : Int), .int .i64 (fst.l : Int), .int .i64 (fst.c : Int)] 84)) := hB.blk H1T.out (by omega)
  have H2B : Hid (But R w w2) := H1B.out.tr hB
  have hact := hact (by rw [h0])
  clear hB hR H1R H1A H1U H1X H1T H1B h1 hRu hNx
  have hE0 : ((w2.alloc (.cells #[.int .i64 0, .int .u32 0, .int .i64 0, .int .u32 0, .int .i64 0, .int .u16 0, .int .u16 0, .int .u16 0, .int .u16 0, .int .u8 0, .int .u8 0, .int .i64 0] 52)).alloc (.cells #[.int .i64 0, .string ⟨#[]⟩, .int .u32 0, .int .i64 0, .int .i64 0, .int .i64 0, .string ⟨#[]⟩, .int .u32 0, .int .i64 0, .int .i64 0, .int .i64 0, .string ⟨#[]⟩, .int .u32 0, .int .i64 0, .int .i64 0, .int .i64 0, .string ⟨#[]⟩, .int .u32 0, .int .i64 0, .int .i64 0, .int .i64 0, .string ⟨#[]⟩, .int .u32 0, .int .i64 0, .int .i64 0, .int .i64 0, .string ⟨#[]⟩, .int .u32 0, .int .i64 0, .int .i64 0, .int .i64 0, .string ⟨#[]⟩, .int .u32 0, .int .i64 0, .int .i64 0, .int .i64 0, .string ⟨#[]⟩, .int .u32 0, .int .i64 0, .int .i64 0] 87)).heap[w2.heap.size]? = some (.cells #[.int .i64 0, .int .u32 0, .int .i64 0, .int .u32 0, .int .i64 0, .int .u16 0, .int .u16 0, .int .u16 0, .int .u16 0, .int .u8 0, .int .u8 0, .int .i64 0] 52) := blk_alloc (blk_new w2 _) _
  have hE1 : ((w2.alloc (.cells #[.int .i64 0, .int .u32 0, .int .i64 0, .int .u32 0, .int .i64 0, .int .u16 0, .int .u16 0, .int .u16 0, .int .u16 0, .int .u8 0, .int .u8 0, .int .i64 0] 52)).alloc (.cells #[.int .i64 0, .string ⟨#[]⟩, .int .u32 0, .int .i64 0, .int .i64 0, .int .i64 0, .string ⟨#[]⟩, .int .u32 0, .int .i64 0, .int .i64 0, .int .i64 0, .string ⟨#[]⟩, .int .u32 0, .int .i64 0, .int .i64 0, .int .i64 0, .string ⟨#[]⟩, .int .u32 0, .int .i64 0, .int .i64 0, .int .i64 0, .string ⟨#[]⟩, .int .u32 0, .int .i64 0, .int .i64 0, .int .i64 0, .string ⟨#[]⟩, .int .u32 0, .int .i64 0, .int .i64 0, .int .i64 0, .string ⟨#[]⟩, .int .u32 0, .int .i64 0, .int .i64 0, .int .i64 0, .string ⟨#[]⟩, .int .u32 0, .int .i64 0, .int .i64 0] 87)).heap[w2.heap.size + 1]? = some (.cells #[.int .i64 0, .string ⟨#[]⟩, .int .u32 0, .int .i64 0, .int .i64 0, .int .i64 0, .string ⟨#[]⟩, .int .u32 0, .int .i64 0, .int .i64 0, .int .i64 0, .string ⟨#[]⟩, .int .u32 0, .int .i64 0, .int .i64 0, .int .i64 0, .string ⟨#[]⟩, .int .u32 0, .int .i64 0, .int .i64 0, .int .i64 0, .string ⟨#[]⟩, .int .u32 0, .int .i64 0, .int .i64 0, .int .i64 0, .string ⟨#[]⟩, .int .u32 0, .int .i64 0, .int .i64 0, .int .i64 0, .string ⟨#[]⟩, .int .u32 0, .int .i64 0, .int .i64 0, .int .i64 0, .string ⟨#[]⟩, .int .u32 0, .int .i64 0, .int .i64 0] 87) := blk_newN (by simp) _
  have hfl : (flatT bg).length = 40 := by rw [flatT_length, hbl]
  have hone := flatT_one bg
  generalize hQ : ruOf Rp0 = Q at *
  go_wp2_with (first | (refine wpList_store_blk rfl 52 (.tmp 6) (.tmp 13) rfl w2.heap.size 0 #[.int .i64 Q.i, .int .u32 (Q.s : Int), .int .i64 Q.sl, .int .u32 (Q.d : Int), .int .i64 Q.dl, .int .u16 (Q.p.1 : Int), .int .u16 (Q.p.2 : Int), .int .u16 (Q.q.1 : Int), .int .u16 (Q.q.2 : Int), .int .u8 (Q.m.1 : Int), .int .u8 (Q.m.2 : Int), .int .i64 Q.act] #[.int .i64 Q.i, .int .u32 (Q.s : Int), .int .i64 Q.sl, .int .u32 (Q.d : Int), .int .i64 Q.dl, .int .u16 (Q.p.1 : Int), .int .u16 (Q.p.2 : Int), .int .u16 (Q.q.1 : Int), .int .u16 (Q.q.2 : Int), .int .u8 (Q.m.1 : Int), .int .u8 (Q.m.2 : Int), .int .i64 Q.act] rfl rfl 52 _ hE0 (Nat.le_of_ble_eq_true rfl) rfl (by kernel_rfl) rfl ?_; intro w3 hw3 ho3) | (refine wpList_store_blk rfl 87 (.tmp 7) (.tmp 14) rfl (w2.heap.size + 1) 0 (flatT bg).toArray (flatT bg).toArray rfl rfl 87 _ (only_blk ho3 hE1 (by omega)) (by simp [hfl]) (by simp [hfl]) (by simp only [List.size_toArray, hfl]; kernel_rfl) (by simpa [List.all_eq_true] using hone) ?_; intro w4 hw4 ho4))
  have HB24 : Below w2.heap.size w2 w4 := ((((Below.refl _ _).alloc (Nat.le_refl _) _).alloc (by simp) _).trans (ho3.below (Nat.le_refl _))).trans (ho4.below (Nat.le_succ _))
  have H4R : Hid (RAt w4 R b v L rs.a) := H2R.out.on HB24
  have H4U : Hid (SrcU w4 (.slice uad n ucap) (out.map ruOf)) := H2U.out.keep HB24
  have H4X : Hid (w4.heap[w.heap.size]? = some (.cells #[.int .i64 0, .int .u32 0, .int .i64 0, .int .u32 0, .int .i64 0, .int .u16 0, .int .u16 0, .int .u16 0, .int .u16 0, .int .u8 0, .int .u8 0, .int .i64 0] 52)) := blk_on H2X.out HB24
  have H4T : Hid (w4.heap[w1.heap.size]? = some (.cells #[.int .i64 (fst.k : Int), .string fst.t, .int .u32 (fst.v : Int), .int .i64 (fst.l : Int), .int .i64 (fst.c : Int)] 84)) := blk_on H2T.out HB24
  have H4G : Hid (w4.heap[w2.heap.size]? = some (.cells #[.int .i64 Q.i, .int .u32 (Q.s : Int), .int .i64 Q.sl, .int .u32 (Q.d : Int), .int .i64 Q.dl, .int .u16 (Q.p.1 : Int), .int .u16 (Q.p.2 : Int), .int .u16 (Q.q.1 : Int), .int .u16 (Q.q.2 : Int), .int .u8 (Q.m.1 : Int), .int .u8 (Q.m.2 : Int), .int .i64 Q.act] 52)) := only_blk ho4 hw3 (by omega)
  have H4E : Hid (w4.heap[w2.heap.size + 1]? = some (.cells (flatT bg).toArray 87)) := hw4
  have H4B : Hid (But R w w4) := H2B.out.then HB24
  have z4 : w2.heap.size + 1 + 1 ≤ w4.heap.size := by rw [ho4.size, ho3.size]; simp
  clear HB24 hw3 ho3 hw4 ho4 hE0 hE1 H2R H2U H2X H2T H2B hone
  by_cases k4 : (tkA L rs.a).k = 4
  rotate_left
  · refine (endBad w4 R b rs.a v L H4R.out k4).mono ?_
    rintro e w5 ⟨hB5, F, rfl, hF, hl⟩
    exact ⟨rfl, H4B.out.tr hB5, .inl ⟨by rw [h2 h0 k4]; exact Nat.succ_ne_zero _, F, rfl, by rw [h2 h0 k4]; exact hF, Nat.le_trans H4B.out.size hl⟩⟩
  refine (endOk w4 R b rs.a v L H4R.out k4).mono ?_
  rintro e w5 ⟨hB5, rfl, hR5⟩
  have H5R : Hid (Rdr w5 R v (rs.a + 1)) := hR5
  have H5U : Hid (SrcU w5 (.slice uad n ucap) (out.map ruOf)) := H4U.out.but hB5 hoff
  have H5X : Hid (w5.heap[w.heap.size]? = some (.cells #[.int .i64 0, .int .u32 0, .int .i64 0, .int .u32 0, .int .i64 0, .int .u16 0, .int .u16 0, .int .u16 0, .int .u16 0, .int .u8 0, .int .u8 0, .int .i64 0] 52)) := hB5.blk H4X.out (by omega)
  have H5T : Hid (w5.heap[w1.heap.size]? = some (.cells #[.int .i64 (fst.k : Int), .string fst.t, .int .u32 (fst.v : Int), .int .i64 (fst.l : Int), .int .i64 (fst.c : Int)] 84)) := hB5.blk H4T.out (by omega)
  have H5G : Hid (w5.heap[w2.heap.size]? = some (.cells #[.int .i64 Q.i, .int .u32 (Q.s : Int), .int .i64 Q.sl, .int .u32 (Q.d : Int), .int .i64 Q.dl, .int .u16 (Q.p.1 : Int), .int .u16 (Q.p.2 : Int), .int .u16 (Q.q.1 : Int), .int .u16 (Q.q.2 : Int), .int .u8 (Q.m.1 : Int), .int .u8 (Q.m.2 : Int), .int .i64 Q.act] 52)) := hB5.blk H4G.out (by omega)
  have H5E : Hid (w5.heap[w2.heap.size + 1]? = some (.cells (flatT bg).toArray 87)) := hB5.blk H4E.out (by omega)
  have H5B : Hid (But R w w5) := H4B.out.tr hB5
  have z5 : w4.heap.size ≤ w5.heap.size := hB5.size
  clear hB5 hR5 H4R H4U H4X H4T H4G H4E H4B h2
  have hn0 : (n : Int) ≤ 64 := by omega
  by_cases hm : n = 64
  · have hF3 := h3 h0 k4 hm
    subst hm
    obtain ⟨q0, q1, q2, q3, q4⟩ := blk5 H5T.out
    clear h3 h4 h5 h6
    go_wp2_with (fail)
    refine (hG0 _ _).mono ?_
    rintro e w6 ⟨F, rfl, hF, hl, hb6⟩
    exact ⟨rfl, H5B.out.then hb6, .inl ⟨by rw [hF3]; exact Nat.succ_ne_zero _, F, rfl, by rw [hF3]; exact hF, Nat.le_trans H5B.out.size hl⟩⟩
  have hm' : ¬ (n : Int) = 64 := by omega
  obtain ⟨g0, g1, g2, g3, g4, g5, g6, g7, g8, g9, g10, g11⟩ := blk12 H5G.out
  go_wp2_with (refine wpList_load_blk rfl 87 (.tmp 7) rfl (w2.heap.size + 1) (flatT bg).toArray rfl H5E.out Tryz.underlying87 rfl (by simp only [List.size_toArray, hfl]; kernel_rfl) ?_)
  have bd : BdR Q := by rw [← hQ]; exact hbd.bd
  by_cases hc : (errs Q).1 = 0
  rotate_left
  · have hbd6 := errs_bd Q
    have hact' : 1 ≤ Q.act ∧ Q.act ≤ 4 := by rw [← hQ]; show (1 : Int) ≤ (Rp0.t : Int) ∧ (Rp0.t : Int) ≤ 4; omega
    have h6' := errs_six hact'
    have hp' := errs_pos hc
    obtain ⟨k, hk⟩ : ∃ k : Nat, (errs Q).2 = (k : Int) := ⟨(errs Q).2.toNat, by omega⟩
    have hcn : (chkN Rp0).1 ≠ 0 := by show (errs (ruOf Rp0)).1.toNat ≠ 0; rw [hQ]; omega
    have hce : ((chkN Rp0).1 : Int) = (errs Q).1 := by show ((errs (ruOf Rp0)).1.toNat : Int) = _; rw [hQ]; omega
    have hck : (chkN Rp0).2 = k := by show (errs (ruOf Rp0)).2.toNat = k; rw [hQ]; omega
    have hF4 := h4 h0 k4 hm hcn
    have hbk := hbg k (by omega) (by omega)
    rw [hck] at hF4
    refine (checkRuleBad Q bg w5 bd hc k hk hbl _ hbk).mono ?_
    rintro e w6 ⟨F, rfl, hF, hl, hb6⟩
    exact ⟨rfl, H5B.out.then hb6, .inl ⟨by rw [hF4]; exact hcn, F, rfl, by rw [hF4]; simp only; rw [hce]; exact hF, Nat.le_trans H5B.out.size hl⟩⟩
  have hcn : (chkN Rp0).1 = 0 := by show (errs (ruOf Rp0)).1.toNat = 0; rw [hQ]; omega
  refine (checkRuleOk Q bg w5 bd hc).mono ?_
  rintro e w6 ⟨rfl, hb6⟩
  have H6R : Hid (Rdr w6 R v (rs.a + 1)) := blk_on H5R.out hb6
  have H6U : Hid (SrcU w6 (.slice uad n ucap) (out.map ruOf)) := H5U.out.keep hb6
  have H6X : Hid (w6.heap[w.heap.size]? = some (.cells #[.int .i64 0, .int .u32 0, .int .i64 0, .int .u32 0, .int .i64 0, .int .u16 0, .int .u16 0, .int .u16 0, .int .u16 0, .int .u8 0, .int .u8 0, .int .i64 0] 52)) := blk_on H5X.out hb6
  have H6T : Hid (w6.heap[w1.heap.size]? = some (.cells #[.int .i64 (fst.k : Int), .string fst.t, .int .u32 (fst.v : Int), .int .i64 (fst.l : Int), .int .i64 (fst.c : Int)] 84)) := blk_on H5T.out hb6
  have H6G : Hid (w6.heap[w2.heap.size]? = some (.cells #[.int .i64 Q.i, .int .u32 (Q.s : Int), .int .i64 Q.sl, .int .u32 (Q.d : Int), .int .i64 Q.dl, .int .u16 (Q.p.1 : Int), .int .u16 (Q.p.2 : Int), .int .u16 (Q.q.1 : Int), .int .u16 (Q.q.2 : Int), .int .u8 (Q.m.1 : Int), .int .u8 (Q.m.2 : Int), .int .i64 Q.act] 52)) := blk_on H5G.out hb6
  have H6B : Hid (But R w w6) := H5B.out.then hb6
  have z6 : w5.heap.size ≤ w6.heap.size := hb6.size
  clear hb6 H5R H5U H5X H5T H5G H5E H5B g0 g1 g2 g3 g4 g5 g6 g7 g8 g9 g10 g11 h4 bd hc
  have hI := hasIdC (.slice uad n ucap) (out.map ruOf) Q.i w6 H6U.out (by rw [List.length_map, ← HN.out]; omega)
  have hany : ((out.map ruOf).any fun y => decide (y.i = Q.i)) = out.any fun y => decide (y.i = Rp0.i) := by rw [← hQ]; exact any_map out Rp0.i
  rw [hany] at hI
  have h5 := h5 h0 k4 hm hcn
  have h6 := h6 h0 k4 hm hcn
  obtain ⟨A, hAe⟩ : ∃ A, A = out.any fun y => decide (y.i = Rp0.i) := ⟨_, rfl⟩
  rw [← hAe] at hI h5 h6
  have HQ : Hid (ruOf Rp0 = Q) := hQ
  clear hany hAe hact hbd hbg hQ
  obtain ⟨g0, g1, g2, g3, g4, g5, g6, g7, g8, g9, g10, g11⟩ := blk12 H6G.out
  go_wp2_with (fail)
  refine hI.mono ?_
  rintro e w7 ⟨rfl, hb7⟩
  have H7R : Hid (Rdr w7 R v (rs.a + 1)) := blk_on H6R.out hb7
  have H7X : Hid (w7.heap[w.heap.size]? = some (.cells #[.int .i64 0, .int .u32 0, .int .i64 0, .int .u32 0, .int .i64 0, .int .u16 0, .int .u16 0, .int .u16 0, .int .u16 0, .int .u8 0, .int .u8 0, .int .i64 0] 52)) := blk_on H6X.out hb7
  have H7T : Hid (w7.heap[w1.heap.size]? = some (.cells #[.int .i64 (fst.k : Int), .string fst.t, .int .u32 (fst.v : Int), .int .i64 (fst.l : Int), .int .i64 (fst.c : Int)] 84)) := blk_on H6T.out hb7
  have H7G : Hid (w7.heap[w2.heap.size]? = some (.cells #[.int .i64 Q.i, .int .u32 (Q.s : Int), .int .i64 Q.sl, .int .u32 (Q.d : Int), .int .i64 Q.dl, .int .u16 (Q.p.1 : Int), .int .u16 (Q.p.2 : Int), .int .u16 (Q.q.1 : Int), .int .u16 (Q.q.2 : Int), .int .u8 (Q.m.1 : Int), .int .u8 (Q.m.2 : Int), .int .i64 Q.act] 52)) := blk_on H6G.out hb7
  have H7B : Hid (But R w w7) := H6B.out.then hb7
  clear hb7 H6R H6U H6X H6T H6G H6B g0 g1 g2 g3 g4 g5 g6 g7 g8 g9 g10 g11
  cases A
  rotate_left
  · have hF5 := h5 rfl
    obtain ⟨q0, q1, q2, q3, q4⟩ := blk5 H7T.out
    clear h5 h6
    go_wp2_with (fail)
    refine (hG0 _ _).mono ?_
    rintro e w8 ⟨F, rfl, hF, hl, hb8⟩
    exact ⟨rfl, H7B.out.then hb8, .inl ⟨by rw [hF5]; exact Nat.succ_ne_zero _, F, rfl, by rw [hF5]; exact hF, Nat.le_trans H7B.out.size hl⟩⟩
  have hF6 : Hid (FIN = rs) := h6 rfl
  have HO : Hid (rs.w = ⟨0, 0, 0⟩) := h0
  clear h5 h6 h3 h0
  obtain ⟨g0, g1, g2, g3, g4, g5, g6, g7, g8, g9, g10, g11⟩ := blk12 H7G.out
  go_wp2_with (refine wpList_store_blk rfl 52 (.tmp 4) (.tmp 31) rfl w.heap.size 0 #[.int .i64 Q.i, .int .u32 (Q.s : Int), .int .i64 Q.sl, .int .u32 (Q.d : Int), .int .i64 Q.dl, .int .u16 (Q.p.1 : Int), .int .u16 (Q.p.2 : Int), .int .u16 (Q.q.1 : Int), .int .u16 (Q.q.2 : Int), .int .u8 (Q.m.1 : Int), .int .u8 (Q.m.2 : Int), .int .i64 Q.act] #[.int .i64 Q.i, .int .u32 (Q.s : Int), .int .i64 Q.sl, .int .u32 (Q.d : Int), .int .i64 Q.dl, .int .u16 (Q.p.1 : Int), .int .u16 (Q.p.2 : Int), .int .u16 (Q.q.1 : Int), .int .u16 (Q.q.2 : Int), .int .u8 (Q.m.1 : Int), .int .u8 (Q.m.2 : Int), .int .i64 Q.act] rfl rfl 52 _ H7X.out (Nat.le_of_ble_eq_true rfl) rfl (by kernel_rfl) rfl ?_; intro w8 hw8 ho8)
  exact bodyPost_ret (results_blk Tryz.results24 rfl hw8 Tryz.underlying52 rfl (by kernel_rfl)) rfl ⟨but_newer H7B.out ho8 (Nat.le_refl _), .inr ⟨by rw [hF6.out]; exact HO.out, by rw [HQ.out], by rw [hF6.out]; exact only_blk ho8 H7R.out (by omega)⟩⟩
end Go.Proofs.YtehedlgdencboabGreatDoor
/-
  A command, read. Written by tools/mkSyI.py.
-/
namespace Go.Proofs.YtehedlgdencboabGreatDoor
open Go.RowKit
set_option linter.unusedVariables false
set_option linter.unusedSimpArgs false
variable {zA zC : TypeId × (Nat × Nat)}

/-- The tokens with which an insert's rule begins; of other commands none. -/
def begsC (L : List Tk) (st : Rd) : List Tk := if (kndS L st).1 = 1 then begs L (numS L 4294967295 (kndS L st).2).2 else [tk0, tk0, tk0, tk0, tk0, tk0, tk0, tk0]
theorem knd_e {L : List Tk} {st : Rd} (h : st.w = ⟨0, 0, 0⟩) : (kndS L st).2.w.e ≠ 0 → (kndS L st).1 = 0 := by
  have hw : (wordS L st).2.w = ⟨0, 0, 0⟩ := by unfold wordS; split <;> exact h
  intro hne
  rcases Nat.eq_zero_or_pos (kindOf (wordS L st).1) with c | c
  · exact c
  · exfalso
    apply hne
    unfold kndS
    simp only
    rw [if_neg (by omega), hw]
theorem cmd_k0 {L : List Tk} {st : Rd} (h : (kndS L st).1 = 0) : (cmdS L st).2.2 = (kndS L st).2 := by
  have h' : kindOf (wordS L st).1 = 0 := h
  unfold cmdS kndS
  simp only
  rw [if_pos h', if_pos h']
theorem cmd_k1 {L : List Tk} {st : Rd} (h : (kndS L st).1 = 1) : cmdS L st = (⟨1, (numS L 4294967295 (kndS L st).2).1, 0, (ruleS L (numS L 4294967295 (kndS L st).2).2).1, (0, 0, 0, 0, 0)⟩, (ruleS L (numS L 4294967295 (kndS L st).2).2).2.1, (ruleS L (numS L 4294967295 (kndS L st).2).2).2.2) := by
  have h' : kindOf (wordS L st).1 = 1 := h
  unfold cmdS kndS
  simp only
  rw [if_neg (by omega), if_pos h', if_neg (by omega)]
theorem cmd_k2 {L : List Tk} {st : Rd} (h : (kndS L st).1 = 2) : cmdS L st = (⟨2, 0, (numS L 4294967295 (kndS L st).2).1, rp0, (0, 0, 0, 0, 0)⟩, [], (numS L 4294967295 (kndS L st).2).2) := by
  have h' : kindOf (wordS L st).1 = 2 := h
  unfold cmdS kndS
  simp only
  rw [if_neg (by omega), if_neg (by omega), if_pos h', if_neg (by omega)]
theorem cmd_k3 {L : List Tk} {st : Rd} (h : (kndS L st).1 = 3) : cmdS L st = (⟨3, (numS L 4294967295 (numS L 4294967295 (kndS L st).2).2).1, (numS L 4294967295 (kndS L st).2).1, rp0, (0, 0, 0, 0, 0)⟩, [], (numS L 4294967295 (numS L 4294967295 (kndS L st).2).2).2) := by
  have h' : kindOf (wordS L st).1 = 3 := h
  unfold cmdS kndS
  simp only
  rw [if_neg (by omega), if_neg (by omega), if_neg (by omega), if_pos h', if_neg (by omega)]
theorem cmd_k4 {L : List Tk} {st : Rd} (h : (kndS L st).1 = 4) : cmdS L st = (⟨4, 0, 0, rp0, (headS L (kndS L st).2).1⟩, [], (headS L (kndS L st).2).2) := by
  have h' : kindOf (wordS L st).1 = 4 := h
  unfold cmdS kndS
  simp only
  rw [if_neg (by omega), if_neg (by omega), if_neg (by omega), if_neg (by omega), if_pos h', if_neg (by omega)]
theorem cmd_k5 {L : List Tk} {st : Rd} {k : Nat} (h : (kndS L st).1 = k) (h5 : 5 ≤ k) : cmdS L st = (cm0 k, [], (kndS L st).2) := by
  have h' : kindOf (wordS L st).1 = k := h
  unfold cmdS kndS
  simp only
  rw [if_neg (by omega), if_neg (by omega), if_neg (by omega), if_neg (by omega), if_neg (by omega), if_neg (by omega), h']
theorem knd_le (L : List Tk) (st : Rd) : (kndS L st).1 ≤ 10 := kind_le _
theorem wrong_w0 {L : List Tk} {e i : Nat} {st : Rd} (h : st.w = ⟨0, 0, 0⟩) : (wrongS L e i st).w = ⟨e, (tkA L i).l, (tkA L i).c⟩ := by rw [wrongS_at h]
set_option maxRecDepth 20000 in
set_option maxHeartbeats 16000000 in
theorem command0 (w : World) (R b : Nat) (v : Value) (L : List Tk) (st : Rd) (hw : st.w = ⟨0, 0, 0⟩) (h : RAt w R b v L st.a) (hA : ActAt zA w) (hC : CmdAt zC w) (hgR : 8 < R) (hk : (kndS L st).1 = 0) :
    Calls Tryz.prog 33 #[.pointer (some ⟨R, 0, none⟩)] w fun e w' => Out w R b v L (.tuple #[.agg #[.int .i64 (cvOf (cmdS L st).1).k, .int .i64 (cvOf (cmdS L st).1).n, .int .i64 (cvOf (cmdS L st).1).i, .int .i64 (cvOf (cmdS L st).1).r.i, .int .u32 ((cvOf (cmdS L st).1).r.s : Int), .int .i64 (cvOf (cmdS L st).1).r.sl, .int .u32 ((cvOf (cmdS L st).1).r.d : Int), .int .i64 (cvOf (cmdS L st).1).r.dl, .int .u16 ((cvOf (cmdS L st).1).r.p.1 : Int), .int .u16 ((cvOf (cmdS L st).1).r.p.2 : Int), .int .u16 ((cvOf (cmdS L st).1).r.q.1 : Int), .int .u16 ((cvOf (cmdS L st).1).r.q.2 : Int), .int .u8 ((cvOf (cmdS L st).1).r.m.1 : Int), .int .u8 ((cvOf (cmdS L st).1).r.m.2 : Int), .int .i64 (cvOf (cmdS L st).1).r.act, .int .u32 ((cvOf (cmdS L st).1).h.1 : Int), .int .u32 ((cvOf (cmdS L st).1).h.2.1 : Int), .int .u16 ((cvOf (cmdS L st).1).h.2.2.1 : Int), .int .u16 ((cvOf (cmdS L st).1).h.2.2.2.1 : Int), .int .u8 ((cvOf (cmdS L st).1).h.2.2.2.2 : Int)], .agg (flatT (begsC L st)).toArray]) (cmdS L st).2.2 e w' := by
  have HT : Hid (Old w.heap.size v) := h.old
  have hK : ∀ W : World, RAt W R b v L st.a → CmdAt zC W → Calls Tryz.prog 58 #[.pointer (some ⟨R, 0, none⟩)] W _ := fun W hW hX => commandKindS W R b v L st hw hW hX
  have hD := cmd_k0 hk
  have hKe : (kndS L st).2.w.e ≠ 0 := by
    have hwrd : (wordS L st).2.w = ⟨0, 0, 0⟩ := by unfold wordS; split <;> exact hw
    have c : kindOf (wordS L st).1 = 0 := hk
    unfold kndS
    simp only
    rw [if_pos c, wrong_w0 hwrd]
    exact Nat.succ_ne_zero _
  have HBad0 : Hid ((kndS L st).2.w.e ≠ 0 → (cmdS L st).2.2 = (kndS L st).2) := fun _ => hD
  generalize cmdS L st = P at *
  generalize kndS L st = S0 at *
  clear hk hD
  obtain ⟨W0, hW0⟩ : ∃ W0, W0 = ((w.alloc (.cells #[.int .i64 0, .int .i64 0, .int .i64 0, .int .i64 0, .int .u32 0, .int .i64 0, .int .u32 0, .int .i64 0, .int .u16 0, .int .u16 0, .int .u16 0, .int .u16 0, .int .u8 0, .int .u8 0, .int .i64 0, .int .u32 0, .int .u32 0, .int .u16 0, .int .u16 0, .int .u8 0] 61)).alloc (.cells #[.int .i64 0, .string ⟨#[]⟩, .int .u32 0, .int .i64 0, .int .i64 0, .int .i64 0, .string ⟨#[]⟩, .int .u32 0, .int .i64 0, .int .i64 0, .int .i64 0, .string ⟨#[]⟩, .int .u32 0, .int .i64 0, .int .i64 0, .int .i64 0, .string ⟨#[]⟩, .int .u32 0, .int .i64 0, .int .i64 0, .int .i64 0, .string ⟨#[]⟩, .int .u32 0, .int .i64 0, .int .i64 0, .int .i64 0, .string ⟨#[]⟩, .int .u32 0, .int .i64 0, .int .i64 0, .int .i64 0, .string ⟨#[]⟩, .int .u32 0, .int .i64 0, .int .i64 0, .int .i64 0, .string ⟨#[]⟩, .int .u32 0, .int .i64 0, .int .i64 0] 87)) := ⟨_, rfl⟩
  have hBel : Below w.heap.size w W0 := by rw [hW0]; (repeat (first | assumption | exact Below.refl _ _ | refine Below.drew ?_ | refine bel_drewN ?_ _ | refine Below.setCell ?_ (by first | omega | (simp; done) | (simp; omega)) _ | refine Below.alloc ?_ (by first | omega | (simp; done) | (simp; omega)) _ | refine bel_of ?_ (by assumption)))
  have HX : Hid (W0.heap[w.heap.size]? = some (.cells #[.int .i64 0, .int .i64 0, .int .i64 0, .int .i64 0, .int .u32 0, .int .i64 0, .int .u32 0, .int .i64 0, .int .u16 0, .int .u16 0, .int .u16 0, .int .u16 0, .int .u8 0, .int .u8 0, .int .i64 0, .int .u32 0, .int .u32 0, .int .u16 0, .int .u16 0, .int .u8 0] 61)) := by show _ = _; rw [hW0]; exact (blk_alloc (blk_new w (.cells #[.int .i64 0, .int .i64 0, .int .i64 0, .int .i64 0, .int .u32 0, .int .i64 0, .int .u32 0, .int .i64 0, .int .u16 0, .int .u16 0, .int .u16 0, .int .u16 0, .int .u8 0, .int .u8 0, .int .i64 0, .int .u32 0, .int .u32 0, .int .u16 0, .int .u16 0, .int .u8 0] 61)) _)
  have HY : Hid (W0.heap[w.heap.size + 1]? = some (.cells (flatT [tk0, tk0, tk0, tk0, tk0, tk0, tk0, tk0]).toArray 87)) := by show _ = _; rw [hW0]; exact (blk_newN (by simp) _)
  have hlR : R < w.heap.size := blk_lt h.r
  have HR : Hid (RAt W0 R b v L st.a) := h.on hBel
  have HB : Hid (But R w W0) := But.of hBel
  have HO : Hid (st.w = ⟨0, 0, 0⟩) := hw
  have HZ : Hid (w.heap.size + 1 + 1 ≤ W0.heap.size) := by show _ ≤ _; rw [hW0]; simp
  clear hBel h hw
  have HC : Hid (CmdAt zC W0) := by show _ = _; rw [hW0]; exact blk_alloc (blk_alloc hC _) _
  clear hA hC
  go_enter Tryz.func33, Tryz.ntmps33
  go_upto_region 1 with (fail)
  rw [← hW0]
  clear hW0
  go_wp2_with (fail)
  refine (hK _ HR.out HC.out).mono ?_
  rintro e w1 ⟨hB, ⟨hne, F, rfl, hF, hl⟩ | ⟨h0, rfl, hR⟩⟩
  · exact ⟨rfl, by rw [HBad0.out hne]; exact out_bad HB.out hB hne ⟨F, rfl, hF, hl⟩⟩
  · exact absurd (by rw [h0]) hKe
set_option maxRecDepth 20000 in
set_option maxHeartbeats 16000000 in
theorem command1 (w : World) (R b : Nat) (v : Value) (L : List Tk) (st : Rd) (hw : st.w = ⟨0, 0, 0⟩) (h : RAt w R b v L st.a) (hA : ActAt zA w) (hC : CmdAt zC w) (hgR : 8 < R) (hk : (kndS L st).1 = 1) :
    Calls Tryz.prog 33 #[.pointer (some ⟨R, 0, none⟩)] w fun e w' => Out w R b v L (.tuple #[.agg #[.int .i64 (cvOf (cmdS L st).1).k, .int .i64 (cvOf (cmdS L st).1).n, .int .i64 (cvOf (cmdS L st).1).i, .int .i64 (cvOf (cmdS L st).1).r.i, .int .u32 ((cvOf (cmdS L st).1).r.s : Int), .int .i64 (cvOf (cmdS L st).1).r.sl, .int .u32 ((cvOf (cmdS L st).1).r.d : Int), .int .i64 (cvOf (cmdS L st).1).r.dl, .int .u16 ((cvOf (cmdS L st).1).r.p.1 : Int), .int .u16 ((cvOf (cmdS L st).1).r.p.2 : Int), .int .u16 ((cvOf (cmdS L st).1).r.q.1 : Int), .int .u16 ((cvOf (cmdS L st).1).r.q.2 : Int), .int .u8 ((cvOf (cmdS L st).1).r.m.1 : Int), .int .u8 ((cvOf (cmdS L st).1).r.m.2 : Int), .int .i64 (cvOf (cmdS L st).1).r.act, .int .u32 ((cvOf (cmdS L st).1).h.1 : Int), .int .u32 ((cvOf (cmdS L st).1).h.2.1 : Int), .int .u16 ((cvOf (cmdS L st).1).h.2.2.1 : Int), .int .u16 ((cvOf (cmdS L st).1).h.2.2.2.1 : Int), .int .u8 ((cvOf (cmdS L st).1).h.2.2.2.2 : Int)], .agg (flatT (begsC L st)).toArray]) (cmdS L st).2.2 e w' := by
  have HT : Hid (Old w.heap.size v) := h.old
  have hK : ∀ W : World, RAt W R b v L st.a → CmdAt zC W → Calls Tryz.prog 58 #[.pointer (some ⟨R, 0, none⟩)] W _ := fun W hW hX => commandKindS W R b v L st hw hW hX
  have hKe := @knd_e L st hw
  have hD := @cmd_k1 L st hk
  have hBg : begsC L st = begs L (numS L 4294967295 (kndS L st).2).2 := by unfold begsC; rw [if_pos hk]
  rw [hBg]
  clear hBg
  have HD : Hid _ := hD
  clear hD
  generalize cmdS L st = P at *
  generalize kndS L st = S0 at *
  obtain ⟨kk, s0⟩ := S0
  simp only at hk HD hK hKe ⊢
  subst hk
  have hK0 : s0.w.e = 0 := by rcases Nat.eq_zero_or_pos s0.w.e with c | c; exact c; exact absurd (hKe (by omega)) (by omega)
  have HBad0 : Hid (s0.w.e ≠ 0 → P.2.2 = s0) := fun hne => absurd hK0 hne
  clear hKe hK0
  have hc0 : ∀ W : World, s0.w = ⟨0, 0, 0⟩ → RAt W R b v L s0.a → Calls Tryz.prog 59 #[.pointer (some ⟨R, 0, none⟩)] W _ := fun W h0 hW => anyNumberC W R b v L s0 h0 hW
  have HS0 : Hid (s0.w.e ≠ 0 → (numS L 4294967295 s0).2 = s0) := fun h => by rw [num_st h]
  generalize numS L 4294967295 s0 = r0 at *
  have hc1 : ∀ W : World, r0.2.w = ⟨0, 0, 0⟩ → RAt W R b v L r0.2.a → ActAt zA W → Calls Tryz.prog 41 #[.pointer (some ⟨R, 0, none⟩)] W _ := fun W h0 hW hA => ruleC W R b v L r0.2 h0 hW hA hgR
  have HS1 : Hid (r0.2.w.e ≠ 0 → (ruleS L r0.2).2.2 = r0.2) := fun h => rule_st h
  have hbl : (begs L r0.2).length = 8 := rfl
  generalize begs L r0.2 = bg at *
  generalize ruleS L r0.2 = r1 at *
  have HBad1 : Hid (r0.2.w.e ≠ 0 → P.2.2 = r0.2) := fun hne => by have e1 : r1.2.2 = r0.2 := HS1.out hne; rw [HD.out]; exact e1
  have HBad2 : Hid (r1.2.2.w.e ≠ 0 → P.2.2 = r1.2.2) := fun hne => by rw [HD.out]
  obtain ⟨W0, hW0⟩ : ∃ W0, W0 = ((w.alloc (.cells #[.int .i64 0, .int .i64 0, .int .i64 0, .int .i64 0, .int .u32 0, .int .i64 0, .int .u32 0, .int .i64 0, .int .u16 0, .int .u16 0, .int .u16 0, .int .u16 0, .int .u8 0, .int .u8 0, .int .i64 0, .int .u32 0, .int .u32 0, .int .u16 0, .int .u16 0, .int .u8 0] 61)).alloc (.cells #[.int .i64 0, .string ⟨#[]⟩, .int .u32 0, .int .i64 0, .int .i64 0, .int .i64 0, .string ⟨#[]⟩, .int .u32 0, .int .i64 0, .int .i64 0, .int .i64 0, .string ⟨#[]⟩, .int .u32 0, .int .i64 0, .int .i64 0, .int .i64 0, .string ⟨#[]⟩, .int .u32 0, .int .i64 0, .int .i64 0, .int .i64 0, .string ⟨#[]⟩, .int .u32 0, .int .i64 0, .int .i64 0, .int .i64 0, .string ⟨#[]⟩, .int .u32 0, .int .i64 0, .int .i64 0, .int .i64 0, .string ⟨#[]⟩, .int .u32 0, .int .i64 0, .int .i64 0, .int .i64 0, .string ⟨#[]⟩, .int .u32 0, .int .i64 0, .int .i64 0] 87)) := ⟨_, rfl⟩
  have hBel : Below w.heap.size w W0 := by rw [hW0]; (repeat (first | assumption | exact Below.refl _ _ | refine Below.drew ?_ | refine bel_drewN ?_ _ | refine Below.setCell ?_ (by first | omega | (simp; done) | (simp; omega)) _ | refine Below.alloc ?_ (by first | omega | (simp; done) | (simp; omega)) _ | refine bel_of ?_ (by assumption)))
  have HX : Hid (W0.heap[w.heap.size]? = some (.cells #[.int .i64 0, .int .i64 0, .int .i64 0, .int .i64 0, .int .u32 0, .int .i64 0, .int .u32 0, .int .i64 0, .int .u16 0, .int .u16 0, .int .u16 0, .int .u16 0, .int .u8 0, .int .u8 0, .int .i64 0, .int .u32 0, .int .u32 0, .int .u16 0, .int .u16 0, .int .u8 0] 61)) := by show _ = _; rw [hW0]; exact (blk_alloc (blk_new w (.cells #[.int .i64 0, .int .i64 0, .int .i64 0, .int .i64 0, .int .u32 0, .int .i64 0, .int .u32 0, .int .i64 0, .int .u16 0, .int .u16 0, .int .u16 0, .int .u16 0, .int .u8 0, .int .u8 0, .int .i64 0, .int .u32 0, .int .u32 0, .int .u16 0, .int .u16 0, .int .u8 0] 61)) _)
  have HY : Hid (W0.heap[w.heap.size + 1]? = some (.cells (flatT [tk0, tk0, tk0, tk0, tk0, tk0, tk0, tk0]).toArray 87)) := by show _ = _; rw [hW0]; exact (blk_newN (by simp) _)
  have hlR : R < w.heap.size := blk_lt h.r
  have HR : Hid (RAt W0 R b v L st.a) := h.on hBel
  have HB : Hid (But R w W0) := But.of hBel
  have HO : Hid (st.w = ⟨0, 0, 0⟩) := hw
  have HZ : Hid (w.heap.size + 1 + 1 ≤ W0.heap.size) := by show _ ≤ _; rw [hW0]; simp
  clear hBel h hw
  have HA : Hid (W0.heap[1]? = some (.cells #[.string (aW 0), .string (aW 1), .string (aW 2), .string (aW 3), .string (aW 4)] zA.1 zA.2)) := by show _ = _; rw [hW0]; exact blk_alloc (blk_alloc hA _) _
  have HC : Hid (W0.heap[0]? = some (.cells #[.string (cW 0), .string (cW 1), .string (cW 2), .string (cW 3), .string (cW 4), .string (cW 5), .string (cW 6), .string (cW 7), .string (cW 8), .string (cW 9), .string (cW 10)] zC.1 zC.2)) := by show _ = _; rw [hW0]; exact blk_alloc (blk_alloc hC _) _
  clear hA hC
  go_enter Tryz.func33, Tryz.ntmps33
  go_upto_region 1 with (fail)
  rw [← hW0]
  clear hW0
  go_wp2_with (fail)
  refine (hK _ HR.out HC.out).mono ?_
  rintro e w1 ⟨hB, ⟨hne, F, rfl, hF, hl⟩ | ⟨h0, rfl, hR⟩⟩
  · exact ⟨rfl, by rw [HBad0.out hne]; exact out_bad HB.out hB hne ⟨F, rfl, hF, hl⟩⟩
  have GX : Hid (w1.heap[w.heap.size]? = some (.cells #[.int .i64 0, .int .i64 0, .int .i64 0, .int .i64 0, .int .u32 0, .int .i64 0, .int .u32 0, .int .i64 0, .int .u16 0, .int .u16 0, .int .u16 0, .int .u16 0, .int .u8 0, .int .u8 0, .int .i64 0, .int .u32 0, .int .u32 0, .int .u16 0, .int .u16 0, .int .u8 0] 61)) := But.blk hB HX.out (by omega)
  have GY : Hid (w1.heap[w.heap.size + 1]? = some (.cells (flatT [tk0, tk0, tk0, tk0, tk0, tk0, tk0, tk0]).toArray 87)) := But.blk hB HY.out (by omega)
  have GA : Hid (w1.heap[1]? = some (.cells #[.string (aW 0), .string (aW 1), .string (aW 2), .string (aW 3), .string (aW 4)] zA.1 zA.2)) := But.blk hB HA.out (by omega)
  have GC : Hid (w1.heap[0]? = some (.cells #[.string (cW 0), .string (cW 1), .string (cW 2), .string (cW 3), .string (cW 4), .string (cW 5), .string (cW 6), .string (cW 7), .string (cW 8), .string (cW 9), .string (cW 10)] zC.1 zC.2)) := But.blk hB HC.out (by omega)
  clear HX HY HA HC
  have HX := GX
  clear GX
  have HY := GY
  clear GY
  have HA := GA
  clear GA
  have HC := GC
  clear GC
  have HZ2 : Hid (w.heap.size + 1 + 1 ≤ w1.heap.size) := Nat.le_trans HZ.out hB.size
  have HB2 : Hid (But R w w1) := HB.out.tr hB
  clear HB HR HO HZ
  have HZ := HZ2
  have HB := HB2
  have HO : Hid (s0.w = ⟨0, 0, 0⟩) := h0
  have HR : Hid (RAt w1 R b v L s0.a) := hR
  clear HZ2 HB2 h0 hR hB
  go_upto_region 3 with (refine wpList_store_blk rfl 61 (.tmp 4) (.tmp 8) rfl w1.heap.size 0 #[.int .i64 1, .int .i64 0, .int .i64 0, .int .i64 0, .int .u32 0, .int .i64 0, .int .u32 0, .int .i64 0, .int .u16 0, .int .u16 0, .int .u16 0, .int .u16 0, .int .u8 0, .int .u8 0, .int .i64 0, .int .u32 0, .int .u32 0, .int .u16 0, .int .u16 0, .int .u8 0] #[.int .i64 1, .int .i64 0, .int .i64 0, .int .i64 0, .int .u32 0, .int .i64 0, .int .u32 0, .int .i64 0, .int .u16 0, .int .u16 0, .int .u16 0, .int .u16 0, .int .u8 0, .int .u8 0, .int .i64 0, .int .u32 0, .int .u32 0, .int .u16 0, .int .u16 0, .int .u8 0] rfl rfl 61 _ (blk_new w1 (.cells #[.int .i64 0, .int .i64 0, .int .i64 0, .int .i64 0, .int .u32 0, .int .i64 0, .int .u32 0, .int .i64 0, .int .u16 0, .int .u16 0, .int .u16 0, .int .u16 0, .int .u8 0, .int .u8 0, .int .i64 0, .int .u32 0, .int .u32 0, .int .u16 0, .int .u16 0, .int .u8 0] 61)) (Nat.le_of_ble_eq_true rfl) rfl (by kernel_rfl) rfl ?_; intro wg hwg hog)
  have hbel : Below w1.heap.size w1 (wg.alloc (.cells #[.int .i64 0, .string ⟨#[]⟩, .int .u32 0, .int .i64 0, .int .i64 0, .int .i64 0, .string ⟨#[]⟩, .int .u32 0, .int .i64 0, .int .i64 0, .int .i64 0, .string ⟨#[]⟩, .int .u32 0, .int .i64 0, .int .i64 0, .int .i64 0, .string ⟨#[]⟩, .int .u32 0, .int .i64 0, .int .i64 0, .int .i64 0, .string ⟨#[]⟩, .int .u32 0, .int .i64 0, .int .i64 0, .int .i64 0, .string ⟨#[]⟩, .int .u32 0, .int .i64 0, .int .i64 0, .int .i64 0, .string ⟨#[]⟩, .int .u32 0, .int .i64 0, .int .i64 0, .int .i64 0, .string ⟨#[]⟩, .int .u32 0, .int .i64 0, .int .i64 0] 87)) := (((Below.refl _ _).alloc (Nat.le_refl _) _).trans (hog.below (Nat.le_refl _))).alloc (by rw [hog.size]; simp) _
  have zg : wg.heap.size = w1.heap.size + 1 := by rw [hog.size]; simp
  have zg1 : wg.heap.size ≤ w1.heap.size + 1 := Nat.le_of_eq zg
  have zg2 : w1.heap.size + 1 ≤ wg.heap.size := Nat.le_of_eq zg.symm
  have zw : w.heap.size + 1 + 1 ≤ w1.heap.size := HZ.out
  have GX : Hid ((wg.alloc (.cells #[.int .i64 0, .string ⟨#[]⟩, .int .u32 0, .int .i64 0, .int .i64 0, .int .i64 0, .string ⟨#[]⟩, .int .u32 0, .int .i64 0, .int .i64 0, .int .i64 0, .string ⟨#[]⟩, .int .u32 0, .int .i64 0, .int .i64 0, .int .i64 0, .string ⟨#[]⟩, .int .u32 0, .int .i64 0, .int .i64 0, .int .i64 0, .string ⟨#[]⟩, .int .u32 0, .int .i64 0, .int .i64 0, .int .i64 0, .string ⟨#[]⟩, .int .u32 0, .int .i64 0, .int .i64 0, .int .i64 0, .string ⟨#[]⟩, .int .u32 0, .int .i64 0, .int .i64 0, .int .i64 0, .string ⟨#[]⟩, .int .u32 0, .int .i64 0, .int .i64 0] 87)).heap[w.heap.size]? = some (.cells #[.int .i64 0, .int .i64 0, .int .i64 0, .int .i64 0, .int .u32 0, .int .i64 0, .int .u32 0, .int .i64 0, .int .u16 0, .int .u16 0, .int .u16 0, .int .u16 0, .int .u8 0, .int .u8 0, .int .i64 0, .int .u32 0, .int .u32 0, .int .u16 0, .int .u16 0, .int .u8 0] 61)) := blk_on HX.out hbel
  have GY : Hid ((wg.alloc (.cells #[.int .i64 0, .string ⟨#[]⟩, .int .u32 0, .int .i64 0, .int .i64 0, .int .i64 0, .string ⟨#[]⟩, .int .u32 0, .int .i64 0, .int .i64 0, .int .i64 0, .string ⟨#[]⟩, .int .u32 0, .int .i64 0, .int .i64 0, .int .i64 0, .string ⟨#[]⟩, .int .u32 0, .int .i64 0, .int .i64 0, .int .i64 0, .string ⟨#[]⟩, .int .u32 0, .int .i64 0, .int .i64 0, .int .i64 0, .string ⟨#[]⟩, .int .u32 0, .int .i64 0, .int .i64 0, .int .i64 0, .string ⟨#[]⟩, .int .u32 0, .int .i64 0, .int .i64 0, .int .i64 0, .string ⟨#[]⟩, .int .u32 0, .int .i64 0, .int .i64 0] 87)).heap[w.heap.size + 1]? = some (.cells (flatT [tk0, tk0, tk0, tk0, tk0, tk0, tk0, tk0]).toArray 87)) := blk_on HY.out hbel
  have GA : Hid ((wg.alloc (.cells #[.int .i64 0, .string ⟨#[]⟩, .int .u32 0, .int .i64 0, .int .i64 0, .int .i64 0, .string ⟨#[]⟩, .int .u32 0, .int .i64 0, .int .i64 0, .int .i64 0, .string ⟨#[]⟩, .int .u32 0, .int .i64 0, .int .i64 0, .int .i64 0, .string ⟨#[]⟩, .int .u32 0, .int .i64 0, .int .i64 0, .int .i64 0, .string ⟨#[]⟩, .int .u32 0, .int .i64 0, .int .i64 0, .int .i64 0, .string ⟨#[]⟩, .int .u32 0, .int .i64 0, .int .i64 0, .int .i64 0, .string ⟨#[]⟩, .int .u32 0, .int .i64 0, .int .i64 0, .int .i64 0, .string ⟨#[]⟩, .int .u32 0, .int .i64 0, .int .i64 0] 87)).heap[1]? = some (.cells #[.string (aW 0), .string (aW 1), .string (aW 2), .string (aW 3), .string (aW 4)] zA.1 zA.2)) := blk_on HA.out hbel
  have GC : Hid ((wg.alloc (.cells #[.int .i64 0, .string ⟨#[]⟩, .int .u32 0, .int .i64 0, .int .i64 0, .int .i64 0, .string ⟨#[]⟩, .int .u32 0, .int .i64 0, .int .i64 0, .int .i64 0, .string ⟨#[]⟩, .int .u32 0, .int .i64 0, .int .i64 0, .int .i64 0, .string ⟨#[]⟩, .int .u32 0, .int .i64 0, .int .i64 0, .int .i64 0, .string ⟨#[]⟩, .int .u32 0, .int .i64 0, .int .i64 0, .int .i64 0, .string ⟨#[]⟩, .int .u32 0, .int .i64 0, .int .i64 0, .int .i64 0, .string ⟨#[]⟩, .int .u32 0, .int .i64 0, .int .i64 0, .int .i64 0, .string ⟨#[]⟩, .int .u32 0, .int .i64 0, .int .i64 0] 87)).heap[0]? = some (.cells #[.string (cW 0), .string (cW 1), .string (cW 2), .string (cW 3), .string (cW 4), .string (cW 5), .string (cW 6), .string (cW 7), .string (cW 8), .string (cW 9), .string (cW 10)] zC.1 zC.2)) := blk_on HC.out hbel
  have HG : Hid ((wg.alloc (.cells #[.int .i64 0, .string ⟨#[]⟩, .int .u32 0, .int .i64 0, .int .i64 0, .int .i64 0, .string ⟨#[]⟩, .int .u32 0, .int .i64 0, .int .i64 0, .int .i64 0, .string ⟨#[]⟩, .int .u32 0, .int .i64 0, .int .i64 0, .int .i64 0, .string ⟨#[]⟩, .int .u32 0, .int .i64 0, .int .i64 0, .int .i64 0, .string ⟨#[]⟩, .int .u32 0, .int .i64 0, .int .i64 0, .int .i64 0, .string ⟨#[]⟩, .int .u32 0, .int .i64 0, .int .i64 0, .int .i64 0, .string ⟨#[]⟩, .int .u32 0, .int .i64 0, .int .i64 0, .int .i64 0, .string ⟨#[]⟩, .int .u32 0, .int .i64 0, .int .i64 0] 87)).heap[w1.heap.size]? = some (.cells #[.int .i64 1, .int .i64 0, .int .i64 0, .int .i64 0, .int .u32 0, .int .i64 0, .int .u32 0, .int .i64 0, .int .u16 0, .int .u16 0, .int .u16 0, .int .u16 0, .int .u8 0, .int .u8 0, .int .i64 0, .int .u32 0, .int .u32 0, .int .u16 0, .int .u16 0, .int .u8 0] 61)) := blk_alloc hwg _
  have HE : Hid ((wg.alloc (.cells #[.int .i64 0, .string ⟨#[]⟩, .int .u32 0, .int .i64 0, .int .i64 0, .int .i64 0, .string ⟨#[]⟩, .int .u32 0, .int .i64 0, .int .i64 0, .int .i64 0, .string ⟨#[]⟩, .int .u32 0, .int .i64 0, .int .i64 0, .int .i64 0, .string ⟨#[]⟩, .int .u32 0, .int .i64 0, .int .i64 0, .int .i64 0, .string ⟨#[]⟩, .int .u32 0, .int .i64 0, .int .i64 0, .int .i64 0, .string ⟨#[]⟩, .int .u32 0, .int .i64 0, .int .i64 0, .int .i64 0, .string ⟨#[]⟩, .int .u32 0, .int .i64 0, .int .i64 0, .int .i64 0, .string ⟨#[]⟩, .int .u32 0, .int .i64 0, .int .i64 0] 87)).heap[wg.heap.size]? = some (.cells (flatT [tk0, tk0, tk0, tk0, tk0, tk0, tk0, tk0]).toArray 87)) := blk_new wg _
  have HR2 : Hid (RAt (wg.alloc (.cells #[.int .i64 0, .string ⟨#[]⟩, .int .u32 0, .int .i64 0, .int .i64 0, .int .i64 0, .string ⟨#[]⟩, .int .u32 0, .int .i64 0, .int .i64 0, .int .i64 0, .string ⟨#[]⟩, .int .u32 0, .int .i64 0, .int .i64 0, .int .i64 0, .string ⟨#[]⟩, .int .u32 0, .int .i64 0, .int .i64 0, .int .i64 0, .string ⟨#[]⟩, .int .u32 0, .int .i64 0, .int .i64 0, .int .i64 0, .string ⟨#[]⟩, .int .u32 0, .int .i64 0, .int .i64 0, .int .i64 0, .string ⟨#[]⟩, .int .u32 0, .int .i64 0, .int .i64 0, .int .i64 0, .string ⟨#[]⟩, .int .u32 0, .int .i64 0, .int .i64 0] 87)) R b v L s0.a) := HR.out.on hbel
  have HB2 : Hid (But R w (wg.alloc (.cells #[.int .i64 0, .string ⟨#[]⟩, .int .u32 0, .int .i64 0, .int .i64 0, .int .i64 0, .string ⟨#[]⟩, .int .u32 0, .int .i64 0, .int .i64 0, .int .i64 0, .string ⟨#[]⟩, .int .u32 0, .int .i64 0, .int .i64 0, .int .i64 0, .string ⟨#[]⟩, .int .u32 0, .int .i64 0, .int .i64 0, .int .i64 0, .string ⟨#[]⟩, .int .u32 0, .int .i64 0, .int .i64 0, .int .i64 0, .string ⟨#[]⟩, .int .u32 0, .int .i64 0, .int .i64 0, .int .i64 0, .string ⟨#[]⟩, .int .u32 0, .int .i64 0, .int .i64 0, .int .i64 0, .string ⟨#[]⟩, .int .u32 0, .int .i64 0, .int .i64 0] 87))) := HB.out.then hbel
  have HZ2 : Hid (w.heap.size + 1 + 1 ≤ (wg.alloc (.cells #[.int .i64 0, .string ⟨#[]⟩, .int .u32 0, .int .i64 0, .int .i64 0, .int .i64 0, .string ⟨#[]⟩, .int .u32 0, .int .i64 0, .int .i64 0, .int .i64 0, .string ⟨#[]⟩, .int .u32 0, .int .i64 0, .int .i64 0, .int .i64 0, .string ⟨#[]⟩, .int .u32 0, .int .i64 0, .int .i64 0, .int .i64 0, .string ⟨#[]⟩, .int .u32 0, .int .i64 0, .int .i64 0, .int .i64 0, .string ⟨#[]⟩, .int .u32 0, .int .i64 0, .int .i64 0, .int .i64 0, .string ⟨#[]⟩, .int .u32 0, .int .i64 0, .int .i64 0, .int .i64 0, .string ⟨#[]⟩, .int .u32 0, .int .i64 0, .int .i64 0] 87)).heap.size) := Nat.le_trans HZ.out hbel.size
  clear HR HB HZ hbel zg hwg hog HX HY HA HC
  have HR := HR2
  have HB := HB2
  have HZ := HZ2
  have HX := GX
  have HY := GY
  have HA := GA
  have HC := GC
  clear HR2 HB2 HZ2 GX GY GA GC
  generalize hWg : wg.alloc (.cells #[.int .i64 0, .string ⟨#[]⟩, .int .u32 0, .int .i64 0, .int .i64 0, .int .i64 0, .string ⟨#[]⟩, .int .u32 0, .int .i64 0, .int .i64 0, .int .i64 0, .string ⟨#[]⟩, .int .u32 0, .int .i64 0, .int .i64 0, .int .i64 0, .string ⟨#[]⟩, .int .u32 0, .int .i64 0, .int .i64 0, .int .i64 0, .string ⟨#[]⟩, .int .u32 0, .int .i64 0, .int .i64 0, .int .i64 0, .string ⟨#[]⟩, .int .u32 0, .int .i64 0, .int .i64 0, .int .i64 0, .string ⟨#[]⟩, .int .u32 0, .int .i64 0, .int .i64 0, .int .i64 0, .string ⟨#[]⟩, .int .u32 0, .int .i64 0, .int .i64 0] 87) = Wg at *
  clear hWg
  have q0 : Wg.cell? ⟨w1.heap.size, 0, none⟩ = some (.int .i64 1) := blk_cell HG.out rfl
  go_wp2_with (fail)
  refine (hc0 _ HO.out HR.out).mono ?_
  rintro e w2 ⟨hB, ⟨hne, F, rfl, hF, hl⟩ | ⟨h0, rfl, hR⟩⟩
  · exact ⟨rfl, by rw [HBad1.out hne]; exact out_bad HB.out hB hne ⟨F, rfl, hF, hl⟩⟩
  have GX : Hid (w2.heap[w.heap.size]? = some (.cells #[.int .i64 0, .int .i64 0, .int .i64 0, .int .i64 0, .int .u32 0, .int .i64 0, .int .u32 0, .int .i64 0, .int .u16 0, .int .u16 0, .int .u16 0, .int .u16 0, .int .u8 0, .int .u8 0, .int .i64 0, .int .u32 0, .int .u32 0, .int .u16 0, .int .u16 0, .int .u8 0] 61)) := But.blk hB HX.out (by omega)
  have GY : Hid (w2.heap[w.heap.size + 1]? = some (.cells (flatT [tk0, tk0, tk0, tk0, tk0, tk0, tk0, tk0]).toArray 87)) := But.blk hB HY.out (by omega)
  have GA : Hid (w2.heap[1]? = some (.cells #[.string (aW 0), .string (aW 1), .string (aW 2), .string (aW 3), .string (aW 4)] zA.1 zA.2)) := But.blk hB HA.out (by omega)
  have GC : Hid (w2.heap[0]? = some (.cells #[.string (cW 0), .string (cW 1), .string (cW 2), .string (cW 3), .string (cW 4), .string (cW 5), .string (cW 6), .string (cW 7), .string (cW 8), .string (cW 9), .string (cW 10)] zC.1 zC.2)) := But.blk hB HC.out (by omega)
  have GG : Hid (w2.heap[w1.heap.size]? = some (.cells #[.int .i64 1, .int .i64 0, .int .i64 0, .int .i64 0, .int .u32 0, .int .i64 0, .int .u32 0, .int .i64 0, .int .u16 0, .int .u16 0, .int .u16 0, .int .u16 0, .int .u8 0, .int .u8 0, .int .i64 0, .int .u32 0, .int .u32 0, .int .u16 0, .int .u16 0, .int .u8 0] 61)) := But.blk hB HG.out (by omega)
  have GE : Hid (w2.heap[wg.heap.size]? = some (.cells (flatT [tk0, tk0, tk0, tk0, tk0, tk0, tk0, tk0]).toArray 87)) := But.blk hB HE.out (by omega)
  clear HX HY HA HC HG HE
  have HX := GX
  clear GX
  have HY := GY
  clear GY
  have HA := GA
  clear GA
  have HC := GC
  clear GC
  have HG := GG
  clear GG
  have HE := GE
  clear GE
  have HZ2 : Hid (w.heap.size + 1 + 1 ≤ w2.heap.size) := Nat.le_trans HZ.out hB.size
  have HB2 : Hid (But R w w2) := HB.out.tr hB
  clear HB HR HO HZ
  have HZ := HZ2
  have HB := HB2
  have HO : Hid (r0.2.w = ⟨0, 0, 0⟩) := h0
  have HR : Hid (RAt w2 R b v L r0.2.a) := hR
  clear HZ2 HB2 h0 hR hB
  go_wp2_with (refine wpList_store_val rfl 3 (.tmp 15) (.tmp 14) rfl (w1.heap.size) 1 (.int .i64 (r0.1 : Int)) #[.int .i64 (r0.1 : Int)] #[.int .i64 1, .int .i64 (r0.1 : Int), .int .i64 0, .int .i64 0, .int .u32 0, .int .i64 0, .int .u32 0, .int .i64 0, .int .u16 0, .int .u16 0, .int .u16 0, .int .u16 0, .int .u8 0, .int .u8 0, .int .i64 0, .int .u32 0, .int .u32 0, .int .u16 0, .int .u16 0, .int .u8 0] rfl rfl rfl 61 _ HG.out (Nat.le_of_ble_eq_true rfl) rfl (by kernel_rfl) rfl ?_; intro w8 hw8 ho8)
  have GX : Hid (w8.heap[w.heap.size]? = some (.cells #[.int .i64 0, .int .i64 0, .int .i64 0, .int .i64 0, .int .u32 0, .int .i64 0, .int .u32 0, .int .i64 0, .int .u16 0, .int .u16 0, .int .u16 0, .int .u16 0, .int .u8 0, .int .u8 0, .int .i64 0, .int .u32 0, .int .u32 0, .int .u16 0, .int .u16 0, .int .u8 0] 61)) := only_blk ho8 HX.out (by omega)
  have GY : Hid (w8.heap[w.heap.size + 1]? = some (.cells (flatT [tk0, tk0, tk0, tk0, tk0, tk0, tk0, tk0]).toArray 87)) := only_blk ho8 HY.out (by omega)
  have GA : Hid (w8.heap[1]? = some (.cells #[.string (aW 0), .string (aW 1), .string (aW 2), .string (aW 3), .string (aW 4)] zA.1 zA.2)) := only_blk ho8 HA.out (by omega)
  have GC : Hid (w8.heap[0]? = some (.cells #[.string (cW 0), .string (cW 1), .string (cW 2), .string (cW 3), .string (cW 4), .string (cW 5), .string (cW 6), .string (cW 7), .string (cW 8), .string (cW 9), .string (cW 10)] zC.1 zC.2)) := only_blk ho8 HC.out (by omega)
  have GE : Hid (w8.heap[wg.heap.size]? = some (.cells (flatT [tk0, tk0, tk0, tk0, tk0, tk0, tk0, tk0]).toArray 87)) := only_blk ho8 HE.out (by omega)
  have GG : Hid (w8.heap[w1.heap.size]? = some (.cells #[.int .i64 1, .int .i64 (r0.1 : Int), .int .i64 0, .int .i64 0, .int .u32 0, .int .i64 0, .int .u32 0, .int .i64 0, .int .u16 0, .int .u16 0, .int .u16 0, .int .u16 0, .int .u8 0, .int .u8 0, .int .i64 0, .int .u32 0, .int .u32 0, .int .u16 0, .int .u16 0, .int .u8 0] 61)) := hw8
  have HR2 : Hid (RAt w8 R b v L r0.2.a) := rat_only HR.out ho8 hlR (by omega) HT.out
  have HB2 : Hid (But R w w8) := but_newer HB.out ho8 (by omega)
  have HZ2 : Hid (w.heap.size + 1 + 1 ≤ w8.heap.size) := by show _ ≤ _; rw [ho8.size]; exact HZ.out
  clear HR HB HZ hw8 ho8 HX HY HA HC HG HE
  have HR := HR2
  have HB := HB2
  have HZ := HZ2
  have HX := GX
  have HY := GY
  have HA := GA
  have HC := GC
  have HG := GG
  have HE := GE
  clear HR2 HB2 HZ2 GX GY GA GC GG GE
  refine (hc1 _ HO.out HR.out HA.out).mono ?_
  rintro e w4 ⟨hB, ⟨hne, F, rfl, hF, hl⟩ | ⟨h0, rfl, hR⟩⟩
  · exact ⟨rfl, by rw [HBad2.out hne]; exact out_bad HB.out hB hne ⟨F, rfl, hF, hl⟩⟩
  have GX : Hid (w4.heap[w.heap.size]? = some (.cells #[.int .i64 0, .int .i64 0, .int .i64 0, .int .i64 0, .int .u32 0, .int .i64 0, .int .u32 0, .int .i64 0, .int .u16 0, .int .u16 0, .int .u16 0, .int .u16 0, .int .u8 0, .int .u8 0, .int .i64 0, .int .u32 0, .int .u32 0, .int .u16 0, .int .u16 0, .int .u8 0] 61)) := But.blk hB HX.out (by omega)
  have GY : Hid (w4.heap[w.heap.size + 1]? = some (.cells (flatT [tk0, tk0, tk0, tk0, tk0, tk0, tk0, tk0]).toArray 87)) := But.blk hB HY.out (by omega)
  have GA : Hid (w4.heap[1]? = some (.cells #[.string (aW 0), .string (aW 1), .string (aW 2), .string (aW 3), .string (aW 4)] zA.1 zA.2)) := But.blk hB HA.out (by omega)
  have GC : Hid (w4.heap[0]? = some (.cells #[.string (cW 0), .string (cW 1), .string (cW 2), .string (cW 3), .string (cW 4), .string (cW 5), .string (cW 6), .string (cW 7), .string (cW 8), .string (cW 9), .string (cW 10)] zC.1 zC.2)) := But.blk hB HC.out (by omega)
  have GG : Hid (w4.heap[w1.heap.size]? = some (.cells #[.int .i64 1, .int .i64 (r0.1 : Int), .int .i64 0, .int .i64 0, .int .u32 0, .int .i64 0, .int .u32 0, .int .i64 0, .int .u16 0, .int .u16 0, .int .u16 0, .int .u16 0, .int .u8 0, .int .u8 0, .int .i64 0, .int .u32 0, .int .u32 0, .int .u16 0, .int .u16 0, .int .u8 0] 61)) := But.blk hB HG.out (by omega)
  have GE : Hid (w4.heap[wg.heap.size]? = some (.cells (flatT [tk0, tk0, tk0, tk0, tk0, tk0, tk0, tk0]).toArray 87)) := But.blk hB HE.out (by omega)
  clear HX HY HA HC HG HE
  have HX := GX
  clear GX
  have HY := GY
  clear GY
  have HA := GA
  clear GA
  have HC := GC
  clear GC
  have HG := GG
  clear GG
  have HE := GE
  clear GE
  have HZ2 : Hid (w.heap.size + 1 + 1 ≤ w4.heap.size) := Nat.le_trans HZ.out hB.size
  have HB2 : Hid (But R w w4) := HB.out.tr hB
  clear HB HR HO HZ
  have HZ := HZ2
  have HB := HB2
  have HO : Hid (r1.2.2.w = ⟨0, 0, 0⟩) := h0
  have HR : Hid (RAt w4 R b v L r1.2.2.a) := hR
  clear HZ2 HB2 h0 hR hB
  have hfl : (flatT bg).length = 40 := by rw [flatT_length, hbl]
  have hone := flatT_one bg
  go_upto_region 14 with (first | (refine wpList_store_val rfl 52 (.tmp 21) (.tmp 19) rfl (w1.heap.size) 3 (.agg #[.int .i64 (ruOf r1.1).i, .int .u32 ((ruOf r1.1).s : Int), .int .i64 (ruOf r1.1).sl, .int .u32 ((ruOf r1.1).d : Int), .int .i64 (ruOf r1.1).dl, .int .u16 ((ruOf r1.1).p.1 : Int), .int .u16 ((ruOf r1.1).p.2 : Int), .int .u16 ((ruOf r1.1).q.1 : Int), .int .u16 ((ruOf r1.1).q.2 : Int), .int .u8 ((ruOf r1.1).m.1 : Int), .int .u8 ((ruOf r1.1).m.2 : Int), .int .i64 (ruOf r1.1).act]) #[.int .i64 (ruOf r1.1).i, .int .u32 ((ruOf r1.1).s : Int), .int .i64 (ruOf r1.1).sl, .int .u32 ((ruOf r1.1).d : Int), .int .i64 (ruOf r1.1).dl, .int .u16 ((ruOf r1.1).p.1 : Int), .int .u16 ((ruOf r1.1).p.2 : Int), .int .u16 ((ruOf r1.1).q.1 : Int), .int .u16 ((ruOf r1.1).q.2 : Int), .int .u8 ((ruOf r1.1).m.1 : Int), .int .u8 ((ruOf r1.1).m.2 : Int), .int .i64 (ruOf r1.1).act] #[.int .i64 1, .int .i64 (r0.1 : Int), .int .i64 0, .int .i64 (ruOf r1.1).i, .int .u32 ((ruOf r1.1).s : Int), .int .i64 (ruOf r1.1).sl, .int .u32 ((ruOf r1.1).d : Int), .int .i64 (ruOf r1.1).dl, .int .u16 ((ruOf r1.1).p.1 : Int), .int .u16 ((ruOf r1.1).p.2 : Int), .int .u16 ((ruOf r1.1).q.1 : Int), .int .u16 ((ruOf r1.1).q.2 : Int), .int .u8 ((ruOf r1.1).m.1 : Int), .int .u8 ((ruOf r1.1).m.2 : Int), .int .i64 (ruOf r1.1).act, .int .u32 0, .int .u32 0, .int .u16 0, .int .u16 0, .int .u8 0] rfl rfl rfl 61 _ HG.out (Nat.le_of_ble_eq_true rfl) rfl (by kernel_rfl) rfl ?_; intro w8 hw8 ho8) | (refine wpList_store_blk rfl 87 (.tmp 5) (.tmp 20) rfl (wg.heap.size) 0 (flatT bg).toArray (flatT bg).toArray rfl rfl 87 _ (only_blk ho8 HE.out (by omega)) (by simp only [List.size_toArray, hfl]; exact Nat.le_of_ble_eq_true rfl) (by simp [hfl, flatT, encT]) (by simp only [List.size_toArray, hfl]; kernel_rfl) (by simpa [List.all_eq_true] using hone) ?_; intro w9 hw9 ho9))
  have GX : Hid (w8.heap[w.heap.size]? = some (.cells #[.int .i64 0, .int .i64 0, .int .i64 0, .int .i64 0, .int .u32 0, .int .i64 0, .int .u32 0, .int .i64 0, .int .u16 0, .int .u16 0, .int .u16 0, .int .u16 0, .int .u8 0, .int .u8 0, .int .i64 0, .int .u32 0, .int .u32 0, .int .u16 0, .int .u16 0, .int .u8 0] 61)) := only_blk ho8 HX.out (by omega)
  have GY : Hid (w8.heap[w.heap.size + 1]? = some (.cells (flatT [tk0, tk0, tk0, tk0, tk0, tk0, tk0, tk0]).toArray 87)) := only_blk ho8 HY.out (by omega)
  have GA : Hid (w8.heap[1]? = some (.cells #[.string (aW 0), .string (aW 1), .string (aW 2), .string (aW 3), .string (aW 4)] zA.1 zA.2)) := only_blk ho8 HA.out (by omega)
  have GC : Hid (w8.heap[0]? = some (.cells #[.string (cW 0), .string (cW 1), .string (cW 2), .string (cW 3), .string (cW 4), .string (cW 5), .string (cW 6), .string (cW 7), .string (cW 8), .string (cW 9), .string (cW 10)] zC.1 zC.2)) := only_blk ho8 HC.out (by omega)
  have GE : Hid (w8.heap[wg.heap.size]? = some (.cells (flatT [tk0, tk0, tk0, tk0, tk0, tk0, tk0, tk0]).toArray 87)) := only_blk ho8 HE.out (by omega)
  have GG : Hid (w8.heap[w1.heap.size]? = some (.cells #[.int .i64 1, .int .i64 (r0.1 : Int), .int .i64 0, .int .i64 (ruOf r1.1).i, .int .u32 ((ruOf r1.1).s : Int), .int .i64 (ruOf r1.1).sl, .int .u32 ((ruOf r1.1).d : Int), .int .i64 (ruOf r1.1).dl, .int .u16 ((ruOf r1.1).p.1 : Int), .int .u16 ((ruOf r1.1).p.2 : Int), .int .u16 ((ruOf r1.1).q.1 : Int), .int .u16 ((ruOf r1.1).q.2 : Int), .int .u8 ((ruOf r1.1).m.1 : Int), .int .u8 ((ruOf r1.1).m.2 : Int), .int .i64 (ruOf r1.1).act, .int .u32 0, .int .u32 0, .int .u16 0, .int .u16 0, .int .u8 0] 61)) := hw8
  have HR2 : Hid (RAt w8 R b v L r1.2.2.a) := rat_only HR.out ho8 hlR (by omega) HT.out
  have HB2 : Hid (But R w w8) := but_newer HB.out ho8 (by omega)
  have HZ2 : Hid (w.heap.size + 1 + 1 ≤ w8.heap.size) := by show _ ≤ _; rw [ho8.size]; exact HZ.out
  clear HR HB HZ hw8 ho8 HX HY HA HC HG HE
  have HR := HR2
  have HB := HB2
  have HZ := HZ2
  have HX := GX
  have HY := GY
  have HA := GA
  have HC := GC
  have HG := GG
  have HE := GE
  clear HR2 HB2 HZ2 GX GY GA GC GG GE
  have hw8 := hw9
  have ho8 := ho9
  clear hw9 ho9
  have GX : Hid (w9.heap[w.heap.size]? = some (.cells #[.int .i64 0, .int .i64 0, .int .i64 0, .int .i64 0, .int .u32 0, .int .i64 0, .int .u32 0, .int .i64 0, .int .u16 0, .int .u16 0, .int .u16 0, .int .u16 0, .int .u8 0, .int .u8 0, .int .i64 0, .int .u32 0, .int .u32 0, .int .u16 0, .int .u16 0, .int .u8 0] 61)) := only_blk ho8 HX.out (by omega)
  have GY : Hid (w9.heap[w.heap.size + 1]? = some (.cells (flatT [tk0, tk0, tk0, tk0, tk0, tk0, tk0, tk0]).toArray 87)) := only_blk ho8 HY.out (by omega)
  have GA : Hid (w9.heap[1]? = some (.cells #[.string (aW 0), .string (aW 1), .string (aW 2), .string (aW 3), .string (aW 4)] zA.1 zA.2)) := only_blk ho8 HA.out (by omega)
  have GC : Hid (w9.heap[0]? = some (.cells #[.string (cW 0), .string (cW 1), .string (cW 2), .string (cW 3), .string (cW 4), .string (cW 5), .string (cW 6), .string (cW 7), .string (cW 8), .string (cW 9), .string (cW 10)] zC.1 zC.2)) := only_blk ho8 HC.out (by omega)
  have GG : Hid (w9.heap[w1.heap.size]? = some (.cells #[.int .i64 1, .int .i64 (r0.1 : Int), .int .i64 0, .int .i64 (ruOf r1.1).i, .int .u32 ((ruOf r1.1).s : Int), .int .i64 (ruOf r1.1).sl, .int .u32 ((ruOf r1.1).d : Int), .int .i64 (ruOf r1.1).dl, .int .u16 ((ruOf r1.1).p.1 : Int), .int .u16 ((ruOf r1.1).p.2 : Int), .int .u16 ((ruOf r1.1).q.1 : Int), .int .u16 ((ruOf r1.1).q.2 : Int), .int .u8 ((ruOf r1.1).m.1 : Int), .int .u8 ((ruOf r1.1).m.2 : Int), .int .i64 (ruOf r1.1).act, .int .u32 0, .int .u32 0, .int .u16 0, .int .u16 0, .int .u8 0] 61)) := only_blk ho8 HG.out (by omega)
  have GE : Hid (w9.heap[wg.heap.size]? = some (.cells (flatT bg).toArray 87)) := hw8
  have HR2 : Hid (RAt w9 R b v L r1.2.2.a) := rat_only HR.out ho8 hlR (by omega) HT.out
  have HB2 : Hid (But R w w9) := but_newer HB.out ho8 (by omega)
  clear HR HB hw8 ho8 HX HY HA HC HG HE
  have HR := HR2
  have HB := HB2
  have HX := GX
  have HY := GY
  have HA := GA
  have HC := GC
  have HG := GG
  have HE := GE
  clear HR2 HB2 GX GY GA GC GG GE
  refine wp_region_held_drew (S := fun w' => w'.heap[w1.heap.size]? = some (.cells #[.int .i64 1, .int .i64 (r0.1 : Int), .int .i64 0, .int .i64 (ruOf r1.1).i, .int .u32 ((ruOf r1.1).s : Int), .int .i64 (ruOf r1.1).sl, .int .u32 ((ruOf r1.1).d : Int), .int .i64 (ruOf r1.1).dl, .int .u16 ((ruOf r1.1).p.1 : Int), .int .u16 ((ruOf r1.1).p.2 : Int), .int .u16 ((ruOf r1.1).q.1 : Int), .int .u16 ((ruOf r1.1).q.2 : Int), .int .u8 ((ruOf r1.1).m.1 : Int), .int .u8 ((ruOf r1.1).m.2 : Int), .int .i64 (ruOf r1.1).act, .int .u32 0, .int .u32 0, .int .u16 0, .int .u16 0, .int .u8 0] 61) ∧ w'.heap[wg.heap.size]? = some (.cells (flatT bg).toArray 87)) (by kernel_rfl) ⟨HG.out, HE.out⟩ (fun hS0 => ?_)
  show wpAnyH _ _ _ _ _ 4 _ _ _
  refine wpAnyH_take (i := 0) rfl (by kernel_rfl) (by kernel_rfl) (by kernel_rfl) (fun _ _ _ h => h) (yieldsIf_load_mid rfl 61 (.tmp 4) rfl (w1.heap.size) 0 rfl _ _ (fun w' hw' => rng_all hw'.1) Tryz.underlying61 rfl (by kernel_rfl)) hS0 ?_
  simp only [List.getElem_toArray, List.getElem_cons_succ, List.getElem_cons_zero, Act.put, List.setIfInBounds_toArray, List.set_cons_zero, List.set_cons_succ]
  refine wpAnyH_take (i := 1) rfl (by kernel_rfl) (by kernel_rfl) (by kernel_rfl) (fun _ _ _ h => h) (yieldsIf_load_mid rfl 87 (.tmp 5) rfl (wg.heap.size) 0 rfl _ _ (fun w' hw' => rng_all hw'.2) Tryz.underlying87 rfl (by simp only [hfl]; kernel_rfl)) hS0 ?_
  simp only [List.getElem_toArray, List.getElem_cons_succ, List.getElem_cons_zero, Act.put, List.setIfInBounds_toArray, List.set_cons_zero, List.set_cons_succ]
  refine wpAnyH_all (rs := [2]) (by kernel_rfl) (by simp) ?_
  intro i hi
  simp only [List.mem_cons, List.not_mem_nil, or_false] at hi
  subst hi
  · refine wpOp_of_wp rfl rfl (fun K' hK' => ?_)
    refine wp_store_blk 61 (.tmp 2) (.tmp 40) rfl (w.heap.size) 0 #[.int .i64 1, .int .i64 (r0.1 : Int), .int .i64 0, .int .i64 (ruOf r1.1).i, .int .u32 ((ruOf r1.1).s : Int), .int .i64 (ruOf r1.1).sl, .int .u32 ((ruOf r1.1).d : Int), .int .i64 (ruOf r1.1).dl, .int .u16 ((ruOf r1.1).p.1 : Int), .int .u16 ((ruOf r1.1).p.2 : Int), .int .u16 ((ruOf r1.1).q.1 : Int), .int .u16 ((ruOf r1.1).q.2 : Int), .int .u8 ((ruOf r1.1).m.1 : Int), .int .u8 ((ruOf r1.1).m.2 : Int), .int .i64 (ruOf r1.1).act, .int .u32 0, .int .u32 0, .int .u16 0, .int .u16 0, .int .u8 0] #[.int .i64 1, .int .i64 (r0.1 : Int), .int .i64 0, .int .i64 (ruOf r1.1).i, .int .u32 ((ruOf r1.1).s : Int), .int .i64 (ruOf r1.1).sl, .int .u32 ((ruOf r1.1).d : Int), .int .i64 (ruOf r1.1).dl, .int .u16 ((ruOf r1.1).p.1 : Int), .int .u16 ((ruOf r1.1).p.2 : Int), .int .u16 ((ruOf r1.1).q.1 : Int), .int .u16 ((ruOf r1.1).q.2 : Int), .int .u8 ((ruOf r1.1).m.1 : Int), .int .u8 ((ruOf r1.1).m.2 : Int), .int .i64 (ruOf r1.1).act, .int .u32 0, .int .u32 0, .int .u16 0, .int .u16 0, .int .u8 0] rfl rfl 61 _ HX.out (Nat.le_of_ble_eq_true rfl) rfl (by kernel_rfl) rfl (fun w9 h9 ho9 => hK' _ _ ⟨?_, ?_⟩)
    · exact ⟨only_blk ho9 HG.out (by omega), only_blk ho9 HE.out (by omega)⟩
    · have hO9 := only_blk ho9 HY.out (by omega)
      refine wpAnyH_all (rs := [3]) (by kernel_rfl) (by simp) ?_
      intro i hi
      simp only [List.mem_cons, List.not_mem_nil, or_false] at hi
      subst hi
      refine wpOp_of_wp rfl rfl (fun K' hK' => ?_)
      refine wp_store_blk 87 (.tmp 3) (.tmp 41) rfl (w.heap.size + 1) 0 (flatT bg).toArray (flatT bg).toArray rfl rfl 87 _ hO9 (by simp only [List.size_toArray, hfl]; exact Nat.le_of_ble_eq_true rfl) (by simp [hfl, flatT, encT]) (by simp only [List.size_toArray, hfl]; kernel_rfl) (by simpa [List.all_eq_true] using hone) (fun w10 h10 ho10 => hK' _ _ ⟨?_, ?_⟩)
      · exact ⟨only_blk ho10 (only_blk ho9 HG.out (by omega)) (by omega), only_blk ho10 (only_blk ho9 HE.out (by omega)) (by omega)⟩
      · refine wpAnyH_done (by kernel_rfl) ?_ _
        simp only [List.getElem_toArray, List.getElem_cons_succ, List.getElem_cons_zero, Act.put, List.setIfInBounds_toArray, List.set_cons_zero, List.set_cons_succ]
        have HX9 : Hid (w10.heap[w.heap.size]? = some (.cells #[.int .i64 1, .int .i64 (r0.1 : Int), .int .i64 0, .int .i64 (ruOf r1.1).i, .int .u32 ((ruOf r1.1).s : Int), .int .i64 (ruOf r1.1).sl, .int .u32 ((ruOf r1.1).d : Int), .int .i64 (ruOf r1.1).dl, .int .u16 ((ruOf r1.1).p.1 : Int), .int .u16 ((ruOf r1.1).p.2 : Int), .int .u16 ((ruOf r1.1).q.1 : Int), .int .u16 ((ruOf r1.1).q.2 : Int), .int .u8 ((ruOf r1.1).m.1 : Int), .int .u8 ((ruOf r1.1).m.2 : Int), .int .i64 (ruOf r1.1).act, .int .u32 0, .int .u32 0, .int .u16 0, .int .u16 0, .int .u8 0] 61)) := only_blk ho10 h9 (by omega)
        have HY9 : Hid (w10.heap[w.heap.size + 1]? = some (.cells (flatT bg).toArray 87)) := h10
        have HB9 : Hid (But R w w10) := but_newer (but_newer HB.out.dr ho9 (by omega)) ho10 (by omega)
        have HR9 : Hid (RAt w10 R b v L r1.2.2.a) := rat_only (rat_only (HR.out.on (Below.refl _ _).drew) ho9 hlR (by omega) HT.out) ho10 hlR (by omega) HT.out
        clear h9 ho9 h10 ho10 hO9 hS0
        go_wp2_with (fail)
        exact bodyPost_ret (results_blks Tryz.results33 rfl rfl HX9.out Tryz.underlying61 rfl (by kernel_rfl) HY9.out Tryz.underlying87 rfl (by simp only [List.size_toArray, hfl]; kernel_rfl)) rfl ⟨HB9.out, .inr ⟨by rw [HD.out]; exact HO.out, by rw [HD.out] <;> rfl, by rw [HD.out]; exact HR9.out⟩⟩
set_option maxRecDepth 20000 in
set_option maxHeartbeats 16000000 in
theorem command2 (w : World) (R b : Nat) (v : Value) (L : List Tk) (st : Rd) (hw : st.w = ⟨0, 0, 0⟩) (h : RAt w R b v L st.a) (hA : ActAt zA w) (hC : CmdAt zC w) (hgR : 8 < R) (hk : (kndS L st).1 = 2) :
    Calls Tryz.prog 33 #[.pointer (some ⟨R, 0, none⟩)] w fun e w' => Out w R b v L (.tuple #[.agg #[.int .i64 (cvOf (cmdS L st).1).k, .int .i64 (cvOf (cmdS L st).1).n, .int .i64 (cvOf (cmdS L st).1).i, .int .i64 (cvOf (cmdS L st).1).r.i, .int .u32 ((cvOf (cmdS L st).1).r.s : Int), .int .i64 (cvOf (cmdS L st).1).r.sl, .int .u32 ((cvOf (cmdS L st).1).r.d : Int), .int .i64 (cvOf (cmdS L st).1).r.dl, .int .u16 ((cvOf (cmdS L st).1).r.p.1 : Int), .int .u16 ((cvOf (cmdS L st).1).r.p.2 : Int), .int .u16 ((cvOf (cmdS L st).1).r.q.1 : Int), .int .u16 ((cvOf (cmdS L st).1).r.q.2 : Int), .int .u8 ((cvOf (cmdS L st).1).r.m.1 : Int), .int .u8 ((cvOf (cmdS L st).1).r.m.2 : Int), .int .i64 (cvOf (cmdS L st).1).r.act, .int .u32 ((cvOf (cmdS L st).1).h.1 : Int), .int .u32 ((cvOf (cmdS L st).1).h.2.1 : Int), .int .u16 ((cvOf (cmdS L st).1).h.2.2.1 : Int), .int .u16 ((cvOf (cmdS L st).1).h.2.2.2.1 : Int), .int .u8 ((cvOf (cmdS L st).1).h.2.2.2.2 : Int)], .agg (flatT (begsC L st)).toArray]) (cmdS L st).2.2 e w' := by
  have HT : Hid (Old w.heap.size v) := h.old
  have hK : ∀ W : World, RAt W R b v L st.a → CmdAt zC W → Calls Tryz.prog 58 #[.pointer (some ⟨R, 0, none⟩)] W _ := fun W hW hX => commandKindS W R b v L st hw hW hX
  have hKe := @knd_e L st hw
  have hD := @cmd_k2 L st hk
  have hBg : begsC L st = [tk0, tk0, tk0, tk0, tk0, tk0, tk0, tk0] := by unfold begsC; rw [if_neg (by omega)]
  rw [hBg]
  clear hBg
  have HD : Hid _ := hD
  clear hD
  generalize cmdS L st = P at *
  generalize kndS L st = S0 at *
  obtain ⟨kk, s0⟩ := S0
  simp only at hk HD hK hKe
  subst hk
  have hK0 : s0.w.e = 0 := by rcases Nat.eq_zero_or_pos s0.w.e with c | c; exact c; exact absurd (hKe (by omega)) (by omega)
  have HBad0 : Hid (s0.w.e ≠ 0 → P.2.2 = s0) := fun hne => absurd hK0 hne
  clear hKe hK0
  have hc0 : ∀ W : World, s0.w = ⟨0, 0, 0⟩ → RAt W R b v L s0.a → Calls Tryz.prog 59 #[.pointer (some ⟨R, 0, none⟩)] W _ := fun W h0 hW => anyNumberC W R b v L s0 h0 hW
  have HS0 : Hid (s0.w.e ≠ 0 → (numS L 4294967295 s0).2 = s0) := fun h => by rw [num_st h]
  generalize numS L 4294967295 s0 = r0 at *
  have HBad1 : Hid (r0.2.w.e ≠ 0 → P.2.2 = r0.2) := fun hne => by rw [HD.out]
  obtain ⟨W0, hW0⟩ : ∃ W0, W0 = ((w.alloc (.cells #[.int .i64 0, .int .i64 0, .int .i64 0, .int .i64 0, .int .u32 0, .int .i64 0, .int .u32 0, .int .i64 0, .int .u16 0, .int .u16 0, .int .u16 0, .int .u16 0, .int .u8 0, .int .u8 0, .int .i64 0, .int .u32 0, .int .u32 0, .int .u16 0, .int .u16 0, .int .u8 0] 61)).alloc (.cells #[.int .i64 0, .string ⟨#[]⟩, .int .u32 0, .int .i64 0, .int .i64 0, .int .i64 0, .string ⟨#[]⟩, .int .u32 0, .int .i64 0, .int .i64 0, .int .i64 0, .string ⟨#[]⟩, .int .u32 0, .int .i64 0, .int .i64 0, .int .i64 0, .string ⟨#[]⟩, .int .u32 0, .int .i64 0, .int .i64 0, .int .i64 0, .string ⟨#[]⟩, .int .u32 0, .int .i64 0, .int .i64 0, .int .i64 0, .string ⟨#[]⟩, .int .u32 0, .int .i64 0, .int .i64 0, .int .i64 0, .string ⟨#[]⟩, .int .u32 0, .int .i64 0, .int .i64 0, .int .i64 0, .string ⟨#[]⟩, .int .u32 0, .int .i64 0, .int .i64 0] 87)) := ⟨_, rfl⟩
  have hBel : Below w.heap.size w W0 := by rw [hW0]; (repeat (first | assumption | exact Below.refl _ _ | refine Below.drew ?_ | refine bel_drewN ?_ _ | refine Below.setCell ?_ (by first | omega | (simp; done) | (simp; omega)) _ | refine Below.alloc ?_ (by first | omega | (simp; done) | (simp; omega)) _ | refine bel_of ?_ (by assumption)))
  have HX : Hid (W0.heap[w.heap.size]? = some (.cells #[.int .i64 0, .int .i64 0, .int .i64 0, .int .i64 0, .int .u32 0, .int .i64 0, .int .u32 0, .int .i64 0, .int .u16 0, .int .u16 0, .int .u16 0, .int .u16 0, .int .u8 0, .int .u8 0, .int .i64 0, .int .u32 0, .int .u32 0, .int .u16 0, .int .u16 0, .int .u8 0] 61)) := by show _ = _; rw [hW0]; exact (blk_alloc (blk_new w (.cells #[.int .i64 0, .int .i64 0, .int .i64 0, .int .i64 0, .int .u32 0, .int .i64 0, .int .u32 0, .int .i64 0, .int .u16 0, .int .u16 0, .int .u16 0, .int .u16 0, .int .u8 0, .int .u8 0, .int .i64 0, .int .u32 0, .int .u32 0, .int .u16 0, .int .u16 0, .int .u8 0] 61)) _)
  have HY : Hid (W0.heap[w.heap.size + 1]? = some (.cells (flatT [tk0, tk0, tk0, tk0, tk0, tk0, tk0, tk0]).toArray 87)) := by show _ = _; rw [hW0]; exact (blk_newN (by simp) _)
  have hlR : R < w.heap.size := blk_lt h.r
  have HR : Hid (RAt W0 R b v L st.a) := h.on hBel
  have HB : Hid (But R w W0) := But.of hBel
  have HO : Hid (st.w = ⟨0, 0, 0⟩) := hw
  have HZ : Hid (w.heap.size + 1 + 1 ≤ W0.heap.size) := by show _ ≤ _; rw [hW0]; simp
  clear hBel h hw
  have HA : Hid (W0.heap[1]? = some (.cells #[.string (aW 0), .string (aW 1), .string (aW 2), .string (aW 3), .string (aW 4)] zA.1 zA.2)) := by show _ = _; rw [hW0]; exact blk_alloc (blk_alloc hA _) _
  have HC : Hid (W0.heap[0]? = some (.cells #[.string (cW 0), .string (cW 1), .string (cW 2), .string (cW 3), .string (cW 4), .string (cW 5), .string (cW 6), .string (cW 7), .string (cW 8), .string (cW 9), .string (cW 10)] zC.1 zC.2)) := by show _ = _; rw [hW0]; exact blk_alloc (blk_alloc hC _) _
  clear hA hC
  go_enter Tryz.func33, Tryz.ntmps33
  go_upto_region 1 with (fail)
  rw [← hW0]
  clear hW0
  go_wp2_with (fail)
  refine (hK _ HR.out HC.out).mono ?_
  rintro e w1 ⟨hB, ⟨hne, F, rfl, hF, hl⟩ | ⟨h0, rfl, hR⟩⟩
  · exact ⟨rfl, by rw [HBad0.out hne]; exact out_bad HB.out hB hne ⟨F, rfl, hF, hl⟩⟩
  have GX : Hid (w1.heap[w.heap.size]? = some (.cells #[.int .i64 0, .int .i64 0, .int .i64 0, .int .i64 0, .int .u32 0, .int .i64 0, .int .u32 0, .int .i64 0, .int .u16 0, .int .u16 0, .int .u16 0, .int .u16 0, .int .u8 0, .int .u8 0, .int .i64 0, .int .u32 0, .int .u32 0, .int .u16 0, .int .u16 0, .int .u8 0] 61)) := But.blk hB HX.out (by omega)
  have GY : Hid (w1.heap[w.heap.size + 1]? = some (.cells (flatT [tk0, tk0, tk0, tk0, tk0, tk0, tk0, tk0]).toArray 87)) := But.blk hB HY.out (by omega)
  have GA : Hid (w1.heap[1]? = some (.cells #[.string (aW 0), .string (aW 1), .string (aW 2), .string (aW 3), .string (aW 4)] zA.1 zA.2)) := But.blk hB HA.out (by omega)
  have GC : Hid (w1.heap[0]? = some (.cells #[.string (cW 0), .string (cW 1), .string (cW 2), .string (cW 3), .string (cW 4), .string (cW 5), .string (cW 6), .string (cW 7), .string (cW 8), .string (cW 9), .string (cW 10)] zC.1 zC.2)) := But.blk hB HC.out (by omega)
  clear HX HY HA HC
  have HX := GX
  clear GX
  have HY := GY
  clear GY
  have HA := GA
  clear GA
  have HC := GC
  clear GC
  have HZ2 : Hid (w.heap.size + 1 + 1 ≤ w1.heap.size) := Nat.le_trans HZ.out hB.size
  have HB2 : Hid (But R w w1) := HB.out.tr hB
  clear HB HR HO HZ
  have HZ := HZ2
  have HB := HB2
  have HO : Hid (s0.w = ⟨0, 0, 0⟩) := h0
  have HR : Hid (RAt w1 R b v L s0.a) := hR
  clear HZ2 HB2 h0 hR hB
  go_upto_region 3 with (refine wpList_store_blk rfl 61 (.tmp 4) (.tmp 8) rfl w1.heap.size 0 #[.int .i64 2, .int .i64 0, .int .i64 0, .int .i64 0, .int .u32 0, .int .i64 0, .int .u32 0, .int .i64 0, .int .u16 0, .int .u16 0, .int .u16 0, .int .u16 0, .int .u8 0, .int .u8 0, .int .i64 0, .int .u32 0, .int .u32 0, .int .u16 0, .int .u16 0, .int .u8 0] #[.int .i64 2, .int .i64 0, .int .i64 0, .int .i64 0, .int .u32 0, .int .i64 0, .int .u32 0, .int .i64 0, .int .u16 0, .int .u16 0, .int .u16 0, .int .u16 0, .int .u8 0, .int .u8 0, .int .i64 0, .int .u32 0, .int .u32 0, .int .u16 0, .int .u16 0, .int .u8 0] rfl rfl 61 _ (blk_new w1 (.cells #[.int .i64 0, .int .i64 0, .int .i64 0, .int .i64 0, .int .u32 0, .int .i64 0, .int .u32 0, .int .i64 0, .int .u16 0, .int .u16 0, .int .u16 0, .int .u16 0, .int .u8 0, .int .u8 0, .int .i64 0, .int .u32 0, .int .u32 0, .int .u16 0, .int .u16 0, .int .u8 0] 61)) (Nat.le_of_ble_eq_true rfl) rfl (by kernel_rfl) rfl ?_; intro wg hwg hog)
  have hbel : Below w1.heap.size w1 (wg.alloc (.cells #[.int .i64 0, .string ⟨#[]⟩, .int .u32 0, .int .i64 0, .int .i64 0, .int .i64 0, .string ⟨#[]⟩, .int .u32 0, .int .i64 0, .int .i64 0, .int .i64 0, .string ⟨#[]⟩, .int .u32 0, .int .i64 0, .int .i64 0, .int .i64 0, .string ⟨#[]⟩, .int .u32 0, .int .i64 0, .int .i64 0, .int .i64 0, .string ⟨#[]⟩, .int .u32 0, .int .i64 0, .int .i64 0, .int .i64 0, .string ⟨#[]⟩, .int .u32 0, .int .i64 0, .int .i64 0, .int .i64 0, .string ⟨#[]⟩, .int .u32 0, .int .i64 0, .int .i64 0, .int .i64 0, .string ⟨#[]⟩, .int .u32 0, .int .i64 0, .int .i64 0] 87)) := (((Below.refl _ _).alloc (Nat.le_refl _) _).trans (hog.below (Nat.le_refl _))).alloc (by rw [hog.size]; simp) _
  have zg : wg.heap.size = w1.heap.size + 1 := by rw [hog.size]; simp
  have zg1 : wg.heap.size ≤ w1.heap.size + 1 := Nat.le_of_eq zg
  have zg2 : w1.heap.size + 1 ≤ wg.heap.size := Nat.le_of_eq zg.symm
  have zw : w.heap.size + 1 + 1 ≤ w1.heap.size := HZ.out
  have GX : Hid ((wg.alloc (.cells #[.int .i64 0, .string ⟨#[]⟩, .int .u32 0, .int .i64 0, .int .i64 0, .int .i64 0, .string ⟨#[]⟩, .int .u32 0, .int .i64 0, .int .i64 0, .int .i64 0, .string ⟨#[]⟩, .int .u32 0, .int .i64 0, .int .i64 0, .int .i64 0, .string ⟨#[]⟩, .int .u32 0, .int .i64 0, .int .i64 0, .int .i64 0, .string ⟨#[]⟩, .int .u32 0, .int .i64 0, .int .i64 0, .int .i64 0, .string ⟨#[]⟩, .int .u32 0, .int .i64 0, .int .i64 0, .int .i64 0, .string ⟨#[]⟩, .int .u32 0, .int .i64 0, .int .i64 0, .int .i64 0, .string ⟨#[]⟩, .int .u32 0, .int .i64 0, .int .i64 0] 87)).heap[w.heap.size]? = some (.cells #[.int .i64 0, .int .i64 0, .int .i64 0, .int .i64 0, .int .u32 0, .int .i64 0, .int .u32 0, .int .i64 0, .int .u16 0, .int .u16 0, .int .u16 0, .int .u16 0, .int .u8 0, .int .u8 0, .int .i64 0, .int .u32 0, .int .u32 0, .int .u16 0, .int .u16 0, .int .u8 0] 61)) := blk_on HX.out hbel
  have GY : Hid ((wg.alloc (.cells #[.int .i64 0, .string ⟨#[]⟩, .int .u32 0, .int .i64 0, .int .i64 0, .int .i64 0, .string ⟨#[]⟩, .int .u32 0, .int .i64 0, .int .i64 0, .int .i64 0, .string ⟨#[]⟩, .int .u32 0, .int .i64 0, .int .i64 0, .int .i64 0, .string ⟨#[]⟩, .int .u32 0, .int .i64 0, .int .i64 0, .int .i64 0, .string ⟨#[]⟩, .int .u32 0, .int .i64 0, .int .i64 0, .int .i64 0, .string ⟨#[]⟩, .int .u32 0, .int .i64 0, .int .i64 0, .int .i64 0, .string ⟨#[]⟩, .int .u32 0, .int .i64 0, .int .i64 0, .int .i64 0, .string ⟨#[]⟩, .int .u32 0, .int .i64 0, .int .i64 0] 87)).heap[w.heap.size + 1]? = some (.cells (flatT [tk0, tk0, tk0, tk0, tk0, tk0, tk0, tk0]).toArray 87)) := blk_on HY.out hbel
  have GA : Hid ((wg.alloc (.cells #[.int .i64 0, .string ⟨#[]⟩, .int .u32 0, .int .i64 0, .int .i64 0, .int .i64 0, .string ⟨#[]⟩, .int .u32 0, .int .i64 0, .int .i64 0, .int .i64 0, .string ⟨#[]⟩, .int .u32 0, .int .i64 0, .int .i64 0, .int .i64 0, .string ⟨#[]⟩, .int .u32 0, .int .i64 0, .int .i64 0, .int .i64 0, .string ⟨#[]⟩, .int .u32 0, .int .i64 0, .int .i64 0, .int .i64 0, .string ⟨#[]⟩, .int .u32 0, .int .i64 0, .int .i64 0, .int .i64 0, .string ⟨#[]⟩, .int .u32 0, .int .i64 0, .int .i64 0, .int .i64 0, .string ⟨#[]⟩, .int .u32 0, .int .i64 0, .int .i64 0] 87)).heap[1]? = some (.cells #[.string (aW 0), .string (aW 1), .string (aW 2), .string (aW 3), .string (aW 4)] zA.1 zA.2)) := blk_on HA.out hbel
  have GC : Hid ((wg.alloc (.cells #[.int .i64 0, .string ⟨#[]⟩, .int .u32 0, .int .i64 0, .int .i64 0, .int .i64 0, .string ⟨#[]⟩, .int .u32 0, .int .i64 0, .int .i64 0, .int .i64 0, .string ⟨#[]⟩, .int .u32 0, .int .i64 0, .int .i64 0, .int .i64 0, .string ⟨#[]⟩, .int .u32 0, .int .i64 0, .int .i64 0, .int .i64 0, .string ⟨#[]⟩, .int .u32 0, .int .i64 0, .int .i64 0, .int .i64 0, .string ⟨#[]⟩, .int .u32 0, .int .i64 0, .int .i64 0, .int .i64 0, .string ⟨#[]⟩, .int .u32 0, .int .i64 0, .int .i64 0, .int .i64 0, .string ⟨#[]⟩, .int .u32 0, .int .i64 0, .int .i64 0] 87)).heap[0]? = some (.cells #[.string (cW 0), .string (cW 1), .string (cW 2), .string (cW 3), .string (cW 4), .string (cW 5), .string (cW 6), .string (cW 7), .string (cW 8), .string (cW 9), .string (cW 10)] zC.1 zC.2)) := blk_on HC.out hbel
  have HG : Hid ((wg.alloc (.cells #[.int .i64 0, .string ⟨#[]⟩, .int .u32 0, .int .i64 0, .int .i64 0, .int .i64 0, .string ⟨#[]⟩, .int .u32 0, .int .i64 0, .int .i64 0, .int .i64 0, .string ⟨#[]⟩, .int .u32 0, .int .i64 0, .int .i64 0, .int .i64 0, .string ⟨#[]⟩, .int .u32 0, .int .i64 0, .int .i64 0, .int .i64 0, .string ⟨#[]⟩, .int .u32 0, .int .i64 0, .int .i64 0, .int .i64 0, .string ⟨#[]⟩, .int .u32 0, .int .i64 0, .int .i64 0, .int .i64 0, .string ⟨#[]⟩, .int .u32 0, .int .i64 0, .int .i64 0, .int .i64 0, .string ⟨#[]⟩, .int .u32 0, .int .i64 0, .int .i64 0] 87)).heap[w1.heap.size]? = some (.cells #[.int .i64 2, .int .i64 0, .int .i64 0, .int .i64 0, .int .u32 0, .int .i64 0, .int .u32 0, .int .i64 0, .int .u16 0, .int .u16 0, .int .u16 0, .int .u16 0, .int .u8 0, .int .u8 0, .int .i64 0, .int .u32 0, .int .u32 0, .int .u16 0, .int .u16 0, .int .u8 0] 61)) := blk_alloc hwg _
  have HE : Hid ((wg.alloc (.cells #[.int .i64 0, .string ⟨#[]⟩, .int .u32 0, .int .i64 0, .int .i64 0, .int .i64 0, .string ⟨#[]⟩, .int .u32 0, .int .i64 0, .int .i64 0, .int .i64 0, .string ⟨#[]⟩, .int .u32 0, .int .i64 0, .int .i64 0, .int .i64 0, .string ⟨#[]⟩, .int .u32 0, .int .i64 0, .int .i64 0, .int .i64 0, .string ⟨#[]⟩, .int .u32 0, .int .i64 0, .int .i64 0, .int .i64 0, .string ⟨#[]⟩, .int .u32 0, .int .i64 0, .int .i64 0, .int .i64 0, .string ⟨#[]⟩, .int .u32 0, .int .i64 0, .int .i64 0, .int .i64 0, .string ⟨#[]⟩, .int .u32 0, .int .i64 0, .int .i64 0] 87)).heap[wg.heap.size]? = some (.cells (flatT [tk0, tk0, tk0, tk0, tk0, tk0, tk0, tk0]).toArray 87)) := blk_new wg _
  have HR2 : Hid (RAt (wg.alloc (.cells #[.int .i64 0, .string ⟨#[]⟩, .int .u32 0, .int .i64 0, .int .i64 0, .int .i64 0, .string ⟨#[]⟩, .int .u32 0, .int .i64 0, .int .i64 0, .int .i64 0, .string ⟨#[]⟩, .int .u32 0, .int .i64 0, .int .i64 0, .int .i64 0, .string ⟨#[]⟩, .int .u32 0, .int .i64 0, .int .i64 0, .int .i64 0, .string ⟨#[]⟩, .int .u32 0, .int .i64 0, .int .i64 0, .int .i64 0, .string ⟨#[]⟩, .int .u32 0, .int .i64 0, .int .i64 0, .int .i64 0, .string ⟨#[]⟩, .int .u32 0, .int .i64 0, .int .i64 0, .int .i64 0, .string ⟨#[]⟩, .int .u32 0, .int .i64 0, .int .i64 0] 87)) R b v L s0.a) := HR.out.on hbel
  have HB2 : Hid (But R w (wg.alloc (.cells #[.int .i64 0, .string ⟨#[]⟩, .int .u32 0, .int .i64 0, .int .i64 0, .int .i64 0, .string ⟨#[]⟩, .int .u32 0, .int .i64 0, .int .i64 0, .int .i64 0, .string ⟨#[]⟩, .int .u32 0, .int .i64 0, .int .i64 0, .int .i64 0, .string ⟨#[]⟩, .int .u32 0, .int .i64 0, .int .i64 0, .int .i64 0, .string ⟨#[]⟩, .int .u32 0, .int .i64 0, .int .i64 0, .int .i64 0, .string ⟨#[]⟩, .int .u32 0, .int .i64 0, .int .i64 0, .int .i64 0, .string ⟨#[]⟩, .int .u32 0, .int .i64 0, .int .i64 0, .int .i64 0, .string ⟨#[]⟩, .int .u32 0, .int .i64 0, .int .i64 0] 87))) := HB.out.then hbel
  have HZ2 : Hid (w.heap.size + 1 + 1 ≤ (wg.alloc (.cells #[.int .i64 0, .string ⟨#[]⟩, .int .u32 0, .int .i64 0, .int .i64 0, .int .i64 0, .string ⟨#[]⟩, .int .u32 0, .int .i64 0, .int .i64 0, .int .i64 0, .string ⟨#[]⟩, .int .u32 0, .int .i64 0, .int .i64 0, .int .i64 0, .string ⟨#[]⟩, .int .u32 0, .int .i64 0, .int .i64 0, .int .i64 0, .string ⟨#[]⟩, .int .u32 0, .int .i64 0, .int .i64 0, .int .i64 0, .string ⟨#[]⟩, .int .u32 0, .int .i64 0, .int .i64 0, .int .i64 0, .string ⟨#[]⟩, .int .u32 0, .int .i64 0, .int .i64 0, .int .i64 0, .string ⟨#[]⟩, .int .u32 0, .int .i64 0, .int .i64 0] 87)).heap.size) := Nat.le_trans HZ.out hbel.size
  clear HR HB HZ hbel zg hwg hog HX HY HA HC
  have HR := HR2
  have HB := HB2
  have HZ := HZ2
  have HX := GX
  have HY := GY
  have HA := GA
  have HC := GC
  clear HR2 HB2 HZ2 GX GY GA GC
  generalize hWg : wg.alloc (.cells #[.int .i64 0, .string ⟨#[]⟩, .int .u32 0, .int .i64 0, .int .i64 0, .int .i64 0, .string ⟨#[]⟩, .int .u32 0, .int .i64 0, .int .i64 0, .int .i64 0, .string ⟨#[]⟩, .int .u32 0, .int .i64 0, .int .i64 0, .int .i64 0, .string ⟨#[]⟩, .int .u32 0, .int .i64 0, .int .i64 0, .int .i64 0, .string ⟨#[]⟩, .int .u32 0, .int .i64 0, .int .i64 0, .int .i64 0, .string ⟨#[]⟩, .int .u32 0, .int .i64 0, .int .i64 0, .int .i64 0, .string ⟨#[]⟩, .int .u32 0, .int .i64 0, .int .i64 0, .int .i64 0, .string ⟨#[]⟩, .int .u32 0, .int .i64 0, .int .i64 0] 87) = Wg at *
  clear hWg
  have q0 : Wg.cell? ⟨w1.heap.size, 0, none⟩ = some (.int .i64 2) := blk_cell HG.out rfl
  go_wp2_with (fail)
  refine (hc0 _ HO.out HR.out).mono ?_
  rintro e w2 ⟨hB, ⟨hne, F, rfl, hF, hl⟩ | ⟨h0, rfl, hR⟩⟩
  · exact ⟨rfl, by rw [HBad1.out hne]; exact out_bad HB.out hB hne ⟨F, rfl, hF, hl⟩⟩
  have GX : Hid (w2.heap[w.heap.size]? = some (.cells #[.int .i64 0, .int .i64 0, .int .i64 0, .int .i64 0, .int .u32 0, .int .i64 0, .int .u32 0, .int .i64 0, .int .u16 0, .int .u16 0, .int .u16 0, .int .u16 0, .int .u8 0, .int .u8 0, .int .i64 0, .int .u32 0, .int .u32 0, .int .u16 0, .int .u16 0, .int .u8 0] 61)) := But.blk hB HX.out (by omega)
  have GY : Hid (w2.heap[w.heap.size + 1]? = some (.cells (flatT [tk0, tk0, tk0, tk0, tk0, tk0, tk0, tk0]).toArray 87)) := But.blk hB HY.out (by omega)
  have GA : Hid (w2.heap[1]? = some (.cells #[.string (aW 0), .string (aW 1), .string (aW 2), .string (aW 3), .string (aW 4)] zA.1 zA.2)) := But.blk hB HA.out (by omega)
  have GC : Hid (w2.heap[0]? = some (.cells #[.string (cW 0), .string (cW 1), .string (cW 2), .string (cW 3), .string (cW 4), .string (cW 5), .string (cW 6), .string (cW 7), .string (cW 8), .string (cW 9), .string (cW 10)] zC.1 zC.2)) := But.blk hB HC.out (by omega)
  have GG : Hid (w2.heap[w1.heap.size]? = some (.cells #[.int .i64 2, .int .i64 0, .int .i64 0, .int .i64 0, .int .u32 0, .int .i64 0, .int .u32 0, .int .i64 0, .int .u16 0, .int .u16 0, .int .u16 0, .int .u16 0, .int .u8 0, .int .u8 0, .int .i64 0, .int .u32 0, .int .u32 0, .int .u16 0, .int .u16 0, .int .u8 0] 61)) := But.blk hB HG.out (by omega)
  have GE : Hid (w2.heap[wg.heap.size]? = some (.cells (flatT [tk0, tk0, tk0, tk0, tk0, tk0, tk0, tk0]).toArray 87)) := But.blk hB HE.out (by omega)
  clear HX HY HA HC HG HE
  have HX := GX
  clear GX
  have HY := GY
  clear GY
  have HA := GA
  clear GA
  have HC := GC
  clear GC
  have HG := GG
  clear GG
  have HE := GE
  clear GE
  have HZ2 : Hid (w.heap.size + 1 + 1 ≤ w2.heap.size) := Nat.le_trans HZ.out hB.size
  have HB2 : Hid (But R w w2) := HB.out.tr hB
  clear HB HR HO HZ
  have HZ := HZ2
  have HB := HB2
  have HO : Hid (r0.2.w = ⟨0, 0, 0⟩) := h0
  have HR : Hid (RAt w2 R b v L r0.2.a) := hR
  clear HZ2 HB2 h0 hR hB
  go_upto_region 14 with (refine wpList_store_val rfl 3 (.tmp 26) (.tmp 25) rfl (w1.heap.size) 2 (.int .i64 (r0.1 : Int)) #[.int .i64 (r0.1 : Int)] #[.int .i64 2, .int .i64 0, .int .i64 (r0.1 : Int), .int .i64 0, .int .u32 0, .int .i64 0, .int .u32 0, .int .i64 0, .int .u16 0, .int .u16 0, .int .u16 0, .int .u16 0, .int .u8 0, .int .u8 0, .int .i64 0, .int .u32 0, .int .u32 0, .int .u16 0, .int .u16 0, .int .u8 0] rfl rfl rfl 61 _ HG.out (Nat.le_of_ble_eq_true rfl) rfl (by kernel_rfl) rfl ?_; intro w8 hw8 ho8)
  have GX : Hid (w8.heap[w.heap.size]? = some (.cells #[.int .i64 0, .int .i64 0, .int .i64 0, .int .i64 0, .int .u32 0, .int .i64 0, .int .u32 0, .int .i64 0, .int .u16 0, .int .u16 0, .int .u16 0, .int .u16 0, .int .u8 0, .int .u8 0, .int .i64 0, .int .u32 0, .int .u32 0, .int .u16 0, .int .u16 0, .int .u8 0] 61)) := only_blk ho8 HX.out (by omega)
  have GY : Hid (w8.heap[w.heap.size + 1]? = some (.cells (flatT [tk0, tk0, tk0, tk0, tk0, tk0, tk0, tk0]).toArray 87)) := only_blk ho8 HY.out (by omega)
  have GA : Hid (w8.heap[1]? = some (.cells #[.string (aW 0), .string (aW 1), .string (aW 2), .string (aW 3), .string (aW 4)] zA.1 zA.2)) := only_blk ho8 HA.out (by omega)
  have GC : Hid (w8.heap[0]? = some (.cells #[.string (cW 0), .string (cW 1), .string (cW 2), .string (cW 3), .string (cW 4), .string (cW 5), .string (cW 6), .string (cW 7), .string (cW 8), .string (cW 9), .string (cW 10)] zC.1 zC.2)) := only_blk ho8 HC.out (by omega)
  have GE : Hid (w8.heap[wg.heap.size]? = some (.cells (flatT [tk0, tk0, tk0, tk0, tk0, tk0, tk0, tk0]).toArray 87)) := only_blk ho8 HE.out (by omega)
  have GG : Hid (w8.heap[w1.heap.size]? = some (.cells #[.int .i64 2, .int .i64 0, .int .i64 (r0.1 : Int), .int .i64 0, .int .u32 0, .int .i64 0, .int .u32 0, .int .i64 0, .int .u16 0, .int .u16 0, .int .u16 0, .int .u16 0, .int .u8 0, .int .u8 0, .int .i64 0, .int .u32 0, .int .u32 0, .int .u16 0, .int .u16 0, .int .u8 0] 61)) := hw8
  have HR2 : Hid (RAt w8 R b v L r0.2.a) := rat_only HR.out ho8 hlR (by omega) HT.out
  have HB2 : Hid (But R w w8) := but_newer HB.out ho8 (by omega)
  have HZ2 : Hid (w.heap.size + 1 + 1 ≤ w8.heap.size) := by show _ ≤ _; rw [ho8.size]; exact HZ.out
  clear HR HB HZ hw8 ho8 HX HY HA HC HG HE
  have HR := HR2
  have HB := HB2
  have HZ := HZ2
  have HX := GX
  have HY := GY
  have HA := GA
  have HC := GC
  have HG := GG
  have HE := GE
  clear HR2 HB2 HZ2 GX GY GA GC GG GE
  refine wp_region_held_drew (S := fun w' => w'.heap[w1.heap.size]? = some (.cells #[.int .i64 2, .int .i64 0, .int .i64 (r0.1 : Int), .int .i64 0, .int .u32 0, .int .i64 0, .int .u32 0, .int .i64 0, .int .u16 0, .int .u16 0, .int .u16 0, .int .u16 0, .int .u8 0, .int .u8 0, .int .i64 0, .int .u32 0, .int .u32 0, .int .u16 0, .int .u16 0, .int .u8 0] 61) ∧ w'.heap[wg.heap.size]? = some (.cells (flatT [tk0, tk0, tk0, tk0, tk0, tk0, tk0, tk0]).toArray 87)) (by kernel_rfl) ⟨HG.out, HE.out⟩ (fun hS0 => ?_)
  show wpAnyH _ _ _ _ _ 4 _ _ _
  refine wpAnyH_take (i := 0) rfl (by kernel_rfl) (by kernel_rfl) (by kernel_rfl) (fun _ _ _ h => h) (yieldsIf_load_mid rfl 61 (.tmp 4) rfl (w1.heap.size) 0 rfl _ _ (fun w' hw' => rng_all hw'.1) Tryz.underlying61 rfl (by kernel_rfl)) hS0 ?_
  simp only [List.getElem_toArray, List.getElem_cons_succ, List.getElem_cons_zero, Act.put, List.setIfInBounds_toArray, List.set_cons_zero, List.set_cons_succ]
  refine wpAnyH_take (i := 1) rfl (by kernel_rfl) (by kernel_rfl) (by kernel_rfl) (fun _ _ _ h => h) (yieldsIf_load_mid rfl 87 (.tmp 5) rfl (wg.heap.size) 0 rfl _ _ (fun w' hw' => rng_all hw'.2) Tryz.underlying87 rfl (by kernel_rfl)) hS0 ?_
  simp only [List.getElem_toArray, List.getElem_cons_succ, List.getElem_cons_zero, Act.put, List.setIfInBounds_toArray, List.set_cons_zero, List.set_cons_succ]
  refine wpAnyH_all (rs := [2]) (by kernel_rfl) (by simp) ?_
  intro i hi
  simp only [List.mem_cons, List.not_mem_nil, or_false] at hi
  subst hi
  · refine wpOp_of_wp rfl rfl (fun K' hK' => ?_)
    refine wp_store_blk 61 (.tmp 2) (.tmp 40) rfl (w.heap.size) 0 #[.int .i64 2, .int .i64 0, .int .i64 (r0.1 : Int), .int .i64 0, .int .u32 0, .int .i64 0, .int .u32 0, .int .i64 0, .int .u16 0, .int .u16 0, .int .u16 0, .int .u16 0, .int .u8 0, .int .u8 0, .int .i64 0, .int .u32 0, .int .u32 0, .int .u16 0, .int .u16 0, .int .u8 0] #[.int .i64 2, .int .i64 0, .int .i64 (r0.1 : Int), .int .i64 0, .int .u32 0, .int .i64 0, .int .u32 0, .int .i64 0, .int .u16 0, .int .u16 0, .int .u16 0, .int .u16 0, .int .u8 0, .int .u8 0, .int .i64 0, .int .u32 0, .int .u32 0, .int .u16 0, .int .u16 0, .int .u8 0] rfl rfl 61 _ HX.out (Nat.le_of_ble_eq_true rfl) rfl (by kernel_rfl) rfl (fun w9 h9 ho9 => hK' _ _ ⟨?_, ?_⟩)
    · exact ⟨only_blk ho9 HG.out (by omega), only_blk ho9 HE.out (by omega)⟩
    · have hO9 := only_blk ho9 HY.out (by omega)
      refine wpAnyH_all (rs := [3]) (by kernel_rfl) (by simp) ?_
      intro i hi
      simp only [List.mem_cons, List.not_mem_nil, or_false] at hi
      subst hi
      refine wpOp_of_wp rfl rfl (fun K' hK' => ?_)
      refine wp_store_blk 87 (.tmp 3) (.tmp 41) rfl (w.heap.size + 1) 0 (flatT [tk0, tk0, tk0, tk0, tk0, tk0, tk0, tk0]).toArray (flatT [tk0, tk0, tk0, tk0, tk0, tk0, tk0, tk0]).toArray rfl rfl 87 _ hO9 (Nat.le_of_ble_eq_true rfl) rfl (by kernel_rfl) rfl (fun w10 h10 ho10 => hK' _ _ ⟨?_, ?_⟩)
      · exact ⟨only_blk ho10 (only_blk ho9 HG.out (by omega)) (by omega), only_blk ho10 (only_blk ho9 HE.out (by omega)) (by omega)⟩
      · refine wpAnyH_done (by kernel_rfl) ?_ _
        simp only [List.getElem_toArray, List.getElem_cons_succ, List.getElem_cons_zero, Act.put, List.setIfInBounds_toArray, List.set_cons_zero, List.set_cons_succ]
        have HX9 : Hid (w10.heap[w.heap.size]? = some (.cells #[.int .i64 2, .int .i64 0, .int .i64 (r0.1 : Int), .int .i64 0, .int .u32 0, .int .i64 0, .int .u32 0, .int .i64 0, .int .u16 0, .int .u16 0, .int .u16 0, .int .u16 0, .int .u8 0, .int .u8 0, .int .i64 0, .int .u32 0, .int .u32 0, .int .u16 0, .int .u16 0, .int .u8 0] 61)) := only_blk ho10 h9 (by omega)
        have HY9 : Hid (w10.heap[w.heap.size + 1]? = some (.cells (flatT [tk0, tk0, tk0, tk0, tk0, tk0, tk0, tk0]).toArray 87)) := h10
        have HB9 : Hid (But R w w10) := but_newer (but_newer HB.out.dr ho9 (by omega)) ho10 (by omega)
        have HR9 : Hid (RAt w10 R b v L r0.2.a) := rat_only (rat_only (HR.out.on (Below.refl _ _).drew) ho9 hlR (by omega) HT.out) ho10 hlR (by omega) HT.out
        clear h9 ho9 h10 ho10 hO9 hS0
        go_wp2_with (fail)
        exact bodyPost_ret (results_blks Tryz.results33 rfl rfl HX9.out Tryz.underlying61 rfl (by kernel_rfl) HY9.out Tryz.underlying87 rfl (by kernel_rfl)) rfl ⟨HB9.out, .inr ⟨by rw [HD.out]; exact HO.out, by rw [HD.out] <;> rfl, by rw [HD.out]; exact HR9.out⟩⟩
set_option maxRecDepth 20000 in
set_option maxHeartbeats 16000000 in
theorem command3 (w : World) (R b : Nat) (v : Value) (L : List Tk) (st : Rd) (hw : st.w = ⟨0, 0, 0⟩) (h : RAt w R b v L st.a) (hA : ActAt zA w) (hC : CmdAt zC w) (hgR : 8 < R) (hk : (kndS L st).1 = 3) :
    Calls Tryz.prog 33 #[.pointer (some ⟨R, 0, none⟩)] w fun e w' => Out w R b v L (.tuple #[.agg #[.int .i64 (cvOf (cmdS L st).1).k, .int .i64 (cvOf (cmdS L st).1).n, .int .i64 (cvOf (cmdS L st).1).i, .int .i64 (cvOf (cmdS L st).1).r.i, .int .u32 ((cvOf (cmdS L st).1).r.s : Int), .int .i64 (cvOf (cmdS L st).1).r.sl, .int .u32 ((cvOf (cmdS L st).1).r.d : Int), .int .i64 (cvOf (cmdS L st).1).r.dl, .int .u16 ((cvOf (cmdS L st).1).r.p.1 : Int), .int .u16 ((cvOf (cmdS L st).1).r.p.2 : Int), .int .u16 ((cvOf (cmdS L st).1).r.q.1 : Int), .int .u16 ((cvOf (cmdS L st).1).r.q.2 : Int), .int .u8 ((cvOf (cmdS L st).1).r.m.1 : Int), .int .u8 ((cvOf (cmdS L st).1).r.m.2 : Int), .int .i64 (cvOf (cmdS L st).1).r.act, .int .u32 ((cvOf (cmdS L st).1).h.1 : Int), .int .u32 ((cvOf (cmdS L st).1).h.2.1 : Int), .int .u16 ((cvOf (cmdS L st).1).h.2.2.1 : Int), .int .u16 ((cvOf (cmdS L st).1).h.2.2.2.1 : Int), .int .u8 ((cvOf (cmdS L st).1).h.2.2.2.2 : Int)], .agg (flatT (begsC L st)).toArray]) (cmdS L st).2.2 e w' := by
  have HT : Hid (Old w.heap.size v) := h.old
  have hK : ∀ W : World, RAt W R b v L st.a → CmdAt zC W → Calls Tryz.prog 58 #[.pointer (some ⟨R, 0, none⟩)] W _ := fun W hW hX => commandKindS W R b v L st hw hW hX
  have hKe := @knd_e L st hw
  have hD := @cmd_k3 L st hk
  have hBg : begsC L st = [tk0, tk0, tk0, tk0, tk0, tk0, tk0, tk0] := by unfold begsC; rw [if_neg (by omega)]
  rw [hBg]
  clear hBg
  have HD : Hid _ := hD
  clear hD
  generalize cmdS L st = P at *
  generalize kndS L st = S0 at *
  obtain ⟨kk, s0⟩ := S0
  simp only at hk HD hK hKe
  subst hk
  have hK0 : s0.w.e = 0 := by rcases Nat.eq_zero_or_pos s0.w.e with c | c; exact c; exact absurd (hKe (by omega)) (by omega)
  have HBad0 : Hid (s0.w.e ≠ 0 → P.2.2 = s0) := fun hne => absurd hK0 hne
  clear hKe hK0
  have hc0 : ∀ W : World, s0.w = ⟨0, 0, 0⟩ → RAt W R b v L s0.a → Calls Tryz.prog 59 #[.pointer (some ⟨R, 0, none⟩)] W _ := fun W h0 hW => anyNumberC W R b v L s0 h0 hW
  have HS0 : Hid (s0.w.e ≠ 0 → (numS L 4294967295 s0).2 = s0) := fun h => by rw [num_st h]
  generalize numS L 4294967295 s0 = r0 at *
  have hc1 : ∀ W : World, r0.2.w = ⟨0, 0, 0⟩ → RAt W R b v L r0.2.a → Calls Tryz.prog 59 #[.pointer (some ⟨R, 0, none⟩)] W _ := fun W h0 hW => anyNumberC W R b v L r0.2 h0 hW
  have HS1 : Hid (r0.2.w.e ≠ 0 → (numS L 4294967295 r0.2).2 = r0.2) := fun h => by rw [num_st h]
  generalize numS L 4294967295 r0.2 = r1 at *
  have HBad1 : Hid (r0.2.w.e ≠ 0 → P.2.2 = r0.2) := fun hne => by have e1 : r1.2 = r0.2 := HS1.out hne; rw [HD.out]; exact e1
  have HBad2 : Hid (r1.2.w.e ≠ 0 → P.2.2 = r1.2) := fun hne => by rw [HD.out]
  obtain ⟨W0, hW0⟩ : ∃ W0, W0 = ((w.alloc (.cells #[.int .i64 0, .int .i64 0, .int .i64 0, .int .i64 0, .int .u32 0, .int .i64 0, .int .u32 0, .int .i64 0, .int .u16 0, .int .u16 0, .int .u16 0, .int .u16 0, .int .u8 0, .int .u8 0, .int .i64 0, .int .u32 0, .int .u32 0, .int .u16 0, .int .u16 0, .int .u8 0] 61)).alloc (.cells #[.int .i64 0, .string ⟨#[]⟩, .int .u32 0, .int .i64 0, .int .i64 0, .int .i64 0, .string ⟨#[]⟩, .int .u32 0, .int .i64 0, .int .i64 0, .int .i64 0, .string ⟨#[]⟩, .int .u32 0, .int .i64 0, .int .i64 0, .int .i64 0, .string ⟨#[]⟩, .int .u32 0, .int .i64 0, .int .i64 0, .int .i64 0, .string ⟨#[]⟩, .int .u32 0, .int .i64 0, .int .i64 0, .int .i64 0, .string ⟨#[]⟩, .int .u32 0, .int .i64 0, .int .i64 0, .int .i64 0, .string ⟨#[]⟩, .int .u32 0, .int .i64 0, .int .i64 0, .int .i64 0, .string ⟨#[]⟩, .int .u32 0, .int .i64 0, .int .i64 0] 87)) := ⟨_, rfl⟩
  have hBel : Below w.heap.size w W0 := by rw [hW0]; (repeat (first | assumption | exact Below.refl _ _ | refine Below.drew ?_ | refine bel_drewN ?_ _ | refine Below.setCell ?_ (by first | omega | (simp; done) | (simp; omega)) _ | refine Below.alloc ?_ (by first | omega | (simp; done) | (simp; omega)) _ | refine bel_of ?_ (by assumption)))
  have HX : Hid (W0.heap[w.heap.size]? = some (.cells #[.int .i64 0, .int .i64 0, .int .i64 0, .int .i64 0, .int .u32 0, .int .i64 0, .int .u32 0, .int .i64 0, .int .u16 0, .int .u16 0, .int .u16 0, .int .u16 0, .int .u8 0, .int .u8 0, .int .i64 0, .int .u32 0, .int .u32 0, .int .u16 0, .int .u16 0, .int .u8 0] 61)) := by show _ = _; rw [hW0]; exact (blk_alloc (blk_new w (.cells #[.int .i64 0, .int .i64 0, .int .i64 0, .int .i64 0, .int .u32 0, .int .i64 0, .int .u32 0, .int .i64 0, .int .u16 0, .int .u16 0, .int .u16 0, .int .u16 0, .int .u8 0, .int .u8 0, .int .i64 0, .int .u32 0, .int .u32 0, .int .u16 0, .int .u16 0, .int .u8 0] 61)) _)
  have HY : Hid (W0.heap[w.heap.size + 1]? = some (.cells (flatT [tk0, tk0, tk0, tk0, tk0, tk0, tk0, tk0]).toArray 87)) := by show _ = _; rw [hW0]; exact (blk_newN (by simp) _)
  have hlR : R < w.heap.size := blk_lt h.r
  have HR : Hid (RAt W0 R b v L st.a) := h.on hBel
  have HB : Hid (But R w W0) := But.of hBel
  have HO : Hid (st.w = ⟨0, 0, 0⟩) := hw
  have HZ : Hid (w.heap.size + 1 + 1 ≤ W0.heap.size) := by show _ ≤ _; rw [hW0]; simp
  clear hBel h hw
  have HA : Hid (W0.heap[1]? = some (.cells #[.string (aW 0), .string (aW 1), .string (aW 2), .string (aW 3), .string (aW 4)] zA.1 zA.2)) := by show _ = _; rw [hW0]; exact blk_alloc (blk_alloc hA _) _
  have HC : Hid (W0.heap[0]? = some (.cells #[.string (cW 0), .string (cW 1), .string (cW 2), .string (cW 3), .string (cW 4), .string (cW 5), .string (cW 6), .string (cW 7), .string (cW 8), .string (cW 9), .string (cW 10)] zC.1 zC.2)) := by show _ = _; rw [hW0]; exact blk_alloc (blk_alloc hC _) _
  clear hA hC
  go_enter Tryz.func33, Tryz.ntmps33
  go_upto_region 1 with (fail)
  rw [← hW0]
  clear hW0
  go_wp2_with (fail)
  refine (hK _ HR.out HC.out).mono ?_
  rintro e w1 ⟨hB, ⟨hne, F, rfl, hF, hl⟩ | ⟨h0, rfl, hR⟩⟩
  · exact ⟨rfl, by rw [HBad0.out hne]; exact out_bad HB.out hB hne ⟨F, rfl, hF, hl⟩⟩
  have GX : Hid (w1.heap[w.heap.size]? = some (.cells #[.int .i64 0, .int .i64 0, .int .i64 0, .int .i64 0, .int .u32 0, .int .i64 0, .int .u32 0, .int .i64 0, .int .u16 0, .int .u16 0, .int .u16 0, .int .u16 0, .int .u8 0, .int .u8 0, .int .i64 0, .int .u32 0, .int .u32 0, .int .u16 0, .int .u16 0, .int .u8 0] 61)) := But.blk hB HX.out (by omega)
  have GY : Hid (w1.heap[w.heap.size + 1]? = some (.cells (flatT [tk0, tk0, tk0, tk0, tk0, tk0, tk0, tk0]).toArray 87)) := But.blk hB HY.out (by omega)
  have GA : Hid (w1.heap[1]? = some (.cells #[.string (aW 0), .string (aW 1), .string (aW 2), .string (aW 3), .string (aW 4)] zA.1 zA.2)) := But.blk hB HA.out (by omega)
  have GC : Hid (w1.heap[0]? = some (.cells #[.string (cW 0), .string (cW 1), .string (cW 2), .string (cW 3), .string (cW 4), .string (cW 5), .string (cW 6), .string (cW 7), .string (cW 8), .string (cW 9), .string (cW 10)] zC.1 zC.2)) := But.blk hB HC.out (by omega)
  clear HX HY HA HC
  have HX := GX
  clear GX
  have HY := GY
  clear GY
  have HA := GA
  clear GA
  have HC := GC
  clear GC
  have HZ2 : Hid (w.heap.size + 1 + 1 ≤ w1.heap.size) := Nat.le_trans HZ.out hB.size
  have HB2 : Hid (But R w w1) := HB.out.tr hB
  clear HB HR HO HZ
  have HZ := HZ2
  have HB := HB2
  have HO : Hid (s0.w = ⟨0, 0, 0⟩) := h0
  have HR : Hid (RAt w1 R b v L s0.a) := hR
  clear HZ2 HB2 h0 hR hB
  go_upto_region 3 with (refine wpList_store_blk rfl 61 (.tmp 4) (.tmp 8) rfl w1.heap.size 0 #[.int .i64 3, .int .i64 0, .int .i64 0, .int .i64 0, .int .u32 0, .int .i64 0, .int .u32 0, .int .i64 0, .int .u16 0, .int .u16 0, .int .u16 0, .int .u16 0, .int .u8 0, .int .u8 0, .int .i64 0, .int .u32 0, .int .u32 0, .int .u16 0, .int .u16 0, .int .u8 0] #[.int .i64 3, .int .i64 0, .int .i64 0, .int .i64 0, .int .u32 0, .int .i64 0, .int .u32 0, .int .i64 0, .int .u16 0, .int .u16 0, .int .u16 0, .int .u16 0, .int .u8 0, .int .u8 0, .int .i64 0, .int .u32 0, .int .u32 0, .int .u16 0, .int .u16 0, .int .u8 0] rfl rfl 61 _ (blk_new w1 (.cells #[.int .i64 0, .int .i64 0, .int .i64 0, .int .i64 0, .int .u32 0, .int .i64 0, .int .u32 0, .int .i64 0, .int .u16 0, .int .u16 0, .int .u16 0, .int .u16 0, .int .u8 0, .int .u8 0, .int .i64 0, .int .u32 0, .int .u32 0, .int .u16 0, .int .u16 0, .int .u8 0] 61)) (Nat.le_of_ble_eq_true rfl) rfl (by kernel_rfl) rfl ?_; intro wg hwg hog)
  have hbel : Below w1.heap.size w1 (wg.alloc (.cells #[.int .i64 0, .string ⟨#[]⟩, .int .u32 0, .int .i64 0, .int .i64 0, .int .i64 0, .string ⟨#[]⟩, .int .u32 0, .int .i64 0, .int .i64 0, .int .i64 0, .string ⟨#[]⟩, .int .u32 0, .int .i64 0, .int .i64 0, .int .i64 0, .string ⟨#[]⟩, .int .u32 0, .int .i64 0, .int .i64 0, .int .i64 0, .string ⟨#[]⟩, .int .u32 0, .int .i64 0, .int .i64 0, .int .i64 0, .string ⟨#[]⟩, .int .u32 0, .int .i64 0, .int .i64 0, .int .i64 0, .string ⟨#[]⟩, .int .u32 0, .int .i64 0, .int .i64 0, .int .i64 0, .string ⟨#[]⟩, .int .u32 0, .int .i64 0, .int .i64 0] 87)) := (((Below.refl _ _).alloc (Nat.le_refl _) _).trans (hog.below (Nat.le_refl _))).alloc (by rw [hog.size]; simp) _
  have zg : wg.heap.size = w1.heap.size + 1 := by rw [hog.size]; simp
  have zg1 : wg.heap.size ≤ w1.heap.size + 1 := Nat.le_of_eq zg
  have zg2 : w1.heap.size + 1 ≤ wg.heap.size := Nat.le_of_eq zg.symm
  have zw : w.heap.size + 1 + 1 ≤ w1.heap.size := HZ.out
  have GX : Hid ((wg.alloc (.cells #[.int .i64 0, .string ⟨#[]⟩, .int .u32 0, .int .i64 0, .int .i64 0, .int .i64 0, .string ⟨#[]⟩, .int .u32 0, .int .i64 0, .int .i64 0, .int .i64 0, .string ⟨#[]⟩, .int .u32 0, .int .i64 0, .int .i64 0, .int .i64 0, .string ⟨#[]⟩, .int .u32 0, .int .i64 0, .int .i64 0, .int .i64 0, .string ⟨#[]⟩, .int .u32 0, .int .i64 0, .int .i64 0, .int .i64 0, .string ⟨#[]⟩, .int .u32 0, .int .i64 0, .int .i64 0, .int .i64 0, .string ⟨#[]⟩, .int .u32 0, .int .i64 0, .int .i64 0, .int .i64 0, .string ⟨#[]⟩, .int .u32 0, .int .i64 0, .int .i64 0] 87)).heap[w.heap.size]? = some (.cells #[.int .i64 0, .int .i64 0, .int .i64 0, .int .i64 0, .int .u32 0, .int .i64 0, .int .u32 0, .int .i64 0, .int .u16 0, .int .u16 0, .int .u16 0, .int .u16 0, .int .u8 0, .int .u8 0, .int .i64 0, .int .u32 0, .int .u32 0, .int .u16 0, .int .u16 0, .int .u8 0] 61)) := blk_on HX.out hbel
  have GY : Hid ((wg.alloc (.cells #[.int .i64 0, .string ⟨#[]⟩, .int .u32 0, .int .i64 0, .int .i64 0, .int .i64 0, .string ⟨#[]⟩, .int .u32 0, .int .i64 0, .int .i64 0, .int .i64 0, .string ⟨#[]⟩, .int .u32 0, .int .i64 0, .int .i64 0, .int .i64 0, .string ⟨#[]⟩, .int .u32 0, .int .i64 0, .int .i64 0, .int .i64 0, .string ⟨#[]⟩, .int .u32 0, .int .i64 0, .int .i64 0, .int .i64 0, .string ⟨#[]⟩, .int .u32 0, .int .i64 0, .int .i64 0, .int .i64 0, .string ⟨#[]⟩, .int .u32 0, .int .i64 0, .int .i64 0, .int .i64 0, .string ⟨#[]⟩, .int .u32 0, .int .i64 0, .int .i64 0] 87)).heap[w.heap.size + 1]? = some (.cells (flatT [tk0, tk0, tk0, tk0, tk0, tk0, tk0, tk0]).toArray 87)) := blk_on HY.out hbel
  have GA : Hid ((wg.alloc (.cells #[.int .i64 0, .string ⟨#[]⟩, .int .u32 0, .int .i64 0, .int .i64 0, .int .i64 0, .string ⟨#[]⟩, .int .u32 0, .int .i64 0, .int .i64 0, .int .i64 0, .string ⟨#[]⟩, .int .u32 0, .int .i64 0, .int .i64 0, .int .i64 0, .string ⟨#[]⟩, .int .u32 0, .int .i64 0, .int .i64 0, .int .i64 0, .string ⟨#[]⟩, .int .u32 0, .int .i64 0, .int .i64 0, .int .i64 0, .string ⟨#[]⟩, .int .u32 0, .int .i64 0, .int .i64 0, .int .i64 0, .string ⟨#[]⟩, .int .u32 0, .int .i64 0, .int .i64 0, .int .i64 0, .string ⟨#[]⟩, .int .u32 0, .int .i64 0, .int .i64 0] 87)).heap[1]? = some (.cells #[.string (aW 0), .string (aW 1), .string (aW 2), .string (aW 3), .string (aW 4)] zA.1 zA.2)) := blk_on HA.out hbel
  have GC : Hid ((wg.alloc (.cells #[.int .i64 0, .string ⟨#[]⟩, .int .u32 0, .int .i64 0, .int .i64 0, .int .i64 0, .string ⟨#[]⟩, .int .u32 0, .int .i64 0, .int .i64 0, .int .i64 0, .string ⟨#[]⟩, .int .u32 0, .int .i64 0, .int .i64 0, .int .i64 0, .string ⟨#[]⟩, .int .u32 0, .int .i64 0, .int .i64 0, .int .i64 0, .string ⟨#[]⟩, .int .u32 0, .int .i64 0, .int .i64 0, .int .i64 0, .string ⟨#[]⟩, .int .u32 0, .int .i64 0, .int .i64 0, .int .i64 0, .string ⟨#[]⟩, .int .u32 0, .int .i64 0, .int .i64 0, .int .i64 0, .string ⟨#[]⟩, .int .u32 0, .int .i64 0, .int .i64 0] 87)).heap[0]? = some (.cells #[.string (cW 0), .string (cW 1), .string (cW 2), .string (cW 3), .string (cW 4), .string (cW 5), .string (cW 6), .string (cW 7), .string (cW 8), .string (cW 9), .string (cW 10)] zC.1 zC.2)) := blk_on HC.out hbel
  have HG : Hid ((wg.alloc (.cells #[.int .i64 0, .string ⟨#[]⟩, .int .u32 0, .int .i64 0, .int .i64 0, .int .i64 0, .string ⟨#[]⟩, .int .u32 0, .int .i64 0, .int .i64 0, .int .i64 0, .string ⟨#[]⟩, .int .u32 0, .int .i64 0, .int .i64 0, .int .i64 0, .string ⟨#[]⟩, .int .u32 0, .int .i64 0, .int .i64 0, .int .i64 0, .string ⟨#[]⟩, .int .u32 0, .int .i64 0, .int .i64 0, .int .i64 0, .string ⟨#[]⟩, .int .u32 0, .int .i64 0, .int .i64 0, .int .i64 0, .string ⟨#[]⟩, .int .u32 0, .int .i64 0, .int .i64 0, .int .i64 0, .string ⟨#[]⟩, .int .u32 0, .int .i64 0, .int .i64 0] 87)).heap[w1.heap.size]? = some (.cells #[.int .i64 3, .int .i64 0, .int .i64 0, .int .i64 0, .int .u32 0, .int .i64 0, .int .u32 0, .int .i64 0, .int .u16 0, .int .u16 0, .int .u16 0, .int .u16 0, .int .u8 0, .int .u8 0, .int .i64 0, .int .u32 0, .int .u32 0, .int .u16 0, .int .u16 0, .int .u8 0] 61)) := blk_alloc hwg _
  have HE : Hid ((wg.alloc (.cells #[.int .i64 0, .string ⟨#[]⟩, .int .u32 0, .int .i64 0, .int .i64 0, .int .i64 0, .string ⟨#[]⟩, .int .u32 0, .int .i64 0, .int .i64 0, .int .i64 0, .string ⟨#[]⟩, .int .u32 0, .int .i64 0, .int .i64 0, .int .i64 0, .string ⟨#[]⟩, .int .u32 0, .int .i64 0, .int .i64 0, .int .i64 0, .string ⟨#[]⟩, .int .u32 0, .int .i64 0, .int .i64 0, .int .i64 0, .string ⟨#[]⟩, .int .u32 0, .int .i64 0, .int .i64 0, .int .i64 0, .string ⟨#[]⟩, .int .u32 0, .int .i64 0, .int .i64 0, .int .i64 0, .string ⟨#[]⟩, .int .u32 0, .int .i64 0, .int .i64 0] 87)).heap[wg.heap.size]? = some (.cells (flatT [tk0, tk0, tk0, tk0, tk0, tk0, tk0, tk0]).toArray 87)) := blk_new wg _
  have HR2 : Hid (RAt (wg.alloc (.cells #[.int .i64 0, .string ⟨#[]⟩, .int .u32 0, .int .i64 0, .int .i64 0, .int .i64 0, .string ⟨#[]⟩, .int .u32 0, .int .i64 0, .int .i64 0, .int .i64 0, .string ⟨#[]⟩, .int .u32 0, .int .i64 0, .int .i64 0, .int .i64 0, .string ⟨#[]⟩, .int .u32 0, .int .i64 0, .int .i64 0, .int .i64 0, .string ⟨#[]⟩, .int .u32 0, .int .i64 0, .int .i64 0, .int .i64 0, .string ⟨#[]⟩, .int .u32 0, .int .i64 0, .int .i64 0, .int .i64 0, .string ⟨#[]⟩, .int .u32 0, .int .i64 0, .int .i64 0, .int .i64 0, .string ⟨#[]⟩, .int .u32 0, .int .i64 0, .int .i64 0] 87)) R b v L s0.a) := HR.out.on hbel
  have HB2 : Hid (But R w (wg.alloc (.cells #[.int .i64 0, .string ⟨#[]⟩, .int .u32 0, .int .i64 0, .int .i64 0, .int .i64 0, .string ⟨#[]⟩, .int .u32 0, .int .i64 0, .int .i64 0, .int .i64 0, .string ⟨#[]⟩, .int .u32 0, .int .i64 0, .int .i64 0, .int .i64 0, .string ⟨#[]⟩, .int .u32 0, .int .i64 0, .int .i64 0, .int .i64 0, .string ⟨#[]⟩, .int .u32 0, .int .i64 0, .int .i64 0, .int .i64 0, .string ⟨#[]⟩, .int .u32 0, .int .i64 0, .int .i64 0, .int .i64 0, .string ⟨#[]⟩, .int .u32 0, .int .i64 0, .int .i64 0, .int .i64 0, .string ⟨#[]⟩, .int .u32 0, .int .i64 0, .int .i64 0] 87))) := HB.out.then hbel
  have HZ2 : Hid (w.heap.size + 1 + 1 ≤ (wg.alloc (.cells #[.int .i64 0, .string ⟨#[]⟩, .int .u32 0, .int .i64 0, .int .i64 0, .int .i64 0, .string ⟨#[]⟩, .int .u32 0, .int .i64 0, .int .i64 0, .int .i64 0, .string ⟨#[]⟩, .int .u32 0, .int .i64 0, .int .i64 0, .int .i64 0, .string ⟨#[]⟩, .int .u32 0, .int .i64 0, .int .i64 0, .int .i64 0, .string ⟨#[]⟩, .int .u32 0, .int .i64 0, .int .i64 0, .int .i64 0, .string ⟨#[]⟩, .int .u32 0, .int .i64 0, .int .i64 0, .int .i64 0, .string ⟨#[]⟩, .int .u32 0, .int .i64 0, .int .i64 0, .int .i64 0, .string ⟨#[]⟩, .int .u32 0, .int .i64 0, .int .i64 0] 87)).heap.size) := Nat.le_trans HZ.out hbel.size
  clear HR HB HZ hbel zg hwg hog HX HY HA HC
  have HR := HR2
  have HB := HB2
  have HZ := HZ2
  have HX := GX
  have HY := GY
  have HA := GA
  have HC := GC
  clear HR2 HB2 HZ2 GX GY GA GC
  generalize hWg : wg.alloc (.cells #[.int .i64 0, .string ⟨#[]⟩, .int .u32 0, .int .i64 0, .int .i64 0, .int .i64 0, .string ⟨#[]⟩, .int .u32 0, .int .i64 0, .int .i64 0, .int .i64 0, .string ⟨#[]⟩, .int .u32 0, .int .i64 0, .int .i64 0, .int .i64 0, .string ⟨#[]⟩, .int .u32 0, .int .i64 0, .int .i64 0, .int .i64 0, .string ⟨#[]⟩, .int .u32 0, .int .i64 0, .int .i64 0, .int .i64 0, .string ⟨#[]⟩, .int .u32 0, .int .i64 0, .int .i64 0, .int .i64 0, .string ⟨#[]⟩, .int .u32 0, .int .i64 0, .int .i64 0, .int .i64 0, .string ⟨#[]⟩, .int .u32 0, .int .i64 0, .int .i64 0] 87) = Wg at *
  clear hWg
  have q0 : Wg.cell? ⟨w1.heap.size, 0, none⟩ = some (.int .i64 3) := blk_cell HG.out rfl
  go_wp2_with (fail)
  refine (hc0 _ HO.out HR.out).mono ?_
  rintro e w2 ⟨hB, ⟨hne, F, rfl, hF, hl⟩ | ⟨h0, rfl, hR⟩⟩
  · exact ⟨rfl, by rw [HBad1.out hne]; exact out_bad HB.out hB hne ⟨F, rfl, hF, hl⟩⟩
  have GX : Hid (w2.heap[w.heap.size]? = some (.cells #[.int .i64 0, .int .i64 0, .int .i64 0, .int .i64 0, .int .u32 0, .int .i64 0, .int .u32 0, .int .i64 0, .int .u16 0, .int .u16 0, .int .u16 0, .int .u16 0, .int .u8 0, .int .u8 0, .int .i64 0, .int .u32 0, .int .u32 0, .int .u16 0, .int .u16 0, .int .u8 0] 61)) := But.blk hB HX.out (by omega)
  have GY : Hid (w2.heap[w.heap.size + 1]? = some (.cells (flatT [tk0, tk0, tk0, tk0, tk0, tk0, tk0, tk0]).toArray 87)) := But.blk hB HY.out (by omega)
  have GA : Hid (w2.heap[1]? = some (.cells #[.string (aW 0), .string (aW 1), .string (aW 2), .string (aW 3), .string (aW 4)] zA.1 zA.2)) := But.blk hB HA.out (by omega)
  have GC : Hid (w2.heap[0]? = some (.cells #[.string (cW 0), .string (cW 1), .string (cW 2), .string (cW 3), .string (cW 4), .string (cW 5), .string (cW 6), .string (cW 7), .string (cW 8), .string (cW 9), .string (cW 10)] zC.1 zC.2)) := But.blk hB HC.out (by omega)
  have GG : Hid (w2.heap[w1.heap.size]? = some (.cells #[.int .i64 3, .int .i64 0, .int .i64 0, .int .i64 0, .int .u32 0, .int .i64 0, .int .u32 0, .int .i64 0, .int .u16 0, .int .u16 0, .int .u16 0, .int .u16 0, .int .u8 0, .int .u8 0, .int .i64 0, .int .u32 0, .int .u32 0, .int .u16 0, .int .u16 0, .int .u8 0] 61)) := But.blk hB HG.out (by omega)
  have GE : Hid (w2.heap[wg.heap.size]? = some (.cells (flatT [tk0, tk0, tk0, tk0, tk0, tk0, tk0, tk0]).toArray 87)) := But.blk hB HE.out (by omega)
  clear HX HY HA HC HG HE
  have HX := GX
  clear GX
  have HY := GY
  clear GY
  have HA := GA
  clear GA
  have HC := GC
  clear GC
  have HG := GG
  clear GG
  have HE := GE
  clear GE
  have HZ2 : Hid (w.heap.size + 1 + 1 ≤ w2.heap.size) := Nat.le_trans HZ.out hB.size
  have HB2 : Hid (But R w w2) := HB.out.tr hB
  clear HB HR HO HZ
  have HZ := HZ2
  have HB := HB2
  have HO : Hid (r0.2.w = ⟨0, 0, 0⟩) := h0
  have HR : Hid (RAt w2 R b v L r0.2.a) := hR
  clear HZ2 HB2 h0 hR hB
  go_wp2_with (refine wpList_store_val rfl 3 (.tmp 31) (.tmp 30) rfl (w1.heap.size) 2 (.int .i64 (r0.1 : Int)) #[.int .i64 (r0.1 : Int)] #[.int .i64 3, .int .i64 0, .int .i64 (r0.1 : Int), .int .i64 0, .int .u32 0, .int .i64 0, .int .u32 0, .int .i64 0, .int .u16 0, .int .u16 0, .int .u16 0, .int .u16 0, .int .u8 0, .int .u8 0, .int .i64 0, .int .u32 0, .int .u32 0, .int .u16 0, .int .u16 0, .int .u8 0] rfl rfl rfl 61 _ HG.out (Nat.le_of_ble_eq_true rfl) rfl (by kernel_rfl) rfl ?_; intro w8 hw8 ho8)
  have GX : Hid (w8.heap[w.heap.size]? = some (.cells #[.int .i64 0, .int .i64 0, .int .i64 0, .int .i64 0, .int .u32 0, .int .i64 0, .int .u32 0, .int .i64 0, .int .u16 0, .int .u16 0, .int .u16 0, .int .u16 0, .int .u8 0, .int .u8 0, .int .i64 0, .int .u32 0, .int .u32 0, .int .u16 0, .int .u16 0, .int .u8 0] 61)) := only_blk ho8 HX.out (by omega)
  have GY : Hid (w8.heap[w.heap.size + 1]? = some (.cells (flatT [tk0, tk0, tk0, tk0, tk0, tk0, tk0, tk0]).toArray 87)) := only_blk ho8 HY.out (by omega)
  have GA : Hid (w8.heap[1]? = some (.cells #[.string (aW 0), .string (aW 1), .string (aW 2), .string (aW 3), .string (aW 4)] zA.1 zA.2)) := only_blk ho8 HA.out (by omega)
  have GC : Hid (w8.heap[0]? = some (.cells #[.string (cW 0), .string (cW 1), .string (cW 2), .string (cW 3), .string (cW 4), .string (cW 5), .string (cW 6), .string (cW 7), .string (cW 8), .string (cW 9), .string (cW 10)] zC.1 zC.2)) := only_blk ho8 HC.out (by omega)
  have GE : Hid (w8.heap[wg.heap.size]? = some (.cells (flatT [tk0, tk0, tk0, tk0, tk0, tk0, tk0, tk0]).toArray 87)) := only_blk ho8 HE.out (by omega)
  have GG : Hid (w8.heap[w1.heap.size]? = some (.cells #[.int .i64 3, .int .i64 0, .int .i64 (r0.1 : Int), .int .i64 0, .int .u32 0, .int .i64 0, .int .u32 0, .int .i64 0, .int .u16 0, .int .u16 0, .int .u16 0, .int .u16 0, .int .u8 0, .int .u8 0, .int .i64 0, .int .u32 0, .int .u32 0, .int .u16 0, .int .u16 0, .int .u8 0] 61)) := hw8
  have HR2 : Hid (RAt w8 R b v L r0.2.a) := rat_only HR.out ho8 hlR (by omega) HT.out
  have HB2 : Hid (But R w w8) := but_newer HB.out ho8 (by omega)
  have HZ2 : Hid (w.heap.size + 1 + 1 ≤ w8.heap.size) := by show _ ≤ _; rw [ho8.size]; exact HZ.out
  clear HR HB HZ hw8 ho8 HX HY HA HC HG HE
  have HR := HR2
  have HB := HB2
  have HZ := HZ2
  have HX := GX
  have HY := GY
  have HA := GA
  have HC := GC
  have HG := GG
  have HE := GE
  clear HR2 HB2 HZ2 GX GY GA GC GG GE
  refine (hc1 _ HO.out HR.out).mono ?_
  rintro e w4 ⟨hB, ⟨hne, F, rfl, hF, hl⟩ | ⟨h0, rfl, hR⟩⟩
  · exact ⟨rfl, by rw [HBad2.out hne]; exact out_bad HB.out hB hne ⟨F, rfl, hF, hl⟩⟩
  have GX : Hid (w4.heap[w.heap.size]? = some (.cells #[.int .i64 0, .int .i64 0, .int .i64 0, .int .i64 0, .int .u32 0, .int .i64 0, .int .u32 0, .int .i64 0, .int .u16 0, .int .u16 0, .int .u16 0, .int .u16 0, .int .u8 0, .int .u8 0, .int .i64 0, .int .u32 0, .int .u32 0, .int .u16 0, .int .u16 0, .int .u8 0] 61)) := But.blk hB HX.out (by omega)
  have GY : Hid (w4.heap[w.heap.size + 1]? = some (.cells (flatT [tk0, tk0, tk0, tk0, tk0, tk0, tk0, tk0]).toArray 87)) := But.blk hB HY.out (by omega)
  have GA : Hid (w4.heap[1]? = some (.cells #[.string (aW 0), .string (aW 1), .string (aW 2), .string (aW 3), .string (aW 4)] zA.1 zA.2)) := But.blk hB HA.out (by omega)
  have GC : Hid (w4.heap[0]? = some (.cells #[.string (cW 0), .string (cW 1), .string (cW 2), .string (cW 3), .string (cW 4), .string (cW 5), .string (cW 6), .string (cW 7), .string (cW 8), .string (cW 9), .string (cW 10)] zC.1 zC.2)) := But.blk hB HC.out (by omega)
  have GG : Hid (w4.heap[w1.heap.size]? = some (.cells #[.int .i64 3, .int .i64 0, .int .i64 (r0.1 : Int), .int .i64 0, .int .u32 0, .int .i64 0, .int .u32 0, .int .i64 0, .int .u16 0, .int .u16 0, .int .u16 0, .int .u16 0, .int .u8 0, .int .u8 0, .int .i64 0, .int .u32 0, .int .u32 0, .int .u16 0, .int .u16 0, .int .u8 0] 61)) := But.blk hB HG.out (by omega)
  have GE : Hid (w4.heap[wg.heap.size]? = some (.cells (flatT [tk0, tk0, tk0, tk0, tk0, tk0, tk0, tk0]).toArray 87)) := But.blk hB HE.out (by omega)
  clear HX HY HA HC HG HE
  have HX := GX
  clear GX
  have HY := GY
  clear GY
  have HA := GA
  clear GA
  have HC := GC
  clear GC
  have HG := GG
  clear GG
  have HE := GE
  clear GE
  have HZ2 : Hid (w.heap.size + 1 + 1 ≤ w4.heap.size) := Nat.le_trans HZ.out hB.size
  have HB2 : Hid (But R w w4) := HB.out.tr hB
  clear HB HR HO HZ
  have HZ := HZ2
  have HB := HB2
  have HO : Hid (r1.2.w = ⟨0, 0, 0⟩) := h0
  have HR : Hid (RAt w4 R b v L r1.2.a) := hR
  clear HZ2 HB2 h0 hR hB
  go_upto_region 14 with (refine wpList_store_val rfl 3 (.tmp 34) (.tmp 33) rfl (w1.heap.size) 1 (.int .i64 (r1.1 : Int)) #[.int .i64 (r1.1 : Int)] #[.int .i64 3, .int .i64 (r1.1 : Int), .int .i64 (r0.1 : Int), .int .i64 0, .int .u32 0, .int .i64 0, .int .u32 0, .int .i64 0, .int .u16 0, .int .u16 0, .int .u16 0, .int .u16 0, .int .u8 0, .int .u8 0, .int .i64 0, .int .u32 0, .int .u32 0, .int .u16 0, .int .u16 0, .int .u8 0] rfl rfl rfl 61 _ HG.out (Nat.le_of_ble_eq_true rfl) rfl (by kernel_rfl) rfl ?_; intro w8 hw8 ho8)
  have GX : Hid (w8.heap[w.heap.size]? = some (.cells #[.int .i64 0, .int .i64 0, .int .i64 0, .int .i64 0, .int .u32 0, .int .i64 0, .int .u32 0, .int .i64 0, .int .u16 0, .int .u16 0, .int .u16 0, .int .u16 0, .int .u8 0, .int .u8 0, .int .i64 0, .int .u32 0, .int .u32 0, .int .u16 0, .int .u16 0, .int .u8 0] 61)) := only_blk ho8 HX.out (by omega)
  have GY : Hid (w8.heap[w.heap.size + 1]? = some (.cells (flatT [tk0, tk0, tk0, tk0, tk0, tk0, tk0, tk0]).toArray 87)) := only_blk ho8 HY.out (by omega)
  have GA : Hid (w8.heap[1]? = some (.cells #[.string (aW 0), .string (aW 1), .string (aW 2), .string (aW 3), .string (aW 4)] zA.1 zA.2)) := only_blk ho8 HA.out (by omega)
  have GC : Hid (w8.heap[0]? = some (.cells #[.string (cW 0), .string (cW 1), .string (cW 2), .string (cW 3), .string (cW 4), .string (cW 5), .string (cW 6), .string (cW 7), .string (cW 8), .string (cW 9), .string (cW 10)] zC.1 zC.2)) := only_blk ho8 HC.out (by omega)
  have GE : Hid (w8.heap[wg.heap.size]? = some (.cells (flatT [tk0, tk0, tk0, tk0, tk0, tk0, tk0, tk0]).toArray 87)) := only_blk ho8 HE.out (by omega)
  have GG : Hid (w8.heap[w1.heap.size]? = some (.cells #[.int .i64 3, .int .i64 (r1.1 : Int), .int .i64 (r0.1 : Int), .int .i64 0, .int .u32 0, .int .i64 0, .int .u32 0, .int .i64 0, .int .u16 0, .int .u16 0, .int .u16 0, .int .u16 0, .int .u8 0, .int .u8 0, .int .i64 0, .int .u32 0, .int .u32 0, .int .u16 0, .int .u16 0, .int .u8 0] 61)) := hw8
  have HR2 : Hid (RAt w8 R b v L r1.2.a) := rat_only HR.out ho8 hlR (by omega) HT.out
  have HB2 : Hid (But R w w8) := but_newer HB.out ho8 (by omega)
  have HZ2 : Hid (w.heap.size + 1 + 1 ≤ w8.heap.size) := by show _ ≤ _; rw [ho8.size]; exact HZ.out
  clear HR HB HZ hw8 ho8 HX HY HA HC HG HE
  have HR := HR2
  have HB := HB2
  have HZ := HZ2
  have HX := GX
  have HY := GY
  have HA := GA
  have HC := GC
  have HG := GG
  have HE := GE
  clear HR2 HB2 HZ2 GX GY GA GC GG GE
  refine wp_region_held_drew (S := fun w' => w'.heap[w1.heap.size]? = some (.cells #[.int .i64 3, .int .i64 (r1.1 : Int), .int .i64 (r0.1 : Int), .int .i64 0, .int .u32 0, .int .i64 0, .int .u32 0, .int .i64 0, .int .u16 0, .int .u16 0, .int .u16 0, .int .u16 0, .int .u8 0, .int .u8 0, .int .i64 0, .int .u32 0, .int .u32 0, .int .u16 0, .int .u16 0, .int .u8 0] 61) ∧ w'.heap[wg.heap.size]? = some (.cells (flatT [tk0, tk0, tk0, tk0, tk0, tk0, tk0, tk0]).toArray 87)) (by kernel_rfl) ⟨HG.out, HE.out⟩ (fun hS0 => ?_)
  show wpAnyH _ _ _ _ _ 4 _ _ _
  refine wpAnyH_take (i := 0) rfl (by kernel_rfl) (by kernel_rfl) (by kernel_rfl) (fun _ _ _ h => h) (yieldsIf_load_mid rfl 61 (.tmp 4) rfl (w1.heap.size) 0 rfl _ _ (fun w' hw' => rng_all hw'.1) Tryz.underlying61 rfl (by kernel_rfl)) hS0 ?_
  simp only [List.getElem_toArray, List.getElem_cons_succ, List.getElem_cons_zero, Act.put, List.setIfInBounds_toArray, List.set_cons_zero, List.set_cons_succ]
  refine wpAnyH_take (i := 1) rfl (by kernel_rfl) (by kernel_rfl) (by kernel_rfl) (fun _ _ _ h => h) (yieldsIf_load_mid rfl 87 (.tmp 5) rfl (wg.heap.size) 0 rfl _ _ (fun w' hw' => rng_all hw'.2) Tryz.underlying87 rfl (by kernel_rfl)) hS0 ?_
  simp only [List.getElem_toArray, List.getElem_cons_succ, List.getElem_cons_zero, Act.put, List.setIfInBounds_toArray, List.set_cons_zero, List.set_cons_succ]
  refine wpAnyH_all (rs := [2]) (by kernel_rfl) (by simp) ?_
  intro i hi
  simp only [List.mem_cons, List.not_mem_nil, or_false] at hi
  subst hi
  · refine wpOp_of_wp rfl rfl (fun K' hK' => ?_)
    refine wp_store_blk 61 (.tmp 2) (.tmp 40) rfl (w.heap.size) 0 #[.int .i64 3, .int .i64 (r1.1 : Int), .int .i64 (r0.1 : Int), .int .i64 0, .int .u32 0, .int .i64 0, .int .u32 0, .int .i64 0, .int .u16 0, .int .u16 0, .int .u16 0, .int .u16 0, .int .u8 0, .int .u8 0, .int .i64 0, .int .u32 0, .int .u32 0, .int .u16 0, .int .u16 0, .int .u8 0] #[.int .i64 3, .int .i64 (r1.1 : Int), .int .i64 (r0.1 : Int), .int .i64 0, .int .u32 0, .int .i64 0, .int .u32 0, .int .i64 0, .int .u16 0, .int .u16 0, .int .u16 0, .int .u16 0, .int .u8 0, .int .u8 0, .int .i64 0, .int .u32 0, .int .u32 0, .int .u16 0, .int .u16 0, .int .u8 0] rfl rfl 61 _ HX.out (Nat.le_of_ble_eq_true rfl) rfl (by kernel_rfl) rfl (fun w9 h9 ho9 => hK' _ _ ⟨?_, ?_⟩)
    · exact ⟨only_blk ho9 HG.out (by omega), only_blk ho9 HE.out (by omega)⟩
    · have hO9 := only_blk ho9 HY.out (by omega)
      refine wpAnyH_all (rs := [3]) (by kernel_rfl) (by simp) ?_
      intro i hi
      simp only [List.mem_cons, List.not_mem_nil, or_false] at hi
      subst hi
      refine wpOp_of_wp rfl rfl (fun K' hK' => ?_)
      refine wp_store_blk 87 (.tmp 3) (.tmp 41) rfl (w.heap.size + 1) 0 (flatT [tk0, tk0, tk0, tk0, tk0, tk0, tk0, tk0]).toArray (flatT [tk0, tk0, tk0, tk0, tk0, tk0, tk0, tk0]).toArray rfl rfl 87 _ hO9 (Nat.le_of_ble_eq_true rfl) rfl (by kernel_rfl) rfl (fun w10 h10 ho10 => hK' _ _ ⟨?_, ?_⟩)
      · exact ⟨only_blk ho10 (only_blk ho9 HG.out (by omega)) (by omega), only_blk ho10 (only_blk ho9 HE.out (by omega)) (by omega)⟩
      · refine wpAnyH_done (by kernel_rfl) ?_ _
        simp only [List.getElem_toArray, List.getElem_cons_succ, List.getElem_cons_zero, Act.put, List.setIfInBounds_toArray, List.set_cons_zero, List.set_cons_succ]
        have HX9 : Hid (w10.heap[w.heap.size]? = some (.cells #[.int .i64 3, .int .i64 (r1.1 : Int), .int .i64 (r0.1 : Int), .int .i64 0, .int .u32 0, .int .i64 0, .int .u32 0, .int .i64 0, .int .u16 0, .int .u16 0, .int .u16 0, .int .u16 0, .int .u8 0, .int .u8 0, .int .i64 0, .int .u32 0, .int .u32 0, .int .u16 0, .int .u16 0, .int .u8 0] 61)) := only_blk ho10 h9 (by omega)
        have HY9 : Hid (w10.heap[w.heap.size + 1]? = some (.cells (flatT [tk0, tk0, tk0, tk0, tk0, tk0, tk0, tk0]).toArray 87)) := h10
        have HB9 : Hid (But R w w10) := but_newer (but_newer HB.out.dr ho9 (by omega)) ho10 (by omega)
        have HR9 : Hid (RAt w10 R b v L r1.2.a) := rat_only (rat_only (HR.out.on (Below.refl _ _).drew) ho9 hlR (by omega) HT.out) ho10 hlR (by omega) HT.out
        clear h9 ho9 h10 ho10 hO9 hS0
        go_wp2_with (fail)
        exact bodyPost_ret (results_blks Tryz.results33 rfl rfl HX9.out Tryz.underlying61 rfl (by kernel_rfl) HY9.out Tryz.underlying87 rfl (by kernel_rfl)) rfl ⟨HB9.out, .inr ⟨by rw [HD.out]; exact HO.out, by rw [HD.out] <;> rfl, by rw [HD.out]; exact HR9.out⟩⟩
set_option maxRecDepth 20000 in
set_option maxHeartbeats 16000000 in
theorem command4 (w : World) (R b : Nat) (v : Value) (L : List Tk) (st : Rd) (hw : st.w = ⟨0, 0, 0⟩) (h : RAt w R b v L st.a) (hA : ActAt zA w) (hC : CmdAt zC w) (hgR : 8 < R) (hk : (kndS L st).1 = 4) :
    Calls Tryz.prog 33 #[.pointer (some ⟨R, 0, none⟩)] w fun e w' => Out w R b v L (.tuple #[.agg #[.int .i64 (cvOf (cmdS L st).1).k, .int .i64 (cvOf (cmdS L st).1).n, .int .i64 (cvOf (cmdS L st).1).i, .int .i64 (cvOf (cmdS L st).1).r.i, .int .u32 ((cvOf (cmdS L st).1).r.s : Int), .int .i64 (cvOf (cmdS L st).1).r.sl, .int .u32 ((cvOf (cmdS L st).1).r.d : Int), .int .i64 (cvOf (cmdS L st).1).r.dl, .int .u16 ((cvOf (cmdS L st).1).r.p.1 : Int), .int .u16 ((cvOf (cmdS L st).1).r.p.2 : Int), .int .u16 ((cvOf (cmdS L st).1).r.q.1 : Int), .int .u16 ((cvOf (cmdS L st).1).r.q.2 : Int), .int .u8 ((cvOf (cmdS L st).1).r.m.1 : Int), .int .u8 ((cvOf (cmdS L st).1).r.m.2 : Int), .int .i64 (cvOf (cmdS L st).1).r.act, .int .u32 ((cvOf (cmdS L st).1).h.1 : Int), .int .u32 ((cvOf (cmdS L st).1).h.2.1 : Int), .int .u16 ((cvOf (cmdS L st).1).h.2.2.1 : Int), .int .u16 ((cvOf (cmdS L st).1).h.2.2.2.1 : Int), .int .u8 ((cvOf (cmdS L st).1).h.2.2.2.2 : Int)], .agg (flatT (begsC L st)).toArray]) (cmdS L st).2.2 e w' := by
  have HT : Hid (Old w.heap.size v) := h.old
  have hK : ∀ W : World, RAt W R b v L st.a → CmdAt zC W → Calls Tryz.prog 58 #[.pointer (some ⟨R, 0, none⟩)] W _ := fun W hW hX => commandKindS W R b v L st hw hW hX
  have hKe := @knd_e L st hw
  have hD := @cmd_k4 L st hk
  have hBg : begsC L st = [tk0, tk0, tk0, tk0, tk0, tk0, tk0, tk0] := by unfold begsC; rw [if_neg (by omega)]
  rw [hBg]
  clear hBg
  have HD : Hid _ := hD
  clear hD
  generalize cmdS L st = P at *
  generalize kndS L st = S0 at *
  obtain ⟨kk, s0⟩ := S0
  simp only at hk HD hK hKe
  subst hk
  have hK0 : s0.w.e = 0 := by rcases Nat.eq_zero_or_pos s0.w.e with c | c; exact c; exact absurd (hKe (by omega)) (by omega)
  have HBad0 : Hid (s0.w.e ≠ 0 → P.2.2 = s0) := fun hne => absurd hK0 hne
  clear hKe hK0
  have hc0 : ∀ W : World, s0.w = ⟨0, 0, 0⟩ → RAt W R b v L s0.a → Calls Tryz.prog 60 #[.pointer (some ⟨R, 0, none⟩)] W _ := fun W h0 hW => headerC W R b v L s0 h0 hW
  have HS0 : Hid (s0.w.e ≠ 0 → (headS L s0).2 = s0) := fun h => head_st h
  generalize headS L s0 = r0 at *
  have HBad1 : Hid (r0.2.w.e ≠ 0 → P.2.2 = r0.2) := fun hne => by rw [HD.out]
  obtain ⟨W0, hW0⟩ : ∃ W0, W0 = ((w.alloc (.cells #[.int .i64 0, .int .i64 0, .int .i64 0, .int .i64 0, .int .u32 0, .int .i64 0, .int .u32 0, .int .i64 0, .int .u16 0, .int .u16 0, .int .u16 0, .int .u16 0, .int .u8 0, .int .u8 0, .int .i64 0, .int .u32 0, .int .u32 0, .int .u16 0, .int .u16 0, .int .u8 0] 61)).alloc (.cells #[.int .i64 0, .string ⟨#[]⟩, .int .u32 0, .int .i64 0, .int .i64 0, .int .i64 0, .string ⟨#[]⟩, .int .u32 0, .int .i64 0, .int .i64 0, .int .i64 0, .string ⟨#[]⟩, .int .u32 0, .int .i64 0, .int .i64 0, .int .i64 0, .string ⟨#[]⟩, .int .u32 0, .int .i64 0, .int .i64 0, .int .i64 0, .string ⟨#[]⟩, .int .u32 0, .int .i64 0, .int .i64 0, .int .i64 0, .string ⟨#[]⟩, .int .u32 0, .int .i64 0, .int .i64 0, .int .i64 0, .string ⟨#[]⟩, .int .u32 0, .int .i64 0, .int .i64 0, .int .i64 0, .string ⟨#[]⟩, .int .u32 0, .int .i64 0, .int .i64 0] 87)) := ⟨_, rfl⟩
  have hBel : Below w.heap.size w W0 := by rw [hW0]; (repeat (first | assumption | exact Below.refl _ _ | refine Below.drew ?_ | refine bel_drewN ?_ _ | refine Below.setCell ?_ (by first | omega | (simp; done) | (simp; omega)) _ | refine Below.alloc ?_ (by first | omega | (simp; done) | (simp; omega)) _ | refine bel_of ?_ (by assumption)))
  have HX : Hid (W0.heap[w.heap.size]? = some (.cells #[.int .i64 0, .int .i64 0, .int .i64 0, .int .i64 0, .int .u32 0, .int .i64 0, .int .u32 0, .int .i64 0, .int .u16 0, .int .u16 0, .int .u16 0, .int .u16 0, .int .u8 0, .int .u8 0, .int .i64 0, .int .u32 0, .int .u32 0, .int .u16 0, .int .u16 0, .int .u8 0] 61)) := by show _ = _; rw [hW0]; exact (blk_alloc (blk_new w (.cells #[.int .i64 0, .int .i64 0, .int .i64 0, .int .i64 0, .int .u32 0, .int .i64 0, .int .u32 0, .int .i64 0, .int .u16 0, .int .u16 0, .int .u16 0, .int .u16 0, .int .u8 0, .int .u8 0, .int .i64 0, .int .u32 0, .int .u32 0, .int .u16 0, .int .u16 0, .int .u8 0] 61)) _)
  have HY : Hid (W0.heap[w.heap.size + 1]? = some (.cells (flatT [tk0, tk0, tk0, tk0, tk0, tk0, tk0, tk0]).toArray 87)) := by show _ = _; rw [hW0]; exact (blk_newN (by simp) _)
  have hlR : R < w.heap.size := blk_lt h.r
  have HR : Hid (RAt W0 R b v L st.a) := h.on hBel
  have HB : Hid (But R w W0) := But.of hBel
  have HO : Hid (st.w = ⟨0, 0, 0⟩) := hw
  have HZ : Hid (w.heap.size + 1 + 1 ≤ W0.heap.size) := by show _ ≤ _; rw [hW0]; simp
  clear hBel h hw
  have HA : Hid (W0.heap[1]? = some (.cells #[.string (aW 0), .string (aW 1), .string (aW 2), .string (aW 3), .string (aW 4)] zA.1 zA.2)) := by show _ = _; rw [hW0]; exact blk_alloc (blk_alloc hA _) _
  have HC : Hid (W0.heap[0]? = some (.cells #[.string (cW 0), .string (cW 1), .string (cW 2), .string (cW 3), .string (cW 4), .string (cW 5), .string (cW 6), .string (cW 7), .string (cW 8), .string (cW 9), .string (cW 10)] zC.1 zC.2)) := by show _ = _; rw [hW0]; exact blk_alloc (blk_alloc hC _) _
  clear hA hC
  go_enter Tryz.func33, Tryz.ntmps33
  go_upto_region 1 with (fail)
  rw [← hW0]
  clear hW0
  go_wp2_with (fail)
  refine (hK _ HR.out HC.out).mono ?_
  rintro e w1 ⟨hB, ⟨hne, F, rfl, hF, hl⟩ | ⟨h0, rfl, hR⟩⟩
  · exact ⟨rfl, by rw [HBad0.out hne]; exact out_bad HB.out hB hne ⟨F, rfl, hF, hl⟩⟩
  have GX : Hid (w1.heap[w.heap.size]? = some (.cells #[.int .i64 0, .int .i64 0, .int .i64 0, .int .i64 0, .int .u32 0, .int .i64 0, .int .u32 0, .int .i64 0, .int .u16 0, .int .u16 0, .int .u16 0, .int .u16 0, .int .u8 0, .int .u8 0, .int .i64 0, .int .u32 0, .int .u32 0, .int .u16 0, .int .u16 0, .int .u8 0] 61)) := But.blk hB HX.out (by omega)
  have GY : Hid (w1.heap[w.heap.size + 1]? = some (.cells (flatT [tk0, tk0, tk0, tk0, tk0, tk0, tk0, tk0]).toArray 87)) := But.blk hB HY.out (by omega)
  have GA : Hid (w1.heap[1]? = some (.cells #[.string (aW 0), .string (aW 1), .string (aW 2), .string (aW 3), .string (aW 4)] zA.1 zA.2)) := But.blk hB HA.out (by omega)
  have GC : Hid (w1.heap[0]? = some (.cells #[.string (cW 0), .string (cW 1), .string (cW 2), .string (cW 3), .string (cW 4), .string (cW 5), .string (cW 6), .string (cW 7), .string (cW 8), .string (cW 9), .string (cW 10)] zC.1 zC.2)) := But.blk hB HC.out (by omega)
  clear HX HY HA HC
  have HX := GX
  clear GX
  have HY := GY
  clear GY
  have HA := GA
  clear GA
  have HC := GC
  clear GC
  have HZ2 : Hid (w.heap.size + 1 + 1 ≤ w1.heap.size) := Nat.le_trans HZ.out hB.size
  have HB2 : Hid (But R w w1) := HB.out.tr hB
  clear HB HR HO HZ
  have HZ := HZ2
  have HB := HB2
  have HO : Hid (s0.w = ⟨0, 0, 0⟩) := h0
  have HR : Hid (RAt w1 R b v L s0.a) := hR
  clear HZ2 HB2 h0 hR hB
  go_upto_region 3 with (refine wpList_store_blk rfl 61 (.tmp 4) (.tmp 8) rfl w1.heap.size 0 #[.int .i64 4, .int .i64 0, .int .i64 0, .int .i64 0, .int .u32 0, .int .i64 0, .int .u32 0, .int .i64 0, .int .u16 0, .int .u16 0, .int .u16 0, .int .u16 0, .int .u8 0, .int .u8 0, .int .i64 0, .int .u32 0, .int .u32 0, .int .u16 0, .int .u16 0, .int .u8 0] #[.int .i64 4, .int .i64 0, .int .i64 0, .int .i64 0, .int .u32 0, .int .i64 0, .int .u32 0, .int .i64 0, .int .u16 0, .int .u16 0, .int .u16 0, .int .u16 0, .int .u8 0, .int .u8 0, .int .i64 0, .int .u32 0, .int .u32 0, .int .u16 0, .int .u16 0, .int .u8 0] rfl rfl 61 _ (blk_new w1 (.cells #[.int .i64 0, .int .i64 0, .int .i64 0, .int .i64 0, .int .u32 0, .int .i64 0, .int .u32 0, .int .i64 0, .int .u16 0, .int .u16 0, .int .u16 0, .int .u16 0, .int .u8 0, .int .u8 0, .int .i64 0, .int .u32 0, .int .u32 0, .int .u16 0, .int .u16 0, .int .u8 0] 61)) (Nat.le_of_ble_eq_true rfl) rfl (by kernel_rfl) rfl ?_; intro wg hwg hog)
  have hbel : Below w1.heap.size w1 (wg.alloc (.cells #[.int .i64 0, .string ⟨#[]⟩, .int .u32 0, .int .i64 0, .int .i64 0, .int .i64 0, .string ⟨#[]⟩, .int .u32 0, .int .i64 0, .int .i64 0, .int .i64 0, .string ⟨#[]⟩, .int .u32 0, .int .i64 0, .int .i64 0, .int .i64 0, .string ⟨#[]⟩, .int .u32 0, .int .i64 0, .int .i64 0, .int .i64 0, .string ⟨#[]⟩, .int .u32 0, .int .i64 0, .int .i64 0, .int .i64 0, .string ⟨#[]⟩, .int .u32 0, .int .i64 0, .int .i64 0, .int .i64 0, .string ⟨#[]⟩, .int .u32 0, .int .i64 0, .int .i64 0, .int .i64 0, .string ⟨#[]⟩, .int .u32 0, .int .i64 0, .int .i64 0] 87)) := (((Below.refl _ _).alloc (Nat.le_refl _) _).trans (hog.below (Nat.le_refl _))).alloc (by rw [hog.size]; simp) _
  have zg : wg.heap.size = w1.heap.size + 1 := by rw [hog.size]; simp
  have zg1 : wg.heap.size ≤ w1.heap.size + 1 := Nat.le_of_eq zg
  have zg2 : w1.heap.size + 1 ≤ wg.heap.size := Nat.le_of_eq zg.symm
  have zw : w.heap.size + 1 + 1 ≤ w1.heap.size := HZ.out
  have GX : Hid ((wg.alloc (.cells #[.int .i64 0, .string ⟨#[]⟩, .int .u32 0, .int .i64 0, .int .i64 0, .int .i64 0, .string ⟨#[]⟩, .int .u32 0, .int .i64 0, .int .i64 0, .int .i64 0, .string ⟨#[]⟩, .int .u32 0, .int .i64 0, .int .i64 0, .int .i64 0, .string ⟨#[]⟩, .int .u32 0, .int .i64 0, .int .i64 0, .int .i64 0, .string ⟨#[]⟩, .int .u32 0, .int .i64 0, .int .i64 0, .int .i64 0, .string ⟨#[]⟩, .int .u32 0, .int .i64 0, .int .i64 0, .int .i64 0, .string ⟨#[]⟩, .int .u32 0, .int .i64 0, .int .i64 0, .int .i64 0, .string ⟨#[]⟩, .int .u32 0, .int .i64 0, .int .i64 0] 87)).heap[w.heap.size]? = some (.cells #[.int .i64 0, .int .i64 0, .int .i64 0, .int .i64 0, .int .u32 0, .int .i64 0, .int .u32 0, .int .i64 0, .int .u16 0, .int .u16 0, .int .u16 0, .int .u16 0, .int .u8 0, .int .u8 0, .int .i64 0, .int .u32 0, .int .u32 0, .int .u16 0, .int .u16 0, .int .u8 0] 61)) := blk_on HX.out hbel
  have GY : Hid ((wg.alloc (.cells #[.int .i64 0, .string ⟨#[]⟩, .int .u32 0, .int .i64 0, .int .i64 0, .int .i64 0, .string ⟨#[]⟩, .int .u32 0, .int .i64 0, .int .i64 0, .int .i64 0, .string ⟨#[]⟩, .int .u32 0, .int .i64 0, .int .i64 0, .int .i64 0, .string ⟨#[]⟩, .int .u32 0, .int .i64 0, .int .i64 0, .int .i64 0, .string ⟨#[]⟩, .int .u32 0, .int .i64 0, .int .i64 0, .int .i64 0, .string ⟨#[]⟩, .int .u32 0, .int .i64 0, .int .i64 0, .int .i64 0, .string ⟨#[]⟩, .int .u32 0, .int .i64 0, .int .i64 0, .int .i64 0, .string ⟨#[]⟩, .int .u32 0, .int .i64 0, .int .i64 0] 87)).heap[w.heap.size + 1]? = some (.cells (flatT [tk0, tk0, tk0, tk0, tk0, tk0, tk0, tk0]).toArray 87)) := blk_on HY.out hbel
  have GA : Hid ((wg.alloc (.cells #[.int .i64 0, .string ⟨#[]⟩, .int .u32 0, .int .i64 0, .int .i64 0, .int .i64 0, .string ⟨#[]⟩, .int .u32 0, .int .i64 0, .int .i64 0, .int .i64 0, .string ⟨#[]⟩, .int .u32 0, .int .i64 0, .int .i64 0, .int .i64 0, .string ⟨#[]⟩, .int .u32 0, .int .i64 0, .int .i64 0, .int .i64 0, .string ⟨#[]⟩, .int .u32 0, .int .i64 0, .int .i64 0, .int .i64 0, .string ⟨#[]⟩, .int .u32 0, .int .i64 0, .int .i64 0, .int .i64 0, .string ⟨#[]⟩, .int .u32 0, .int .i64 0, .int .i64 0, .int .i64 0, .string ⟨#[]⟩, .int .u32 0, .int .i64 0, .int .i64 0] 87)).heap[1]? = some (.cells #[.string (aW 0), .string (aW 1), .string (aW 2), .string (aW 3), .string (aW 4)] zA.1 zA.2)) := blk_on HA.out hbel
  have GC : Hid ((wg.alloc (.cells #[.int .i64 0, .string ⟨#[]⟩, .int .u32 0, .int .i64 0, .int .i64 0, .int .i64 0, .string ⟨#[]⟩, .int .u32 0, .int .i64 0, .int .i64 0, .int .i64 0, .string ⟨#[]⟩, .int .u32 0, .int .i64 0, .int .i64 0, .int .i64 0, .string ⟨#[]⟩, .int .u32 0, .int .i64 0, .int .i64 0, .int .i64 0, .string ⟨#[]⟩, .int .u32 0, .int .i64 0, .int .i64 0, .int .i64 0, .string ⟨#[]⟩, .int .u32 0, .int .i64 0, .int .i64 0, .int .i64 0, .string ⟨#[]⟩, .int .u32 0, .int .i64 0, .int .i64 0, .int .i64 0, .string ⟨#[]⟩, .int .u32 0, .int .i64 0, .int .i64 0] 87)).heap[0]? = some (.cells #[.string (cW 0), .string (cW 1), .string (cW 2), .string (cW 3), .string (cW 4), .string (cW 5), .string (cW 6), .string (cW 7), .string (cW 8), .string (cW 9), .string (cW 10)] zC.1 zC.2)) := blk_on HC.out hbel
  have HG : Hid ((wg.alloc (.cells #[.int .i64 0, .string ⟨#[]⟩, .int .u32 0, .int .i64 0, .int .i64 0, .int .i64 0, .string ⟨#[]⟩, .int .u32 0, .int .i64 0, .int .i64 0, .int .i64 0, .string ⟨#[]⟩, .int .u32 0, .int .i64 0, .int .i64 0, .int .i64 0, .string ⟨#[]⟩, .int .u32 0, .int .i64 0, .int .i64 0, .int .i64 0, .string ⟨#[]⟩, .int .u32 0, .int .i64 0, .int .i64 0, .int .i64 0, .string ⟨#[]⟩, .int .u32 0, .int .i64 0, .int .i64 0, .int .i64 0, .string ⟨#[]⟩, .int .u32 0, .int .i64 0, .int .i64 0, .int .i64 0, .string ⟨#[]⟩, .int .u32 0, .int .i64 0, .int .i64 0] 87)).heap[w1.heap.size]? = some (.cells #[.int .i64 4, .int .i64 0, .int .i64 0, .int .i64 0, .int .u32 0, .int .i64 0, .int .u32 0, .int .i64 0, .int .u16 0, .int .u16 0, .int .u16 0, .int .u16 0, .int .u8 0, .int .u8 0, .int .i64 0, .int .u32 0, .int .u32 0, .int .u16 0, .int .u16 0, .int .u8 0] 61)) := blk_alloc hwg _
  have HE : Hid ((wg.alloc (.cells #[.int .i64 0, .string ⟨#[]⟩, .int .u32 0, .int .i64 0, .int .i64 0, .int .i64 0, .string ⟨#[]⟩, .int .u32 0, .int .i64 0, .int .i64 0, .int .i64 0, .string ⟨#[]⟩, .int .u32 0, .int .i64 0, .int .i64 0, .int .i64 0, .string ⟨#[]⟩, .int .u32 0, .int .i64 0, .int .i64 0, .int .i64 0, .string ⟨#[]⟩, .int .u32 0, .int .i64 0, .int .i64 0, .int .i64 0, .string ⟨#[]⟩, .int .u32 0, .int .i64 0, .int .i64 0, .int .i64 0, .string ⟨#[]⟩, .int .u32 0, .int .i64 0, .int .i64 0, .int .i64 0, .string ⟨#[]⟩, .int .u32 0, .int .i64 0, .int .i64 0] 87)).heap[wg.heap.size]? = some (.cells (flatT [tk0, tk0, tk0, tk0, tk0, tk0, tk0, tk0]).toArray 87)) := blk_new wg _
  have HR2 : Hid (RAt (wg.alloc (.cells #[.int .i64 0, .string ⟨#[]⟩, .int .u32 0, .int .i64 0, .int .i64 0, .int .i64 0, .string ⟨#[]⟩, .int .u32 0, .int .i64 0, .int .i64 0, .int .i64 0, .string ⟨#[]⟩, .int .u32 0, .int .i64 0, .int .i64 0, .int .i64 0, .string ⟨#[]⟩, .int .u32 0, .int .i64 0, .int .i64 0, .int .i64 0, .string ⟨#[]⟩, .int .u32 0, .int .i64 0, .int .i64 0, .int .i64 0, .string ⟨#[]⟩, .int .u32 0, .int .i64 0, .int .i64 0, .int .i64 0, .string ⟨#[]⟩, .int .u32 0, .int .i64 0, .int .i64 0, .int .i64 0, .string ⟨#[]⟩, .int .u32 0, .int .i64 0, .int .i64 0] 87)) R b v L s0.a) := HR.out.on hbel
  have HB2 : Hid (But R w (wg.alloc (.cells #[.int .i64 0, .string ⟨#[]⟩, .int .u32 0, .int .i64 0, .int .i64 0, .int .i64 0, .string ⟨#[]⟩, .int .u32 0, .int .i64 0, .int .i64 0, .int .i64 0, .string ⟨#[]⟩, .int .u32 0, .int .i64 0, .int .i64 0, .int .i64 0, .string ⟨#[]⟩, .int .u32 0, .int .i64 0, .int .i64 0, .int .i64 0, .string ⟨#[]⟩, .int .u32 0, .int .i64 0, .int .i64 0, .int .i64 0, .string ⟨#[]⟩, .int .u32 0, .int .i64 0, .int .i64 0, .int .i64 0, .string ⟨#[]⟩, .int .u32 0, .int .i64 0, .int .i64 0, .int .i64 0, .string ⟨#[]⟩, .int .u32 0, .int .i64 0, .int .i64 0] 87))) := HB.out.then hbel
  have HZ2 : Hid (w.heap.size + 1 + 1 ≤ (wg.alloc (.cells #[.int .i64 0, .string ⟨#[]⟩, .int .u32 0, .int .i64 0, .int .i64 0, .int .i64 0, .string ⟨#[]⟩, .int .u32 0, .int .i64 0, .int .i64 0, .int .i64 0, .string ⟨#[]⟩, .int .u32 0, .int .i64 0, .int .i64 0, .int .i64 0, .string ⟨#[]⟩, .int .u32 0, .int .i64 0, .int .i64 0, .int .i64 0, .string ⟨#[]⟩, .int .u32 0, .int .i64 0, .int .i64 0, .int .i64 0, .string ⟨#[]⟩, .int .u32 0, .int .i64 0, .int .i64 0, .int .i64 0, .string ⟨#[]⟩, .int .u32 0, .int .i64 0, .int .i64 0, .int .i64 0, .string ⟨#[]⟩, .int .u32 0, .int .i64 0, .int .i64 0] 87)).heap.size) := Nat.le_trans HZ.out hbel.size
  clear HR HB HZ hbel zg hwg hog HX HY HA HC
  have HR := HR2
  have HB := HB2
  have HZ := HZ2
  have HX := GX
  have HY := GY
  have HA := GA
  have HC := GC
  clear HR2 HB2 HZ2 GX GY GA GC
  generalize hWg : wg.alloc (.cells #[.int .i64 0, .string ⟨#[]⟩, .int .u32 0, .int .i64 0, .int .i64 0, .int .i64 0, .string ⟨#[]⟩, .int .u32 0, .int .i64 0, .int .i64 0, .int .i64 0, .string ⟨#[]⟩, .int .u32 0, .int .i64 0, .int .i64 0, .int .i64 0, .string ⟨#[]⟩, .int .u32 0, .int .i64 0, .int .i64 0, .int .i64 0, .string ⟨#[]⟩, .int .u32 0, .int .i64 0, .int .i64 0, .int .i64 0, .string ⟨#[]⟩, .int .u32 0, .int .i64 0, .int .i64 0, .int .i64 0, .string ⟨#[]⟩, .int .u32 0, .int .i64 0, .int .i64 0, .int .i64 0, .string ⟨#[]⟩, .int .u32 0, .int .i64 0, .int .i64 0] 87) = Wg at *
  clear hWg
  have q0 : Wg.cell? ⟨w1.heap.size, 0, none⟩ = some (.int .i64 4) := blk_cell HG.out rfl
  go_wp2_with (fail)
  refine (hc0 _ HO.out HR.out).mono ?_
  rintro e w2 ⟨hB, ⟨hne, F, rfl, hF, hl⟩ | ⟨h0, rfl, hR⟩⟩
  · exact ⟨rfl, by rw [HBad1.out hne]; exact out_bad HB.out hB hne ⟨F, rfl, hF, hl⟩⟩
  have GX : Hid (w2.heap[w.heap.size]? = some (.cells #[.int .i64 0, .int .i64 0, .int .i64 0, .int .i64 0, .int .u32 0, .int .i64 0, .int .u32 0, .int .i64 0, .int .u16 0, .int .u16 0, .int .u16 0, .int .u16 0, .int .u8 0, .int .u8 0, .int .i64 0, .int .u32 0, .int .u32 0, .int .u16 0, .int .u16 0, .int .u8 0] 61)) := But.blk hB HX.out (by omega)
  have GY : Hid (w2.heap[w.heap.size + 1]? = some (.cells (flatT [tk0, tk0, tk0, tk0, tk0, tk0, tk0, tk0]).toArray 87)) := But.blk hB HY.out (by omega)
  have GA : Hid (w2.heap[1]? = some (.cells #[.string (aW 0), .string (aW 1), .string (aW 2), .string (aW 3), .string (aW 4)] zA.1 zA.2)) := But.blk hB HA.out (by omega)
  have GC : Hid (w2.heap[0]? = some (.cells #[.string (cW 0), .string (cW 1), .string (cW 2), .string (cW 3), .string (cW 4), .string (cW 5), .string (cW 6), .string (cW 7), .string (cW 8), .string (cW 9), .string (cW 10)] zC.1 zC.2)) := But.blk hB HC.out (by omega)
  have GG : Hid (w2.heap[w1.heap.size]? = some (.cells #[.int .i64 4, .int .i64 0, .int .i64 0, .int .i64 0, .int .u32 0, .int .i64 0, .int .u32 0, .int .i64 0, .int .u16 0, .int .u16 0, .int .u16 0, .int .u16 0, .int .u8 0, .int .u8 0, .int .i64 0, .int .u32 0, .int .u32 0, .int .u16 0, .int .u16 0, .int .u8 0] 61)) := But.blk hB HG.out (by omega)
  have GE : Hid (w2.heap[wg.heap.size]? = some (.cells (flatT [tk0, tk0, tk0, tk0, tk0, tk0, tk0, tk0]).toArray 87)) := But.blk hB HE.out (by omega)
  clear HX HY HA HC HG HE
  have HX := GX
  clear GX
  have HY := GY
  clear GY
  have HA := GA
  clear GA
  have HC := GC
  clear GC
  have HG := GG
  clear GG
  have HE := GE
  clear GE
  have HZ2 : Hid (w.heap.size + 1 + 1 ≤ w2.heap.size) := Nat.le_trans HZ.out hB.size
  have HB2 : Hid (But R w w2) := HB.out.tr hB
  clear HB HR HO HZ
  have HZ := HZ2
  have HB := HB2
  have HO : Hid (r0.2.w = ⟨0, 0, 0⟩) := h0
  have HR : Hid (RAt w2 R b v L r0.2.a) := hR
  clear HZ2 HB2 h0 hR hB
  go_upto_region 14 with (refine wpList_store_val rfl 56 (.tmp 39) (.tmp 38) rfl (w1.heap.size) 15 (.agg #[.int .u32 (r0.1.1 : Int), .int .u32 (r0.1.2.1 : Int), .int .u16 (r0.1.2.2.1 : Int), .int .u16 (r0.1.2.2.2.1 : Int), .int .u8 (r0.1.2.2.2.2 : Int)]) #[.int .u32 (r0.1.1 : Int), .int .u32 (r0.1.2.1 : Int), .int .u16 (r0.1.2.2.1 : Int), .int .u16 (r0.1.2.2.2.1 : Int), .int .u8 (r0.1.2.2.2.2 : Int)] #[.int .i64 4, .int .i64 0, .int .i64 0, .int .i64 0, .int .u32 0, .int .i64 0, .int .u32 0, .int .i64 0, .int .u16 0, .int .u16 0, .int .u16 0, .int .u16 0, .int .u8 0, .int .u8 0, .int .i64 0, .int .u32 (r0.1.1 : Int), .int .u32 (r0.1.2.1 : Int), .int .u16 (r0.1.2.2.1 : Int), .int .u16 (r0.1.2.2.2.1 : Int), .int .u8 (r0.1.2.2.2.2 : Int)] rfl rfl rfl 61 _ HG.out (Nat.le_of_ble_eq_true rfl) rfl (by kernel_rfl) rfl ?_; intro w8 hw8 ho8)
  have GX : Hid (w8.heap[w.heap.size]? = some (.cells #[.int .i64 0, .int .i64 0, .int .i64 0, .int .i64 0, .int .u32 0, .int .i64 0, .int .u32 0, .int .i64 0, .int .u16 0, .int .u16 0, .int .u16 0, .int .u16 0, .int .u8 0, .int .u8 0, .int .i64 0, .int .u32 0, .int .u32 0, .int .u16 0, .int .u16 0, .int .u8 0] 61)) := only_blk ho8 HX.out (by omega)
  have GY : Hid (w8.heap[w.heap.size + 1]? = some (.cells (flatT [tk0, tk0, tk0, tk0, tk0, tk0, tk0, tk0]).toArray 87)) := only_blk ho8 HY.out (by omega)
  have GA : Hid (w8.heap[1]? = some (.cells #[.string (aW 0), .string (aW 1), .string (aW 2), .string (aW 3), .string (aW 4)] zA.1 zA.2)) := only_blk ho8 HA.out (by omega)
  have GC : Hid (w8.heap[0]? = some (.cells #[.string (cW 0), .string (cW 1), .string (cW 2), .string (cW 3), .string (cW 4), .string (cW 5), .string (cW 6), .string (cW 7), .string (cW 8), .string (cW 9), .string (cW 10)] zC.1 zC.2)) := only_blk ho8 HC.out (by omega)
  have GE : Hid (w8.heap[wg.heap.size]? = some (.cells (flatT [tk0, tk0, tk0, tk0, tk0, tk0, tk0, tk0]).toArray 87)) := only_blk ho8 HE.out (by omega)
  have GG : Hid (w8.heap[w1.heap.size]? = some (.cells #[.int .i64 4, .int .i64 0, .int .i64 0, .int .i64 0, .int .u32 0, .int .i64 0, .int .u32 0, .int .i64 0, .int .u16 0, .int .u16 0, .int .u16 0, .int .u16 0, .int .u8 0, .int .u8 0, .int .i64 0, .int .u32 (r0.1.1 : Int), .int .u32 (r0.1.2.1 : Int), .int .u16 (r0.1.2.2.1 : Int), .int .u16 (r0.1.2.2.2.1 : Int), .int .u8 (r0.1.2.2.2.2 : Int)] 61)) := hw8
  have HR2 : Hid (RAt w8 R b v L r0.2.a) := rat_only HR.out ho8 hlR (by omega) HT.out
  have HB2 : Hid (But R w w8) := but_newer HB.out ho8 (by omega)
  have HZ2 : Hid (w.heap.size + 1 + 1 ≤ w8.heap.size) := by show _ ≤ _; rw [ho8.size]; exact HZ.out
  clear HR HB HZ hw8 ho8 HX HY HA HC HG HE
  have HR := HR2
  have HB := HB2
  have HZ := HZ2
  have HX := GX
  have HY := GY
  have HA := GA
  have HC := GC
  have HG := GG
  have HE := GE
  clear HR2 HB2 HZ2 GX GY GA GC GG GE
  refine wp_region_held_drew (S := fun w' => w'.heap[w1.heap.size]? = some (.cells #[.int .i64 4, .int .i64 0, .int .i64 0, .int .i64 0, .int .u32 0, .int .i64 0, .int .u32 0, .int .i64 0, .int .u16 0, .int .u16 0, .int .u16 0, .int .u16 0, .int .u8 0, .int .u8 0, .int .i64 0, .int .u32 (r0.1.1 : Int), .int .u32 (r0.1.2.1 : Int), .int .u16 (r0.1.2.2.1 : Int), .int .u16 (r0.1.2.2.2.1 : Int), .int .u8 (r0.1.2.2.2.2 : Int)] 61) ∧ w'.heap[wg.heap.size]? = some (.cells (flatT [tk0, tk0, tk0, tk0, tk0, tk0, tk0, tk0]).toArray 87)) (by kernel_rfl) ⟨HG.out, HE.out⟩ (fun hS0 => ?_)
  show wpAnyH _ _ _ _ _ 4 _ _ _
  refine wpAnyH_take (i := 0) rfl (by kernel_rfl) (by kernel_rfl) (by kernel_rfl) (fun _ _ _ h => h) (yieldsIf_load_mid rfl 61 (.tmp 4) rfl (w1.heap.size) 0 rfl _ _ (fun w' hw' => rng_all hw'.1) Tryz.underlying61 rfl (by kernel_rfl)) hS0 ?_
  simp only [List.getElem_toArray, List.getElem_cons_succ, List.getElem_cons_zero, Act.put, List.setIfInBounds_toArray, List.set_cons_zero, List.set_cons_succ]
  refine wpAnyH_take (i := 1) rfl (by kernel_rfl) (by kernel_rfl) (by kernel_rfl) (fun _ _ _ h => h) (yieldsIf_load_mid rfl 87 (.tmp 5) rfl (wg.heap.size) 0 rfl _ _ (fun w' hw' => rng_all hw'.2) Tryz.underlying87 rfl (by kernel_rfl)) hS0 ?_
  simp only [List.getElem_toArray, List.getElem_cons_succ, List.getElem_cons_zero, Act.put, List.setIfInBounds_toArray, List.set_cons_zero, List.set_cons_succ]
  refine wpAnyH_all (rs := [2]) (by kernel_rfl) (by simp) ?_
  intro i hi
  simp only [List.mem_cons, List.not_mem_nil, or_false] at hi
  subst hi
  · refine wpOp_of_wp rfl rfl (fun K' hK' => ?_)
    refine wp_store_blk 61 (.tmp 2) (.tmp 40) rfl (w.heap.size) 0 #[.int .i64 4, .int .i64 0, .int .i64 0, .int .i64 0, .int .u32 0, .int .i64 0, .int .u32 0, .int .i64 0, .int .u16 0, .int .u16 0, .int .u16 0, .int .u16 0, .int .u8 0, .int .u8 0, .int .i64 0, .int .u32 (r0.1.1 : Int), .int .u32 (r0.1.2.1 : Int), .int .u16 (r0.1.2.2.1 : Int), .int .u16 (r0.1.2.2.2.1 : Int), .int .u8 (r0.1.2.2.2.2 : Int)] #[.int .i64 4, .int .i64 0, .int .i64 0, .int .i64 0, .int .u32 0, .int .i64 0, .int .u32 0, .int .i64 0, .int .u16 0, .int .u16 0, .int .u16 0, .int .u16 0, .int .u8 0, .int .u8 0, .int .i64 0, .int .u32 (r0.1.1 : Int), .int .u32 (r0.1.2.1 : Int), .int .u16 (r0.1.2.2.1 : Int), .int .u16 (r0.1.2.2.2.1 : Int), .int .u8 (r0.1.2.2.2.2 : Int)] rfl rfl 61 _ HX.out (Nat.le_of_ble_eq_true rfl) rfl (by kernel_rfl) rfl (fun w9 h9 ho9 => hK' _ _ ⟨?_, ?_⟩)
    · exact ⟨only_blk ho9 HG.out (by omega), only_blk ho9 HE.out (by omega)⟩
    · have hO9 := only_blk ho9 HY.out (by omega)
      refine wpAnyH_all (rs := [3]) (by kernel_rfl) (by simp) ?_
      intro i hi
      simp only [List.mem_cons, List.not_mem_nil, or_false] at hi
      subst hi
      refine wpOp_of_wp rfl rfl (fun K' hK' => ?_)
      refine wp_store_blk 87 (.tmp 3) (.tmp 41) rfl (w.heap.size + 1) 0 (flatT [tk0, tk0, tk0, tk0, tk0, tk0, tk0, tk0]).toArray (flatT [tk0, tk0, tk0, tk0, tk0, tk0, tk0, tk0]).toArray rfl rfl 87 _ hO9 (Nat.le_of_ble_eq_true rfl) rfl (by kernel_rfl) rfl (fun w10 h10 ho10 => hK' _ _ ⟨?_, ?_⟩)
      · exact ⟨only_blk ho10 (only_blk ho9 HG.out (by omega)) (by omega), only_blk ho10 (only_blk ho9 HE.out (by omega)) (by omega)⟩
      · refine wpAnyH_done (by kernel_rfl) ?_ _
        simp only [List.getElem_toArray, List.getElem_cons_succ, List.getElem_cons_zero, Act.put, List.setIfInBounds_toArray, List.set_cons_zero, List.set_cons_succ]
        have HX9 : Hid (w10.heap[w.heap.size]? = some (.cells #[.int .i64 4, .int .i64 0, .int .i64 0, .int .i64 0, .int .u32 0, .int .i64 0, .int .u32 0, .int .i64 0, .int .u16 0, .int .u16 0, .int .u16 0, .int .u16 0, .int .u8 0, .int .u8 0, .int .i64 0, .int .u32 (r0.1.1 : Int), .int .u32 (r0.1.2.1 : Int), .int .u16 (r0.1.2.2.1 : Int), .int .u16 (r0.1.2.2.2.1 : Int), .int .u8 (r0.1.2.2.2.2 : Int)] 61)) := only_blk ho10 h9 (by omega)
        have HY9 : Hid (w10.heap[w.heap.size + 1]? = some (.cells (flatT [tk0, tk0, tk0, tk0, tk0, tk0, tk0, tk0]).toArray 87)) := h10
        have HB9 : Hid (But R w w10) := but_newer (but_newer HB.out.dr ho9 (by omega)) ho10 (by omega)
        have HR9 : Hid (RAt w10 R b v L r0.2.a) := rat_only (rat_only (HR.out.on (Below.refl _ _).drew) ho9 hlR (by omega) HT.out) ho10 hlR (by omega) HT.out
        clear h9 ho9 h10 ho10 hO9 hS0
        go_wp2_with (fail)
        exact bodyPost_ret (results_blks Tryz.results33 rfl rfl HX9.out Tryz.underlying61 rfl (by kernel_rfl) HY9.out Tryz.underlying87 rfl (by kernel_rfl)) rfl ⟨HB9.out, .inr ⟨by rw [HD.out]; exact HO.out, by rw [HD.out] <;> rfl, by rw [HD.out]; exact HR9.out⟩⟩
set_option maxRecDepth 20000 in
set_option maxHeartbeats 16000000 in
theorem command5 (w : World) (R b : Nat) (v : Value) (L : List Tk) (st : Rd) (hw : st.w = ⟨0, 0, 0⟩) (h : RAt w R b v L st.a) (hA : ActAt zA w) (hC : CmdAt zC w) (hgR : 8 < R) (k : Nat) (hk : (kndS L st).1 = k) (h5 : 5 ≤ k) (h10 : k ≤ 10) :
    Calls Tryz.prog 33 #[.pointer (some ⟨R, 0, none⟩)] w fun e w' => Out w R b v L (.tuple #[.agg #[.int .i64 (cvOf (cmdS L st).1).k, .int .i64 (cvOf (cmdS L st).1).n, .int .i64 (cvOf (cmdS L st).1).i, .int .i64 (cvOf (cmdS L st).1).r.i, .int .u32 ((cvOf (cmdS L st).1).r.s : Int), .int .i64 (cvOf (cmdS L st).1).r.sl, .int .u32 ((cvOf (cmdS L st).1).r.d : Int), .int .i64 (cvOf (cmdS L st).1).r.dl, .int .u16 ((cvOf (cmdS L st).1).r.p.1 : Int), .int .u16 ((cvOf (cmdS L st).1).r.p.2 : Int), .int .u16 ((cvOf (cmdS L st).1).r.q.1 : Int), .int .u16 ((cvOf (cmdS L st).1).r.q.2 : Int), .int .u8 ((cvOf (cmdS L st).1).r.m.1 : Int), .int .u8 ((cvOf (cmdS L st).1).r.m.2 : Int), .int .i64 (cvOf (cmdS L st).1).r.act, .int .u32 ((cvOf (cmdS L st).1).h.1 : Int), .int .u32 ((cvOf (cmdS L st).1).h.2.1 : Int), .int .u16 ((cvOf (cmdS L st).1).h.2.2.1 : Int), .int .u16 ((cvOf (cmdS L st).1).h.2.2.2.1 : Int), .int .u8 ((cvOf (cmdS L st).1).h.2.2.2.2 : Int)], .agg (flatT (begsC L st)).toArray]) (cmdS L st).2.2 e w' := by
  have HT : Hid (Old w.heap.size v) := h.old
  have hK : ∀ W : World, RAt W R b v L st.a → CmdAt zC W → Calls Tryz.prog 58 #[.pointer (some ⟨R, 0, none⟩)] W _ := fun W hW hX => commandKindS W R b v L st hw hW hX
  have hKe := @knd_e L st hw
  have hD := @cmd_k5 L st k hk h5
  have hBg : begsC L st = [tk0, tk0, tk0, tk0, tk0, tk0, tk0, tk0] := by unfold begsC; rw [if_neg (by omega)]
  rw [hBg]
  clear hBg
  have HD : Hid _ := hD
  clear hD
  generalize cmdS L st = P at *
  generalize kndS L st = S0 at *
  obtain ⟨kk, s0⟩ := S0
  simp only at hk HD hK hKe
  have hkk : k = kk := hk.symm
  clear hk
  subst hkk
  have hK0 : s0.w.e = 0 := by rcases Nat.eq_zero_or_pos s0.w.e with c | c; exact c; exact absurd (hKe (by omega)) (by omega)
  have HBad0 : Hid (s0.w.e ≠ 0 → P.2.2 = s0) := fun hne => absurd hK0 hne
  clear hKe hK0
  obtain ⟨W0, hW0⟩ : ∃ W0, W0 = ((w.alloc (.cells #[.int .i64 0, .int .i64 0, .int .i64 0, .int .i64 0, .int .u32 0, .int .i64 0, .int .u32 0, .int .i64 0, .int .u16 0, .int .u16 0, .int .u16 0, .int .u16 0, .int .u8 0, .int .u8 0, .int .i64 0, .int .u32 0, .int .u32 0, .int .u16 0, .int .u16 0, .int .u8 0] 61)).alloc (.cells #[.int .i64 0, .string ⟨#[]⟩, .int .u32 0, .int .i64 0, .int .i64 0, .int .i64 0, .string ⟨#[]⟩, .int .u32 0, .int .i64 0, .int .i64 0, .int .i64 0, .string ⟨#[]⟩, .int .u32 0, .int .i64 0, .int .i64 0, .int .i64 0, .string ⟨#[]⟩, .int .u32 0, .int .i64 0, .int .i64 0, .int .i64 0, .string ⟨#[]⟩, .int .u32 0, .int .i64 0, .int .i64 0, .int .i64 0, .string ⟨#[]⟩, .int .u32 0, .int .i64 0, .int .i64 0, .int .i64 0, .string ⟨#[]⟩, .int .u32 0, .int .i64 0, .int .i64 0, .int .i64 0, .string ⟨#[]⟩, .int .u32 0, .int .i64 0, .int .i64 0] 87)) := ⟨_, rfl⟩
  have hBel : Below w.heap.size w W0 := by rw [hW0]; (repeat (first | assumption | exact Below.refl _ _ | refine Below.drew ?_ | refine bel_drewN ?_ _ | refine Below.setCell ?_ (by first | omega | (simp; done) | (simp; omega)) _ | refine Below.alloc ?_ (by first | omega | (simp; done) | (simp; omega)) _ | refine bel_of ?_ (by assumption)))
  have HX : Hid (W0.heap[w.heap.size]? = some (.cells #[.int .i64 0, .int .i64 0, .int .i64 0, .int .i64 0, .int .u32 0, .int .i64 0, .int .u32 0, .int .i64 0, .int .u16 0, .int .u16 0, .int .u16 0, .int .u16 0, .int .u8 0, .int .u8 0, .int .i64 0, .int .u32 0, .int .u32 0, .int .u16 0, .int .u16 0, .int .u8 0] 61)) := by show _ = _; rw [hW0]; exact (blk_alloc (blk_new w (.cells #[.int .i64 0, .int .i64 0, .int .i64 0, .int .i64 0, .int .u32 0, .int .i64 0, .int .u32 0, .int .i64 0, .int .u16 0, .int .u16 0, .int .u16 0, .int .u16 0, .int .u8 0, .int .u8 0, .int .i64 0, .int .u32 0, .int .u32 0, .int .u16 0, .int .u16 0, .int .u8 0] 61)) _)
  have HY : Hid (W0.heap[w.heap.size + 1]? = some (.cells (flatT [tk0, tk0, tk0, tk0, tk0, tk0, tk0, tk0]).toArray 87)) := by show _ = _; rw [hW0]; exact (blk_newN (by simp) _)
  have hlR : R < w.heap.size := blk_lt h.r
  have HR : Hid (RAt W0 R b v L st.a) := h.on hBel
  have HB : Hid (But R w W0) := But.of hBel
  have HO : Hid (st.w = ⟨0, 0, 0⟩) := hw
  have HZ : Hid (w.heap.size + 1 + 1 ≤ W0.heap.size) := by show _ ≤ _; rw [hW0]; simp
  clear hBel h hw
  have HA : Hid (W0.heap[1]? = some (.cells #[.string (aW 0), .string (aW 1), .string (aW 2), .string (aW 3), .string (aW 4)] zA.1 zA.2)) := by show _ = _; rw [hW0]; exact blk_alloc (blk_alloc hA _) _
  have HC : Hid (W0.heap[0]? = some (.cells #[.string (cW 0), .string (cW 1), .string (cW 2), .string (cW 3), .string (cW 4), .string (cW 5), .string (cW 6), .string (cW 7), .string (cW 8), .string (cW 9), .string (cW 10)] zC.1 zC.2)) := by show _ = _; rw [hW0]; exact blk_alloc (blk_alloc hC _) _
  clear hA hC
  go_enter Tryz.func33, Tryz.ntmps33
  go_upto_region 1 with (fail)
  rw [← hW0]
  clear hW0
  go_wp2_with (fail)
  refine (hK _ HR.out HC.out).mono ?_
  rintro e w1 ⟨hB, ⟨hne, F, rfl, hF, hl⟩ | ⟨h0, rfl, hR⟩⟩
  · exact ⟨rfl, by rw [HBad0.out hne]; exact out_bad HB.out hB hne ⟨F, rfl, hF, hl⟩⟩
  have GX : Hid (w1.heap[w.heap.size]? = some (.cells #[.int .i64 0, .int .i64 0, .int .i64 0, .int .i64 0, .int .u32 0, .int .i64 0, .int .u32 0, .int .i64 0, .int .u16 0, .int .u16 0, .int .u16 0, .int .u16 0, .int .u8 0, .int .u8 0, .int .i64 0, .int .u32 0, .int .u32 0, .int .u16 0, .int .u16 0, .int .u8 0] 61)) := But.blk hB HX.out (by omega)
  have GY : Hid (w1.heap[w.heap.size + 1]? = some (.cells (flatT [tk0, tk0, tk0, tk0, tk0, tk0, tk0, tk0]).toArray 87)) := But.blk hB HY.out (by omega)
  have GA : Hid (w1.heap[1]? = some (.cells #[.string (aW 0), .string (aW 1), .string (aW 2), .string (aW 3), .string (aW 4)] zA.1 zA.2)) := But.blk hB HA.out (by omega)
  have GC : Hid (w1.heap[0]? = some (.cells #[.string (cW 0), .string (cW 1), .string (cW 2), .string (cW 3), .string (cW 4), .string (cW 5), .string (cW 6), .string (cW 7), .string (cW 8), .string (cW 9), .string (cW 10)] zC.1 zC.2)) := But.blk hB HC.out (by omega)
  clear HX HY HA HC
  have HX := GX
  clear GX
  have HY := GY
  clear GY
  have HA := GA
  clear GA
  have HC := GC
  clear GC
  have HZ2 : Hid (w.heap.size + 1 + 1 ≤ w1.heap.size) := Nat.le_trans HZ.out hB.size
  have HB2 : Hid (But R w w1) := HB.out.tr hB
  clear HB HR HO HZ
  have HZ := HZ2
  have HB := HB2
  have HO : Hid (s0.w = ⟨0, 0, 0⟩) := h0
  have HR : Hid (RAt w1 R b v L s0.a) := hR
  clear HZ2 HB2 h0 hR hB
  go_upto_region 3 with (refine wpList_store_blk rfl 61 (.tmp 4) (.tmp 8) rfl w1.heap.size 0 #[.int .i64 (k : Int), .int .i64 0, .int .i64 0, .int .i64 0, .int .u32 0, .int .i64 0, .int .u32 0, .int .i64 0, .int .u16 0, .int .u16 0, .int .u16 0, .int .u16 0, .int .u8 0, .int .u8 0, .int .i64 0, .int .u32 0, .int .u32 0, .int .u16 0, .int .u16 0, .int .u8 0] #[.int .i64 (k : Int), .int .i64 0, .int .i64 0, .int .i64 0, .int .u32 0, .int .i64 0, .int .u32 0, .int .i64 0, .int .u16 0, .int .u16 0, .int .u16 0, .int .u16 0, .int .u8 0, .int .u8 0, .int .i64 0, .int .u32 0, .int .u32 0, .int .u16 0, .int .u16 0, .int .u8 0] rfl rfl 61 _ (blk_new w1 (.cells #[.int .i64 0, .int .i64 0, .int .i64 0, .int .i64 0, .int .u32 0, .int .i64 0, .int .u32 0, .int .i64 0, .int .u16 0, .int .u16 0, .int .u16 0, .int .u16 0, .int .u8 0, .int .u8 0, .int .i64 0, .int .u32 0, .int .u32 0, .int .u16 0, .int .u16 0, .int .u8 0] 61)) (Nat.le_of_ble_eq_true rfl) rfl (by kernel_rfl) rfl ?_; intro wg hwg hog)
  have hbel : Below w1.heap.size w1 (wg.alloc (.cells #[.int .i64 0, .string ⟨#[]⟩, .int .u32 0, .int .i64 0, .int .i64 0, .int .i64 0, .string ⟨#[]⟩, .int .u32 0, .int .i64 0, .int .i64 0, .int .i64 0, .string ⟨#[]⟩, .int .u32 0, .int .i64 0, .int .i64 0, .int .i64 0, .string ⟨#[]⟩, .int .u32 0, .int .i64 0, .int .i64 0, .int .i64 0, .string ⟨#[]⟩, .int .u32 0, .int .i64 0, .int .i64 0, .int .i64 0, .string ⟨#[]⟩, .int .u32 0, .int .i64 0, .int .i64 0, .int .i64 0, .string ⟨#[]⟩, .int .u32 0, .int .i64 0, .int .i64 0, .int .i64 0, .string ⟨#[]⟩, .int .u32 0, .int .i64 0, .int .i64 0] 87)) := (((Below.refl _ _).alloc (Nat.le_refl _) _).trans (hog.below (Nat.le_refl _))).alloc (by rw [hog.size]; simp) _
  have zg : wg.heap.size = w1.heap.size + 1 := by rw [hog.size]; simp
  have zg1 : wg.heap.size ≤ w1.heap.size + 1 := Nat.le_of_eq zg
  have zg2 : w1.heap.size + 1 ≤ wg.heap.size := Nat.le_of_eq zg.symm
  have zw : w.heap.size + 1 + 1 ≤ w1.heap.size := HZ.out
  have GX : Hid ((wg.alloc (.cells #[.int .i64 0, .string ⟨#[]⟩, .int .u32 0, .int .i64 0, .int .i64 0, .int .i64 0, .string ⟨#[]⟩, .int .u32 0, .int .i64 0, .int .i64 0, .int .i64 0, .string ⟨#[]⟩, .int .u32 0, .int .i64 0, .int .i64 0, .int .i64 0, .string ⟨#[]⟩, .int .u32 0, .int .i64 0, .int .i64 0, .int .i64 0, .string ⟨#[]⟩, .int .u32 0, .int .i64 0, .int .i64 0, .int .i64 0, .string ⟨#[]⟩, .int .u32 0, .int .i64 0, .int .i64 0, .int .i64 0, .string ⟨#[]⟩, .int .u32 0, .int .i64 0, .int .i64 0, .int .i64 0, .string ⟨#[]⟩, .int .u32 0, .int .i64 0, .int .i64 0] 87)).heap[w.heap.size]? = some (.cells #[.int .i64 0, .int .i64 0, .int .i64 0, .int .i64 0, .int .u32 0, .int .i64 0, .int .u32 0, .int .i64 0, .int .u16 0, .int .u16 0, .int .u16 0, .int .u16 0, .int .u8 0, .int .u8 0, .int .i64 0, .int .u32 0, .int .u32 0, .int .u16 0, .int .u16 0, .int .u8 0] 61)) := blk_on HX.out hbel
  have GY : Hid ((wg.alloc (.cells #[.int .i64 0, .string ⟨#[]⟩, .int .u32 0, .int .i64 0, .int .i64 0, .int .i64 0, .string ⟨#[]⟩, .int .u32 0, .int .i64 0, .int .i64 0, .int .i64 0, .string ⟨#[]⟩, .int .u32 0, .int .i64 0, .int .i64 0, .int .i64 0, .string ⟨#[]⟩, .int .u32 0, .int .i64 0, .int .i64 0, .int .i64 0, .string ⟨#[]⟩, .int .u32 0, .int .i64 0, .int .i64 0, .int .i64 0, .string ⟨#[]⟩, .int .u32 0, .int .i64 0, .int .i64 0, .int .i64 0, .string ⟨#[]⟩, .int .u32 0, .int .i64 0, .int .i64 0, .int .i64 0, .string ⟨#[]⟩, .int .u32 0, .int .i64 0, .int .i64 0] 87)).heap[w.heap.size + 1]? = some (.cells (flatT [tk0, tk0, tk0, tk0, tk0, tk0, tk0, tk0]).toArray 87)) := blk_on HY.out hbel
  have GA : Hid ((wg.alloc (.cells #[.int .i64 0, .string ⟨#[]⟩, .int .u32 0, .int .i64 0, .int .i64 0, .int .i64 0, .string ⟨#[]⟩, .int .u32 0, .int .i64 0, .int .i64 0, .int .i64 0, .string ⟨#[]⟩, .int .u32 0, .int .i64 0, .int .i64 0, .int .i64 0, .string ⟨#[]⟩, .int .u32 0, .int .i64 0, .int .i64 0, .int .i64 0, .string ⟨#[]⟩, .int .u32 0, .int .i64 0, .int .i64 0, .int .i64 0, .string ⟨#[]⟩, .int .u32 0, .int .i64 0, .int .i64 0, .int .i64 0, .string ⟨#[]⟩, .int .u32 0, .int .i64 0, .int .i64 0, .int .i64 0, .string ⟨#[]⟩, .int .u32 0, .int .i64 0, .int .i64 0] 87)).heap[1]? = some (.cells #[.string (aW 0), .string (aW 1), .string (aW 2), .string (aW 3), .string (aW 4)] zA.1 zA.2)) := blk_on HA.out hbel
  have GC : Hid ((wg.alloc (.cells #[.int .i64 0, .string ⟨#[]⟩, .int .u32 0, .int .i64 0, .int .i64 0, .int .i64 0, .string ⟨#[]⟩, .int .u32 0, .int .i64 0, .int .i64 0, .int .i64 0, .string ⟨#[]⟩, .int .u32 0, .int .i64 0, .int .i64 0, .int .i64 0, .string ⟨#[]⟩, .int .u32 0, .int .i64 0, .int .i64 0, .int .i64 0, .string ⟨#[]⟩, .int .u32 0, .int .i64 0, .int .i64 0, .int .i64 0, .string ⟨#[]⟩, .int .u32 0, .int .i64 0, .int .i64 0, .int .i64 0, .string ⟨#[]⟩, .int .u32 0, .int .i64 0, .int .i64 0, .int .i64 0, .string ⟨#[]⟩, .int .u32 0, .int .i64 0, .int .i64 0] 87)).heap[0]? = some (.cells #[.string (cW 0), .string (cW 1), .string (cW 2), .string (cW 3), .string (cW 4), .string (cW 5), .string (cW 6), .string (cW 7), .string (cW 8), .string (cW 9), .string (cW 10)] zC.1 zC.2)) := blk_on HC.out hbel
  have HG : Hid ((wg.alloc (.cells #[.int .i64 0, .string ⟨#[]⟩, .int .u32 0, .int .i64 0, .int .i64 0, .int .i64 0, .string ⟨#[]⟩, .int .u32 0, .int .i64 0, .int .i64 0, .int .i64 0, .string ⟨#[]⟩, .int .u32 0, .int .i64 0, .int .i64 0, .int .i64 0, .string ⟨#[]⟩, .int .u32 0, .int .i64 0, .int .i64 0, .int .i64 0, .string ⟨#[]⟩, .int .u32 0, .int .i64 0, .int .i64 0, .int .i64 0, .string ⟨#[]⟩, .int .u32 0, .int .i64 0, .int .i64 0, .int .i64 0, .string ⟨#[]⟩, .int .u32 0, .int .i64 0, .int .i64 0, .int .i64 0, .string ⟨#[]⟩, .int .u32 0, .int .i64 0, .int .i64 0] 87)).heap[w1.heap.size]? = some (.cells #[.int .i64 (k : Int), .int .i64 0, .int .i64 0, .int .i64 0, .int .u32 0, .int .i64 0, .int .u32 0, .int .i64 0, .int .u16 0, .int .u16 0, .int .u16 0, .int .u16 0, .int .u8 0, .int .u8 0, .int .i64 0, .int .u32 0, .int .u32 0, .int .u16 0, .int .u16 0, .int .u8 0] 61)) := blk_alloc hwg _
  have HE : Hid ((wg.alloc (.cells #[.int .i64 0, .string ⟨#[]⟩, .int .u32 0, .int .i64 0, .int .i64 0, .int .i64 0, .string ⟨#[]⟩, .int .u32 0, .int .i64 0, .int .i64 0, .int .i64 0, .string ⟨#[]⟩, .int .u32 0, .int .i64 0, .int .i64 0, .int .i64 0, .string ⟨#[]⟩, .int .u32 0, .int .i64 0, .int .i64 0, .int .i64 0, .string ⟨#[]⟩, .int .u32 0, .int .i64 0, .int .i64 0, .int .i64 0, .string ⟨#[]⟩, .int .u32 0, .int .i64 0, .int .i64 0, .int .i64 0, .string ⟨#[]⟩, .int .u32 0, .int .i64 0, .int .i64 0, .int .i64 0, .string ⟨#[]⟩, .int .u32 0, .int .i64 0, .int .i64 0] 87)).heap[wg.heap.size]? = some (.cells (flatT [tk0, tk0, tk0, tk0, tk0, tk0, tk0, tk0]).toArray 87)) := blk_new wg _
  have HR2 : Hid (RAt (wg.alloc (.cells #[.int .i64 0, .string ⟨#[]⟩, .int .u32 0, .int .i64 0, .int .i64 0, .int .i64 0, .string ⟨#[]⟩, .int .u32 0, .int .i64 0, .int .i64 0, .int .i64 0, .string ⟨#[]⟩, .int .u32 0, .int .i64 0, .int .i64 0, .int .i64 0, .string ⟨#[]⟩, .int .u32 0, .int .i64 0, .int .i64 0, .int .i64 0, .string ⟨#[]⟩, .int .u32 0, .int .i64 0, .int .i64 0, .int .i64 0, .string ⟨#[]⟩, .int .u32 0, .int .i64 0, .int .i64 0, .int .i64 0, .string ⟨#[]⟩, .int .u32 0, .int .i64 0, .int .i64 0, .int .i64 0, .string ⟨#[]⟩, .int .u32 0, .int .i64 0, .int .i64 0] 87)) R b v L s0.a) := HR.out.on hbel
  have HB2 : Hid (But R w (wg.alloc (.cells #[.int .i64 0, .string ⟨#[]⟩, .int .u32 0, .int .i64 0, .int .i64 0, .int .i64 0, .string ⟨#[]⟩, .int .u32 0, .int .i64 0, .int .i64 0, .int .i64 0, .string ⟨#[]⟩, .int .u32 0, .int .i64 0, .int .i64 0, .int .i64 0, .string ⟨#[]⟩, .int .u32 0, .int .i64 0, .int .i64 0, .int .i64 0, .string ⟨#[]⟩, .int .u32 0, .int .i64 0, .int .i64 0, .int .i64 0, .string ⟨#[]⟩, .int .u32 0, .int .i64 0, .int .i64 0, .int .i64 0, .string ⟨#[]⟩, .int .u32 0, .int .i64 0, .int .i64 0, .int .i64 0, .string ⟨#[]⟩, .int .u32 0, .int .i64 0, .int .i64 0] 87))) := HB.out.then hbel
  have HZ2 : Hid (w.heap.size + 1 + 1 ≤ (wg.alloc (.cells #[.int .i64 0, .string ⟨#[]⟩, .int .u32 0, .int .i64 0, .int .i64 0, .int .i64 0, .string ⟨#[]⟩, .int .u32 0, .int .i64 0, .int .i64 0, .int .i64 0, .string ⟨#[]⟩, .int .u32 0, .int .i64 0, .int .i64 0, .int .i64 0, .string ⟨#[]⟩, .int .u32 0, .int .i64 0, .int .i64 0, .int .i64 0, .string ⟨#[]⟩, .int .u32 0, .int .i64 0, .int .i64 0, .int .i64 0, .string ⟨#[]⟩, .int .u32 0, .int .i64 0, .int .i64 0, .int .i64 0, .string ⟨#[]⟩, .int .u32 0, .int .i64 0, .int .i64 0, .int .i64 0, .string ⟨#[]⟩, .int .u32 0, .int .i64 0, .int .i64 0] 87)).heap.size) := Nat.le_trans HZ.out hbel.size
  clear HR HB HZ hbel zg hwg hog HX HY HA HC
  have HR := HR2
  have HB := HB2
  have HZ := HZ2
  have HX := GX
  have HY := GY
  have HA := GA
  have HC := GC
  clear HR2 HB2 HZ2 GX GY GA GC
  generalize hWg : wg.alloc (.cells #[.int .i64 0, .string ⟨#[]⟩, .int .u32 0, .int .i64 0, .int .i64 0, .int .i64 0, .string ⟨#[]⟩, .int .u32 0, .int .i64 0, .int .i64 0, .int .i64 0, .string ⟨#[]⟩, .int .u32 0, .int .i64 0, .int .i64 0, .int .i64 0, .string ⟨#[]⟩, .int .u32 0, .int .i64 0, .int .i64 0, .int .i64 0, .string ⟨#[]⟩, .int .u32 0, .int .i64 0, .int .i64 0, .int .i64 0, .string ⟨#[]⟩, .int .u32 0, .int .i64 0, .int .i64 0, .int .i64 0, .string ⟨#[]⟩, .int .u32 0, .int .i64 0, .int .i64 0, .int .i64 0, .string ⟨#[]⟩, .int .u32 0, .int .i64 0, .int .i64 0] 87) = Wg at *
  clear hWg
  have q0 : Wg.cell? ⟨w1.heap.size, 0, none⟩ = some (.int .i64 (k : Int)) := blk_cell HG.out rfl
  have hk1 : ¬ (k : Int) = 1 := by omega
  have hk2 : ¬ (k : Int) = 2 := by omega
  have hk3 : ¬ (k : Int) = 3 := by omega
  have hk4 : ¬ (k : Int) = 4 := by omega
  go_upto_region 14 with (fail)
  refine wp_region_held_drew (S := fun w' => w'.heap[w1.heap.size]? = some (.cells #[.int .i64 (k : Int), .int .i64 0, .int .i64 0, .int .i64 0, .int .u32 0, .int .i64 0, .int .u32 0, .int .i64 0, .int .u16 0, .int .u16 0, .int .u16 0, .int .u16 0, .int .u8 0, .int .u8 0, .int .i64 0, .int .u32 0, .int .u32 0, .int .u16 0, .int .u16 0, .int .u8 0] 61) ∧ w'.heap[wg.heap.size]? = some (.cells (flatT [tk0, tk0, tk0, tk0, tk0, tk0, tk0, tk0]).toArray 87)) (by kernel_rfl) ⟨HG.out, HE.out⟩ (fun hS0 => ?_)
  show wpAnyH _ _ _ _ _ 4 _ _ _
  refine wpAnyH_take (i := 0) rfl (by kernel_rfl) (by kernel_rfl) (by kernel_rfl) (fun _ _ _ h => h) (yieldsIf_load_mid rfl 61 (.tmp 4) rfl (w1.heap.size) 0 rfl _ _ (fun w' hw' => rng_all hw'.1) Tryz.underlying61 rfl (by kernel_rfl)) hS0 ?_
  simp only [List.getElem_toArray, List.getElem_cons_succ, List.getElem_cons_zero, Act.put, List.setIfInBounds_toArray, List.set_cons_zero, List.set_cons_succ]
  refine wpAnyH_take (i := 1) rfl (by kernel_rfl) (by kernel_rfl) (by kernel_rfl) (fun _ _ _ h => h) (yieldsIf_load_mid rfl 87 (.tmp 5) rfl (wg.heap.size) 0 rfl _ _ (fun w' hw' => rng_all hw'.2) Tryz.underlying87 rfl (by kernel_rfl)) hS0 ?_
  simp only [List.getElem_toArray, List.getElem_cons_succ, List.getElem_cons_zero, Act.put, List.setIfInBounds_toArray, List.set_cons_zero, List.set_cons_succ]
  refine wpAnyH_all (rs := [2]) (by kernel_rfl) (by simp) ?_
  intro i hi
  simp only [List.mem_cons, List.not_mem_nil, or_false] at hi
  subst hi
  · refine wpOp_of_wp rfl rfl (fun K' hK' => ?_)
    refine wp_store_blk 61 (.tmp 2) (.tmp 40) rfl (w.heap.size) 0 #[.int .i64 (k : Int), .int .i64 0, .int .i64 0, .int .i64 0, .int .u32 0, .int .i64 0, .int .u32 0, .int .i64 0, .int .u16 0, .int .u16 0, .int .u16 0, .int .u16 0, .int .u8 0, .int .u8 0, .int .i64 0, .int .u32 0, .int .u32 0, .int .u16 0, .int .u16 0, .int .u8 0] #[.int .i64 (k : Int), .int .i64 0, .int .i64 0, .int .i64 0, .int .u32 0, .int .i64 0, .int .u32 0, .int .i64 0, .int .u16 0, .int .u16 0, .int .u16 0, .int .u16 0, .int .u8 0, .int .u8 0, .int .i64 0, .int .u32 0, .int .u32 0, .int .u16 0, .int .u16 0, .int .u8 0] rfl rfl 61 _ HX.out (Nat.le_of_ble_eq_true rfl) rfl (by kernel_rfl) rfl (fun w9 h9 ho9 => hK' _ _ ⟨?_, ?_⟩)
    · exact ⟨only_blk ho9 HG.out (by omega), only_blk ho9 HE.out (by omega)⟩
    · have hO9 := only_blk ho9 HY.out (by omega)
      refine wpAnyH_all (rs := [3]) (by kernel_rfl) (by simp) ?_
      intro i hi
      simp only [List.mem_cons, List.not_mem_nil, or_false] at hi
      subst hi
      refine wpOp_of_wp rfl rfl (fun K' hK' => ?_)
      refine wp_store_blk 87 (.tmp 3) (.tmp 41) rfl (w.heap.size + 1) 0 (flatT [tk0, tk0, tk0, tk0, tk0, tk0, tk0, tk0]).toArray (flatT [tk0, tk0, tk0, tk0, tk0, tk0, tk0, tk0]).toArray rfl rfl 87 _ hO9 (Nat.le_of_ble_eq_true rfl) rfl (by kernel_rfl) rfl (fun w10 h10 ho10 => hK' _ _ ⟨?_, ?_⟩)
      · exact ⟨only_blk ho10 (only_blk ho9 HG.out (by omega)) (by omega), only_blk ho10 (only_blk ho9 HE.out (by omega)) (by omega)⟩
      · refine wpAnyH_done (by kernel_rfl) ?_ _
        simp only [List.getElem_toArray, List.getElem_cons_succ, List.getElem_cons_zero, Act.put, List.setIfInBounds_toArray, List.set_cons_zero, List.set_cons_succ]
        have HX9 : Hid (w10.heap[w.heap.size]? = some (.cells #[.int .i64 (k : Int), .int .i64 0, .int .i64 0, .int .i64 0, .int .u32 0, .int .i64 0, .int .u32 0, .int .i64 0, .int .u16 0, .int .u16 0, .int .u16 0, .int .u16 0, .int .u8 0, .int .u8 0, .int .i64 0, .int .u32 0, .int .u32 0, .int .u16 0, .int .u16 0, .int .u8 0] 61)) := only_blk ho10 h9 (by omega)
        have HY9 : Hid (w10.heap[w.heap.size + 1]? = some (.cells (flatT [tk0, tk0, tk0, tk0, tk0, tk0, tk0, tk0]).toArray 87)) := h10
        have HB9 : Hid (But R w w10) := but_newer (but_newer HB.out.dr ho9 (by omega)) ho10 (by omega)
        have HR9 : Hid (RAt w10 R b v L s0.a) := rat_only (rat_only (HR.out.on (Below.refl _ _).drew) ho9 hlR (by omega) HT.out) ho10 hlR (by omega) HT.out
        clear h9 ho9 h10 ho10 hO9 hS0
        go_wp2_with (fail)
        exact bodyPost_ret (results_blks Tryz.results33 rfl rfl HX9.out Tryz.underlying61 rfl (by kernel_rfl) HY9.out Tryz.underlying87 rfl (by kernel_rfl)) rfl ⟨HB9.out, .inr ⟨by rw [HD.out]; exact HO.out, by rw [HD.out] <;> rfl, by rw [HD.out]; exact HR9.out⟩⟩
end Go.Proofs.YtehedlgdencboabGreatDoor
/-
  A command's line, read. Written by tools/mkSyJ.py.
-/
namespace Go.Proofs.YtehedlgdencboabGreatDoor
open Go.RowKit
set_option linter.unusedVariables false
set_option linter.unusedSimpArgs false
variable {zA zC : TypeId × (Nat × Nat)}

theorem cone_eq (L : List Tk) (n a : Nat) : oneC chkN L n a = ((cmdS L ⟨a, ⟨0, 0, 0⟩⟩).1, if (cmdS L ⟨a, ⟨0, 0, 0⟩⟩).1.k = 1 then fldS L (chkN (cmdS L ⟨a, ⟨0, 0, 0⟩⟩).1.r) (cmdS L ⟨a, ⟨0, 0, 0⟩⟩).2.1 (manyS L 1000 n a (endS L (cmdS L ⟨a, ⟨0, 0, 0⟩⟩).2.2)) else manyS L 1000 n a (endS L (cmdS L ⟨a, ⟨0, 0, 0⟩⟩).2.2)) := by
  unfold oneC
  rfl
theorem cone_v (L : List Tk) (n a : Nat) : (oneC chkN L n a).1 = (cmdS L ⟨a, ⟨0, 0, 0⟩⟩).1 := by rw [cone_eq]
theorem ite_st {L : List Tk} {e : Nat × Nat} {at_ : List Nat} {st : Rd} {k : Nat} (h : st.w.e ≠ 0) : (if k = 1 then fldS L e at_ st else st) = st := by
  split
  · exact fld_st h
  · rfl
theorem cone_1 {L : List Tk} {n a : Nat} (h : (cmdS L ⟨a, ⟨0, 0, 0⟩⟩).2.2.w.e ≠ 0) : (oneC chkN L n a).2 = (cmdS L ⟨a, ⟨0, 0, 0⟩⟩).2.2 := by
  rw [cone_eq]
  simp only
  rw [end_st h, many_st h, ite_st h]
theorem cone_2 {L : List Tk} {n a : Nat} (h : (cmdS L ⟨a, ⟨0, 0, 0⟩⟩).2.2.w = ⟨0, 0, 0⟩) (h4 : (tkA L (cmdS L ⟨a, ⟨0, 0, 0⟩⟩).2.2.a).k ≠ 4) : (oneC chkN L n a).2.w = ⟨100, (tkA L (cmdS L ⟨a, ⟨0, 0, 0⟩⟩).2.2.a).l, (tkA L (cmdS L ⟨a, ⟨0, 0, 0⟩⟩).2.2.a).c⟩ := by
  rw [cone_eq]
  simp only
  have e : endS L (cmdS L ⟨a, ⟨0, 0, 0⟩⟩).2.2 = wrongS L 100 (cmdS L ⟨a, ⟨0, 0, 0⟩⟩).2.2.a (cmdS L ⟨a, ⟨0, 0, 0⟩⟩).2.2 := if_pos ⟨by rw [h], h4⟩
  have hw := wrong_w (L := L) (e := 100) (i := (cmdS L ⟨a, ⟨0, 0, 0⟩⟩).2.2.a) h
  have hne : (wrongS L 100 (cmdS L ⟨a, ⟨0, 0, 0⟩⟩).2.2.a (cmdS L ⟨a, ⟨0, 0, 0⟩⟩).2.2).w.e ≠ 0 := by rw [hw]; exact Nat.succ_ne_zero _
  rw [e, many_st hne, ite_st hne, hw]
theorem cone_3 {L : List Tk} {n a : Nat} (h : (cmdS L ⟨a, ⟨0, 0, 0⟩⟩).2.2.w = ⟨0, 0, 0⟩) (h4 : (tkA L (cmdS L ⟨a, ⟨0, 0, 0⟩⟩).2.2.a).k = 4) (hm : n = 1000) : (oneC chkN L n a).2.w = ⟨102, (tkA L a).l, (tkA L a).c⟩ := by
  rw [cone_eq]
  simp only
  have e : endS L (cmdS L ⟨a, ⟨0, 0, 0⟩⟩).2.2 = (cmdS L ⟨a, ⟨0, 0, 0⟩⟩).2.2 := if_neg (fun c => c.2 h4)
  have e2 : manyS L 1000 n a (cmdS L ⟨a, ⟨0, 0, 0⟩⟩).2.2 = wrongS L 102 a (cmdS L ⟨a, ⟨0, 0, 0⟩⟩).2.2 := if_pos ⟨by rw [h], hm⟩
  have hw := wrong_w (L := L) (e := 102) (i := a) h
  have hne : (wrongS L 102 a (cmdS L ⟨a, ⟨0, 0, 0⟩⟩).2.2).w.e ≠ 0 := by rw [hw]; exact Nat.succ_ne_zero _
  rw [e, e2, ite_st hne, hw]
theorem cone_4 {L : List Tk} {n a : Nat} (h : (cmdS L ⟨a, ⟨0, 0, 0⟩⟩).2.2.w = ⟨0, 0, 0⟩) (h4 : (tkA L (cmdS L ⟨a, ⟨0, 0, 0⟩⟩).2.2.a).k = 4) (hm : n ≠ 1000) (hk : (cmdS L ⟨a, ⟨0, 0, 0⟩⟩).1.k = 1) (hc : (chkN (cmdS L ⟨a, ⟨0, 0, 0⟩⟩).1.r).1 ≠ 0) : (oneC chkN L n a).2.w = ⟨(chkN (cmdS L ⟨a, ⟨0, 0, 0⟩⟩).1.r).1, (tkA L ((cmdS L ⟨a, ⟨0, 0, 0⟩⟩).2.1.getD (min (chkN (cmdS L ⟨a, ⟨0, 0, 0⟩⟩).1.r).2 ((cmdS L ⟨a, ⟨0, 0, 0⟩⟩).2.1.length - 1)) 0)).l, (tkA L ((cmdS L ⟨a, ⟨0, 0, 0⟩⟩).2.1.getD (min (chkN (cmdS L ⟨a, ⟨0, 0, 0⟩⟩).1.r).2 ((cmdS L ⟨a, ⟨0, 0, 0⟩⟩).2.1.length - 1)) 0)).c⟩ := by
  rw [cone_eq]
  simp only
  have e : endS L (cmdS L ⟨a, ⟨0, 0, 0⟩⟩).2.2 = (cmdS L ⟨a, ⟨0, 0, 0⟩⟩).2.2 := if_neg (fun c => c.2 h4)
  have e2 : manyS L 1000 n a (cmdS L ⟨a, ⟨0, 0, 0⟩⟩).2.2 = (cmdS L ⟨a, ⟨0, 0, 0⟩⟩).2.2 := if_neg (fun c => hm c.2)
  rw [e, e2, if_pos hk]
  have e3 : fldS L (chkN (cmdS L ⟨a, ⟨0, 0, 0⟩⟩).1.r) (cmdS L ⟨a, ⟨0, 0, 0⟩⟩).2.1 (cmdS L ⟨a, ⟨0, 0, 0⟩⟩).2.2 = wrongS L (chkN (cmdS L ⟨a, ⟨0, 0, 0⟩⟩).1.r).1 ((cmdS L ⟨a, ⟨0, 0, 0⟩⟩).2.1.getD (min (chkN (cmdS L ⟨a, ⟨0, 0, 0⟩⟩).1.r).2 ((cmdS L ⟨a, ⟨0, 0, 0⟩⟩).2.1.length - 1)) 0) (cmdS L ⟨a, ⟨0, 0, 0⟩⟩).2.2 := if_pos ⟨by rw [h], hc⟩
  rw [e3, wrong_w h]
theorem cone_6 {L : List Tk} {n a : Nat} (h : (cmdS L ⟨a, ⟨0, 0, 0⟩⟩).2.2.w = ⟨0, 0, 0⟩) (h4 : (tkA L (cmdS L ⟨a, ⟨0, 0, 0⟩⟩).2.2.a).k = 4) (hm : n ≠ 1000) (hc : (cmdS L ⟨a, ⟨0, 0, 0⟩⟩).1.k = 1 → (chkN (cmdS L ⟨a, ⟨0, 0, 0⟩⟩).1.r).1 = 0) : (oneC chkN L n a).2 = (cmdS L ⟨a, ⟨0, 0, 0⟩⟩).2.2 := by
  rw [cone_eq]
  simp only
  have e : endS L (cmdS L ⟨a, ⟨0, 0, 0⟩⟩).2.2 = (cmdS L ⟨a, ⟨0, 0, 0⟩⟩).2.2 := if_neg (fun c => c.2 h4)
  have e2 : manyS L 1000 n a (cmdS L ⟨a, ⟨0, 0, 0⟩⟩).2.2 = (cmdS L ⟨a, ⟨0, 0, 0⟩⟩).2.2 := if_neg (fun c => hm c.2)
  rw [e, e2]
  split
  · rename_i hk
    exact if_neg (fun c => c.2 (hc hk))
  · rfl
/-- An insert's rule, as it was read. -/
theorem cmd_rule {L : List Tk} {st : Rd} (hw : st.w = ⟨0, 0, 0⟩) (hk : (cmdS L st).1.k = 1) (h : (cmdS L st).2.2.w.e = 0) :
    BdRp (cmdS L st).1.r ∧ (1 ≤ (cmdS L st).1.r.t ∧ (cmdS L st).1.r.t ≤ 4) ∧ (∀ j, 1 ≤ j → j ≤ 6 → (begsC L st)[j]? = some (tkA L ((cmdS L st).2.1.getD (min j ((cmdS L st).2.1.length - 1)) 0))) ∧ (begsC L st).length = 8 := by
  have hkn : (kndS L st).1 = 1 := by
    have h10 := knd_le L st
    have hc : (kndS L st).1 = 0 ∨ (kndS L st).1 = 1 ∨ (kndS L st).1 = 2 ∨ (kndS L st).1 = 3 ∨ (kndS L st).1 = 4 ∨ 5 ≤ (kndS L st).1 := by omega
    rcases hc with c | c | c | c | c | c
    · exfalso
      have hwrd : (wordS L st).2.w = ⟨0, 0, 0⟩ := by unfold wordS; split <;> exact hw
      have : (kndS L st).2.w.e ≠ 0 := by
        have c' : kindOf (wordS L st).1 = 0 := c
        unfold kndS
        simp only
        rw [if_pos c', wrong_w hwrd]
        exact Nat.succ_ne_zero _
      rw [cmd_k0 c] at h
      exact this h
    · exact c
    · rw [cmd_k2 c] at hk; cases hk
    · rw [cmd_k3 c] at hk; cases hk
    · rw [cmd_k4 c] at hk; cases hk
    · rw [cmd_k5 rfl c] at hk
      exfalso
      have : (kndS L st).1 = 1 := hk
      omega
  have hb : begsC L st = begs L (numS L 4294967295 (kndS L st).2).2 := by unfold begsC; rw [if_pos hkn]
  rw [cmd_k1 hkn] at h ⊢
  rw [hb]
  simp only at h ⊢
  have hlen : (ruleS L (numS L 4294967295 (kndS L st).2).2).2.1.length = 7 := by rw [rule_at]; rfl
  refine ⟨rule_bd _ _, rule_act h, fun j h1 h6 => ?_, rfl⟩
  rw [hlen]
  exact begs_at _ _ j h1 h6
theorem begsC_len (L : List Tk) (st : Rd) : (begsC L st).length = 8 := by unfold begsC; split <;> rfl
theorem commandC (w : World) (R b : Nat) (v : Value) (L : List Tk) (st : Rd) (hw : st.w = ⟨0, 0, 0⟩) (h : RAt w R b v L st.a) (hA : ActAt zA w) (hC : CmdAt zC w) (hgR : 8 < R) :
    Calls Tryz.prog 33 #[.pointer (some ⟨R, 0, none⟩)] w fun e w' => Out w R b v L (.tuple #[.agg #[.int .i64 (cvOf (cmdS L st).1).k, .int .i64 (cvOf (cmdS L st).1).n, .int .i64 (cvOf (cmdS L st).1).i, .int .i64 (cvOf (cmdS L st).1).r.i, .int .u32 ((cvOf (cmdS L st).1).r.s : Int), .int .i64 (cvOf (cmdS L st).1).r.sl, .int .u32 ((cvOf (cmdS L st).1).r.d : Int), .int .i64 (cvOf (cmdS L st).1).r.dl, .int .u16 ((cvOf (cmdS L st).1).r.p.1 : Int), .int .u16 ((cvOf (cmdS L st).1).r.p.2 : Int), .int .u16 ((cvOf (cmdS L st).1).r.q.1 : Int), .int .u16 ((cvOf (cmdS L st).1).r.q.2 : Int), .int .u8 ((cvOf (cmdS L st).1).r.m.1 : Int), .int .u8 ((cvOf (cmdS L st).1).r.m.2 : Int), .int .i64 (cvOf (cmdS L st).1).r.act, .int .u32 ((cvOf (cmdS L st).1).h.1 : Int), .int .u32 ((cvOf (cmdS L st).1).h.2.1 : Int), .int .u16 ((cvOf (cmdS L st).1).h.2.2.1 : Int), .int .u16 ((cvOf (cmdS L st).1).h.2.2.2.1 : Int), .int .u8 ((cvOf (cmdS L st).1).h.2.2.2.2 : Int)], .agg (flatT (begsC L st)).toArray]) (cmdS L st).2.2 e w' := by
  have h10 := knd_le L st
  have hc : (kndS L st).1 = 0 ∨ (kndS L st).1 = 1 ∨ (kndS L st).1 = 2 ∨ (kndS L st).1 = 3 ∨ (kndS L st).1 = 4 ∨ 5 ≤ (kndS L st).1 := by omega
  rcases hc with c | c | c | c | c | c
  · exact command0 w R b v L st hw h hA hC hgR c
  · exact command1 w R b v L st hw h hA hC hgR c
  · exact command2 w R b v L st hw h hA hC hgR c
  · exact command3 w R b v L st hw h hA hC hgR c
  · exact command4 w R b v L st hw h hA hC hgR c
  · exact command5 w R b v L st hw h hA hC hgR _ rfl c h10
end Go.Proofs.YtehedlgdencboabGreatDoor
/-
  A command's line, read. Written by tools/mkSyL.py.
-/
namespace Go.Proofs.YtehedlgdencboabGreatDoor
open Go.RowKit
set_option linter.unusedVariables false
set_option linter.unusedSimpArgs false
variable {zA zC : TypeId × (Nat × Nat)}

set_option maxRecDepth 20000 in
set_option maxHeartbeats 16000000 in
theorem commandLineC (w : World) (R b a : Nat) (v : Value) (L : List Tk) (h : RAt w R b v L a) (hA : ActAt zA w) (hC : CmdAt zC w) (hgR : 8 < R) (n : Nat) (h64 : n ≤ 1000) :
    Calls Tryz.prog 19 #[.pointer (some ⟨R, 0, none⟩), .int .i64 (n : Int)] w fun e w' => LineOut w R v (.agg #[.int .i64 (cvOf (oneC chkN L n a).1).k, .int .i64 (cvOf (oneC chkN L n a).1).n, .int .i64 (cvOf (oneC chkN L n a).1).i, .int .i64 (cvOf (oneC chkN L n a).1).r.i, .int .u32 ((cvOf (oneC chkN L n a).1).r.s : Int), .int .i64 (cvOf (oneC chkN L n a).1).r.sl, .int .u32 ((cvOf (oneC chkN L n a).1).r.d : Int), .int .i64 (cvOf (oneC chkN L n a).1).r.dl, .int .u16 ((cvOf (oneC chkN L n a).1).r.p.1 : Int), .int .u16 ((cvOf (oneC chkN L n a).1).r.p.2 : Int), .int .u16 ((cvOf (oneC chkN L n a).1).r.q.1 : Int), .int .u16 ((cvOf (oneC chkN L n a).1).r.q.2 : Int), .int .u8 ((cvOf (oneC chkN L n a).1).r.m.1 : Int), .int .u8 ((cvOf (oneC chkN L n a).1).r.m.2 : Int), .int .i64 (cvOf (oneC chkN L n a).1).r.act, .int .u32 ((cvOf (oneC chkN L n a).1).h.1 : Int), .int .u32 ((cvOf (oneC chkN L n a).1).h.2.1 : Int), .int .u16 ((cvOf (oneC chkN L n a).1).h.2.2.1 : Int), .int .u16 ((cvOf (oneC chkN L n a).1).h.2.2.2.1 : Int), .int .u8 ((cvOf (oneC chkN L n a).1).h.2.2.2.2 : Int)]) (oneC chkN L n a).2 e w' := by
  have HT : Hid (Old w.heap.size v) := h.old
  have h1 := @cone_1 L n a
  have h2 := @cone_2 L n a
  have h3 := @cone_3 L n a
  have h4 := @cone_4 L n a
  have h6 := @cone_6 L n a
  have hV := cone_v L n a
  have hcr := @cmd_rule L ⟨a, ⟨0, 0, 0⟩⟩ rfl
  have hbl := begsC_len L ⟨a, ⟨0, 0, 0⟩⟩
  have hRu : ∀ W : World, RAt W R b v L a → ActAt zA W → CmdAt zC W → Calls Tryz.prog 33 #[.pointer (some ⟨R, 0, none⟩)] W _ := fun W hW hX hY => commandC W R b v L ⟨a, ⟨0, 0, 0⟩⟩ rfl hW hX hY hgR
  have hNx : ∀ W : World, RAt W R b v L a → Calls Tryz.prog 32 #[.pointer (some ⟨R, 0, none⟩)] W _ := fun W hW => nextC W R b a v L hW
  have hG0 := fun c W => giveUpC c (tkA L a) W
  rw [hV]
  clear hV
  generalize tkA L a = fst at *
  generalize (oneC chkN L n a).2 = FIN at *
  generalize begsC L ⟨a, ⟨0, 0, 0⟩⟩ = bg at *
  generalize cmdS L ⟨a, ⟨0, 0, 0⟩⟩ = P at *
  obtain ⟨C0, at_, rs⟩ := P
  simp only at h1 h2 h3 h4 h6 hcr hRu ⊢
  have hlR : R < w.heap.size := blk_lt h.r
  have HR : Hid (RAt (w.alloc (.cells #[.int .i64 0, .int .i64 0, .int .i64 0, .int .i64 0, .int .u32 0, .int .i64 0, .int .u32 0, .int .i64 0, .int .u16 0, .int .u16 0, .int .u16 0, .int .u16 0, .int .u8 0, .int .u8 0, .int .i64 0, .int .u32 0, .int .u32 0, .int .u16 0, .int .u16 0, .int .u8 0] 61)) R b v L a) := h.on ((Below.refl _ _).alloc (Nat.le_refl _) _)
  have HA : Hid (ActAt zA (w.alloc (.cells #[.int .i64 0, .int .i64 0, .int .i64 0, .int .i64 0, .int .u32 0, .int .i64 0, .int .u32 0, .int .i64 0, .int .u16 0, .int .u16 0, .int .u16 0, .int .u16 0, .int .u8 0, .int .u8 0, .int .i64 0, .int .u32 0, .int .u32 0, .int .u16 0, .int .u16 0, .int .u8 0] 61))) := blk_alloc hA _
  have HC : Hid (CmdAt zC (w.alloc (.cells #[.int .i64 0, .int .i64 0, .int .i64 0, .int .i64 0, .int .u32 0, .int .i64 0, .int .u32 0, .int .i64 0, .int .u16 0, .int .u16 0, .int .u16 0, .int .u16 0, .int .u8 0, .int .u8 0, .int .i64 0, .int .u32 0, .int .u32 0, .int .u16 0, .int .u16 0, .int .u8 0] 61))) := blk_alloc hC _
  have HX : Hid ((w.alloc (.cells #[.int .i64 0, .int .i64 0, .int .i64 0, .int .i64 0, .int .u32 0, .int .i64 0, .int .u32 0, .int .i64 0, .int .u16 0, .int .u16 0, .int .u16 0, .int .u16 0, .int .u8 0, .int .u8 0, .int .i64 0, .int .u32 0, .int .u32 0, .int .u16 0, .int .u16 0, .int .u8 0] 61)).heap[w.heap.size]? = some (.cells #[.int .i64 0, .int .i64 0, .int .i64 0, .int .i64 0, .int .u32 0, .int .i64 0, .int .u32 0, .int .i64 0, .int .u16 0, .int .u16 0, .int .u16 0, .int .u16 0, .int .u8 0, .int .u8 0, .int .i64 0, .int .u32 0, .int .u32 0, .int .u16 0, .int .u16 0, .int .u8 0] 61)) := blk_new w _
  have HB : Hid (But R w (w.alloc (.cells #[.int .i64 0, .int .i64 0, .int .i64 0, .int .i64 0, .int .u32 0, .int .i64 0, .int .u32 0, .int .i64 0, .int .u16 0, .int .u16 0, .int .u16 0, .int .u16 0, .int .u8 0, .int .u8 0, .int .i64 0, .int .u32 0, .int .u32 0, .int .u16 0, .int .u16 0, .int .u8 0] 61))) := (But.refl R w).al _
  have HZ : Hid (w.heap.size + 1 ≤ (w.alloc (.cells #[.int .i64 0, .int .i64 0, .int .i64 0, .int .i64 0, .int .u32 0, .int .i64 0, .int .u32 0, .int .i64 0, .int .u16 0, .int .u16 0, .int .u16 0, .int .u16 0, .int .u8 0, .int .u8 0, .int .i64 0, .int .u32 0, .int .u32 0, .int .u16 0, .int .u16 0, .int .u8 0] 61)).heap.size) := by show _ ≤ _; simp
  clear h hA hC
  generalize hW0 : (w.alloc (.cells #[.int .i64 0, .int .i64 0, .int .i64 0, .int .i64 0, .int .u32 0, .int .i64 0, .int .u32 0, .int .i64 0, .int .u16 0, .int .u16 0, .int .u16 0, .int .u16 0, .int .u8 0, .int .u8 0, .int .i64 0, .int .u32 0, .int .u32 0, .int .u16 0, .int .u16 0, .int .u8 0] 61)) = W0 at *
  go_enter Tryz.func19, Tryz.ntmps19
  go_upto_region 1 with (fail)
  try rw [hW0]
  clear hW0
  go_wp2_with (fail)
  refine (hNx _ HR.out).mono ?_
  rintro e w1 ⟨rfl, hb1⟩
  have H1R : Hid (RAt (w1.alloc (.cells #[.int .i64 (fst.k : Int), .string fst.t, .int .u32 (fst.v : Int), .int .i64 (fst.l : Int), .int .i64 (fst.c : Int)] 84)) R b v L a) := (HR.out.on hb1).on ((Below.refl _ _).alloc (Nat.le_refl _) _)
  have H1A : Hid (ActAt zA (w1.alloc (.cells #[.int .i64 (fst.k : Int), .string fst.t, .int .u32 (fst.v : Int), .int .i64 (fst.l : Int), .int .i64 (fst.c : Int)] 84))) := blk_alloc (blk_on HA.out hb1) _
  have H1C : Hid (CmdAt zC (w1.alloc (.cells #[.int .i64 (fst.k : Int), .string fst.t, .int .u32 (fst.v : Int), .int .i64 (fst.l : Int), .int .i64 (fst.c : Int)] 84))) := blk_alloc (blk_on HC.out hb1) _
  have H1X : Hid ((w1.alloc (.cells #[.int .i64 (fst.k : Int), .string fst.t, .int .u32 (fst.v : Int), .int .i64 (fst.l : Int), .int .i64 (fst.c : Int)] 84)).heap[w.heap.size]? = some (.cells #[.int .i64 0, .int .i64 0, .int .i64 0, .int .i64 0, .int .u32 0, .int .i64 0, .int .u32 0, .int .i64 0, .int .u16 0, .int .u16 0, .int .u16 0, .int .u16 0, .int .u8 0, .int .u8 0, .int .i64 0, .int .u32 0, .int .u32 0, .int .u16 0, .int .u16 0, .int .u8 0] 61)) := blk_alloc (blk_on HX.out hb1) _
  have H1T : Hid ((w1.alloc (.cells #[.int .i64 (fst.k : Int), .string fst.t, .int .u32 (fst.v : Int), .int .i64 (fst.l : Int), .int .i64 (fst.c : Int)] 84)).heap[w1.heap.size]? = some (.cells #[.int .i64 (fst.k : Int), .string fst.t, .int .u32 (fst.v : Int), .int .i64 (fst.l : Int), .int .i64 (fst.c : Int)] 84)) := blk_new w1 _
  have H1B : Hid (But R w (w1.alloc (.cells #[.int .i64 (fst.k : Int), .string fst.t, .int .u32 (fst.v : Int), .int .i64 (fst.l : Int), .int .i64 (fst.c : Int)] 84))) := (HB.out.then hb1).al _
  have z1 : w.heap.size + 1 ≤ w1.heap.size := Nat.le_trans HZ.out hb1.size
  clear hb1 HR HA HC HX HB HZ
  go_wp2_with (fail)
  refine (hRu _ H1R.out H1A.out H1C.out).mono ?_
  rintro e w2 ⟨hB, ⟨hne, F, rfl, hF, hl⟩ | ⟨h0, rfl, hR⟩⟩
  · exact ⟨rfl, by rw [h1 hne]; exact ⟨H1B.out.tr hB, .inl ⟨hne, F, rfl, hF, Nat.le_trans H1B.out.size hl⟩⟩⟩
  have z2 : w1.heap.size + 1 ≤ w2.heap.size := by have := hB.size; simpa using this
  have H2R : Hid (RAt w2 R b v L rs.a) := hR
  have H2X : Hid (w2.heap[w.heap.size]? = some (.cells #[.int .i64 0, .int .i64 0, .int .i64 0, .int .i64 0, .int .u32 0, .int .i64 0, .int .u32 0, .int .i64 0, .int .u16 0, .int .u16 0, .int .u16 0, .int .u16 0, .int .u8 0, .int .u8 0, .int .i64 0, .int .u32 0, .int .u32 0, .int .u16 0, .int .u16 0, .int .u8 0] 61)) := hB.blk H1X.out (by omega)
  have H2T : Hid (w2.heap[w1.heap.size]? = some (.cells #[.int .i64 (fst.k : Int), .string fst.t, .int .u32 (fst.v : Int), .int .i64 (fst.l : Int), .int .i64 (fst.c : Int)] 84)) := hB.blk H1T.out (by omega)
  have H2B : Hid (But R w w2) := H1B.out.tr hB
  have hcr := fun q => hcr q (by rw [h0])
  clear hB hR H1R H1A H1C H1X H1T H1B h1 hRu hNx
  have hE0 : ((w2.alloc (.cells #[.int .i64 0, .int .i64 0, .int .i64 0, .int .i64 0, .int .u32 0, .int .i64 0, .int .u32 0, .int .i64 0, .int .u16 0, .int .u16 0, .int .u16 0, .int .u16 0, .int .u8 0, .int .u8 0, .int .i64 0, .int .u32 0, .int .u32 0, .int .u16 0, .int .u16 0, .int .u8 0] 61)).alloc (.cells #[.int .i64 0, .string ⟨#[]⟩, .int .u32 0, .int .i64 0, .int .i64 0, .int .i64 0, .string ⟨#[]⟩, .int .u32 0, .int .i64 0, .int .i64 0, .int .i64 0, .string ⟨#[]⟩, .int .u32 0, .int .i64 0, .int .i64 0, .int .i64 0, .string ⟨#[]⟩, .int .u32 0, .int .i64 0, .int .i64 0, .int .i64 0, .string ⟨#[]⟩, .int .u32 0, .int .i64 0, .int .i64 0, .int .i64 0, .string ⟨#[]⟩, .int .u32 0, .int .i64 0, .int .i64 0, .int .i64 0, .string ⟨#[]⟩, .int .u32 0, .int .i64 0, .int .i64 0, .int .i64 0, .string ⟨#[]⟩, .int .u32 0, .int .i64 0, .int .i64 0] 87)).heap[w2.heap.size]? = some (.cells #[.int .i64 0, .int .i64 0, .int .i64 0, .int .i64 0, .int .u32 0, .int .i64 0, .int .u32 0, .int .i64 0, .int .u16 0, .int .u16 0, .int .u16 0, .int .u16 0, .int .u8 0, .int .u8 0, .int .i64 0, .int .u32 0, .int .u32 0, .int .u16 0, .int .u16 0, .int .u8 0] 61) := blk_alloc (blk_new w2 _) _
  have hE1 : ((w2.alloc (.cells #[.int .i64 0, .int .i64 0, .int .i64 0, .int .i64 0, .int .u32 0, .int .i64 0, .int .u32 0, .int .i64 0, .int .u16 0, .int .u16 0, .int .u16 0, .int .u16 0, .int .u8 0, .int .u8 0, .int .i64 0, .int .u32 0, .int .u32 0, .int .u16 0, .int .u16 0, .int .u8 0] 61)).alloc (.cells #[.int .i64 0, .string ⟨#[]⟩, .int .u32 0, .int .i64 0, .int .i64 0, .int .i64 0, .string ⟨#[]⟩, .int .u32 0, .int .i64 0, .int .i64 0, .int .i64 0, .string ⟨#[]⟩, .int .u32 0, .int .i64 0, .int .i64 0, .int .i64 0, .string ⟨#[]⟩, .int .u32 0, .int .i64 0, .int .i64 0, .int .i64 0, .string ⟨#[]⟩, .int .u32 0, .int .i64 0, .int .i64 0, .int .i64 0, .string ⟨#[]⟩, .int .u32 0, .int .i64 0, .int .i64 0, .int .i64 0, .string ⟨#[]⟩, .int .u32 0, .int .i64 0, .int .i64 0, .int .i64 0, .string ⟨#[]⟩, .int .u32 0, .int .i64 0, .int .i64 0] 87)).heap[w2.heap.size + 1]? = some (.cells #[.int .i64 0, .string ⟨#[]⟩, .int .u32 0, .int .i64 0, .int .i64 0, .int .i64 0, .string ⟨#[]⟩, .int .u32 0, .int .i64 0, .int .i64 0, .int .i64 0, .string ⟨#[]⟩, .int .u32 0, .int .i64 0, .int .i64 0, .int .i64 0, .string ⟨#[]⟩, .int .u32 0, .int .i64 0, .int .i64 0, .int .i64 0, .string ⟨#[]⟩, .int .u32 0, .int .i64 0, .int .i64 0, .int .i64 0, .string ⟨#[]⟩, .int .u32 0, .int .i64 0, .int .i64 0, .int .i64 0, .string ⟨#[]⟩, .int .u32 0, .int .i64 0, .int .i64 0, .int .i64 0, .string ⟨#[]⟩, .int .u32 0, .int .i64 0, .int .i64 0] 87) := blk_newN (by simp) _
  have hfl : (flatT bg).length = 40 := by rw [flatT_length, hbl]
  have hone := flatT_one bg
  have HQr : Hid ((cvOf C0).r = ruOf C0.r) := rfl
  have HQk : Hid ((cvOf C0).k = (C0.k : Int)) := rfl
  generalize hQ : cvOf C0 = Q at *
  have HQ : Hid (cvOf C0 = Q) := hQ
  clear hQ
  go_wp2_with (first | (refine wpList_store_blk rfl 61 (.tmp 6) (.tmp 13) rfl w2.heap.size 0 #[.int .i64 Q.k, .int .i64 Q.n, .int .i64 Q.i, .int .i64 Q.r.i, .int .u32 (Q.r.s : Int), .int .i64 Q.r.sl, .int .u32 (Q.r.d : Int), .int .i64 Q.r.dl, .int .u16 (Q.r.p.1 : Int), .int .u16 (Q.r.p.2 : Int), .int .u16 (Q.r.q.1 : Int), .int .u16 (Q.r.q.2 : Int), .int .u8 (Q.r.m.1 : Int), .int .u8 (Q.r.m.2 : Int), .int .i64 Q.r.act, .int .u32 (Q.h.1 : Int), .int .u32 (Q.h.2.1 : Int), .int .u16 (Q.h.2.2.1 : Int), .int .u16 (Q.h.2.2.2.1 : Int), .int .u8 (Q.h.2.2.2.2 : Int)] #[.int .i64 Q.k, .int .i64 Q.n, .int .i64 Q.i, .int .i64 Q.r.i, .int .u32 (Q.r.s : Int), .int .i64 Q.r.sl, .int .u32 (Q.r.d : Int), .int .i64 Q.r.dl, .int .u16 (Q.r.p.1 : Int), .int .u16 (Q.r.p.2 : Int), .int .u16 (Q.r.q.1 : Int), .int .u16 (Q.r.q.2 : Int), .int .u8 (Q.r.m.1 : Int), .int .u8 (Q.r.m.2 : Int), .int .i64 Q.r.act, .int .u32 (Q.h.1 : Int), .int .u32 (Q.h.2.1 : Int), .int .u16 (Q.h.2.2.1 : Int), .int .u16 (Q.h.2.2.2.1 : Int), .int .u8 (Q.h.2.2.2.2 : Int)] rfl rfl 61 _ hE0 (Nat.le_of_ble_eq_true rfl) rfl (by kernel_rfl) rfl ?_; intro w3 hw3 ho3) | (refine wpList_store_blk rfl 87 (.tmp 7) (.tmp 14) rfl (w2.heap.size + 1) 0 (flatT bg).toArray (flatT bg).toArray rfl rfl 87 _ (only_blk ho3 hE1 (by omega)) (by simp [hfl]) (by simp [hfl]) (by simp only [List.size_toArray, hfl]; kernel_rfl) (by simpa [List.all_eq_true] using hone) ?_; intro w4 hw4 ho4))
  have HB24 : Below w2.heap.size w2 w4 := ((((Below.refl _ _).alloc (Nat.le_refl _) _).alloc (by simp) _).trans (ho3.below (Nat.le_refl _))).trans (ho4.below (Nat.le_succ _))
  have H4R : Hid (RAt w4 R b v L rs.a) := H2R.out.on HB24
  have H4X : Hid (w4.heap[w.heap.size]? = some (.cells #[.int .i64 0, .int .i64 0, .int .i64 0, .int .i64 0, .int .u32 0, .int .i64 0, .int .u32 0, .int .i64 0, .int .u16 0, .int .u16 0, .int .u16 0, .int .u16 0, .int .u8 0, .int .u8 0, .int .i64 0, .int .u32 0, .int .u32 0, .int .u16 0, .int .u16 0, .int .u8 0] 61)) := blk_on H2X.out HB24
  have H4T : Hid (w4.heap[w1.heap.size]? = some (.cells #[.int .i64 (fst.k : Int), .string fst.t, .int .u32 (fst.v : Int), .int .i64 (fst.l : Int), .int .i64 (fst.c : Int)] 84)) := blk_on H2T.out HB24
  have H4G : Hid (w4.heap[w2.heap.size]? = some (.cells #[.int .i64 Q.k, .int .i64 Q.n, .int .i64 Q.i, .int .i64 Q.r.i, .int .u32 (Q.r.s : Int), .int .i64 Q.r.sl, .int .u32 (Q.r.d : Int), .int .i64 Q.r.dl, .int .u16 (Q.r.p.1 : Int), .int .u16 (Q.r.p.2 : Int), .int .u16 (Q.r.q.1 : Int), .int .u16 (Q.r.q.2 : Int), .int .u8 (Q.r.m.1 : Int), .int .u8 (Q.r.m.2 : Int), .int .i64 Q.r.act, .int .u32 (Q.h.1 : Int), .int .u32 (Q.h.2.1 : Int), .int .u16 (Q.h.2.2.1 : Int), .int .u16 (Q.h.2.2.2.1 : Int), .int .u8 (Q.h.2.2.2.2 : Int)] 61)) := only_blk ho4 hw3 (by omega)
  have H4E : Hid (w4.heap[w2.heap.size + 1]? = some (.cells (flatT bg).toArray 87)) := hw4
  have H4B : Hid (But R w w4) := H2B.out.then HB24
  have z4 : w2.heap.size + 1 + 1 ≤ w4.heap.size := by rw [ho4.size, ho3.size]; simp
  clear HB24 hw3 ho3 hw4 ho4 hE0 hE1 H2R H2X H2T H2B hone
  by_cases k4 : (tkA L rs.a).k = 4
  rotate_left
  · refine (endBad w4 R b rs.a v L H4R.out k4).mono ?_
    rintro e w5 ⟨hB5, F, rfl, hF, hl⟩
    exact ⟨rfl, H4B.out.tr hB5, .inl ⟨by rw [h2 h0 k4]; exact Nat.succ_ne_zero _, F, rfl, by rw [h2 h0 k4]; exact hF, Nat.le_trans H4B.out.size hl⟩⟩
  refine (endOk w4 R b rs.a v L H4R.out k4).mono ?_
  rintro e w5 ⟨hB5, rfl, hR5⟩
  have H5R : Hid (Rdr w5 R v (rs.a + 1)) := hR5
  have H5X : Hid (w5.heap[w.heap.size]? = some (.cells #[.int .i64 0, .int .i64 0, .int .i64 0, .int .i64 0, .int .u32 0, .int .i64 0, .int .u32 0, .int .i64 0, .int .u16 0, .int .u16 0, .int .u16 0, .int .u16 0, .int .u8 0, .int .u8 0, .int .i64 0, .int .u32 0, .int .u32 0, .int .u16 0, .int .u16 0, .int .u8 0] 61)) := hB5.blk H4X.out (by omega)
  have H5T : Hid (w5.heap[w1.heap.size]? = some (.cells #[.int .i64 (fst.k : Int), .string fst.t, .int .u32 (fst.v : Int), .int .i64 (fst.l : Int), .int .i64 (fst.c : Int)] 84)) := hB5.blk H4T.out (by omega)
  have H5G : Hid (w5.heap[w2.heap.size]? = some (.cells #[.int .i64 Q.k, .int .i64 Q.n, .int .i64 Q.i, .int .i64 Q.r.i, .int .u32 (Q.r.s : Int), .int .i64 Q.r.sl, .int .u32 (Q.r.d : Int), .int .i64 Q.r.dl, .int .u16 (Q.r.p.1 : Int), .int .u16 (Q.r.p.2 : Int), .int .u16 (Q.r.q.1 : Int), .int .u16 (Q.r.q.2 : Int), .int .u8 (Q.r.m.1 : Int), .int .u8 (Q.r.m.2 : Int), .int .i64 Q.r.act, .int .u32 (Q.h.1 : Int), .int .u32 (Q.h.2.1 : Int), .int .u16 (Q.h.2.2.1 : Int), .int .u16 (Q.h.2.2.2.1 : Int), .int .u8 (Q.h.2.2.2.2 : Int)] 61)) := hB5.blk H4G.out (by omega)
  have H5E : Hid (w5.heap[w2.heap.size + 1]? = some (.cells (flatT bg).toArray 87)) := hB5.blk H4E.out (by omega)
  have H5B : Hid (But R w w5) := H4B.out.tr hB5
  have z5 : w4.heap.size ≤ w5.heap.size := hB5.size
  clear hB5 hR5 H4R H4X H4T H4G H4E H4B h2
  have hn0 : (n : Int) ≤ 1000 := by omega
  by_cases hm : n = 1000
  · have hF3 := h3 h0 k4 hm
    subst hm
    obtain ⟨q0, q1, q2, q3, q4⟩ := blk5 H5T.out
    clear h3 h4 h6
    go_wp2_with (fail)
    refine (hG0 _ _).mono ?_
    rintro e w6 ⟨F, rfl, hF, hl, hb6⟩
    exact ⟨rfl, H5B.out.then hb6, .inl ⟨by rw [hF3]; exact Nat.succ_ne_zero _, F, rfl, by rw [hF3]; exact hF, Nat.le_trans H5B.out.size hl⟩⟩
  have hm' : ¬ (n : Int) = 1000 := by omega
  have g0 : w5.cell? ⟨w2.heap.size, 0, none⟩ = some (.int .i64 Q.k) := blk_cell H5G.out rfl
  have g1 : w5.cell? ⟨w2.heap.size, 1, none⟩ = some (.int .i64 Q.n) := blk_cell H5G.out rfl
  have g2 : w5.cell? ⟨w2.heap.size, 2, none⟩ = some (.int .i64 Q.i) := blk_cell H5G.out rfl
  have g3 : w5.cell? ⟨w2.heap.size, 3, none⟩ = some (.int .i64 Q.r.i) := blk_cell H5G.out rfl
  have g4 : w5.cell? ⟨w2.heap.size, 4, none⟩ = some (.int .u32 (Q.r.s : Int)) := blk_cell H5G.out rfl
  have g5 : w5.cell? ⟨w2.heap.size, 5, none⟩ = some (.int .i64 Q.r.sl) := blk_cell H5G.out rfl
  have g6 : w5.cell? ⟨w2.heap.size, 6, none⟩ = some (.int .u32 (Q.r.d : Int)) := blk_cell H5G.out rfl
  have g7 : w5.cell? ⟨w2.heap.size, 7, none⟩ = some (.int .i64 Q.r.dl) := blk_cell H5G.out rfl
  have g8 : w5.cell? ⟨w2.heap.size, 8, none⟩ = some (.int .u16 (Q.r.p.1 : Int)) := blk_cell H5G.out rfl
  have g9 : w5.cell? ⟨w2.heap.size, 9, none⟩ = some (.int .u16 (Q.r.p.2 : Int)) := blk_cell H5G.out rfl
  have g10 : w5.cell? ⟨w2.heap.size, 10, none⟩ = some (.int .u16 (Q.r.q.1 : Int)) := blk_cell H5G.out rfl
  have g11 : w5.cell? ⟨w2.heap.size, 11, none⟩ = some (.int .u16 (Q.r.q.2 : Int)) := blk_cell H5G.out rfl
  have g12 : w5.cell? ⟨w2.heap.size, 12, none⟩ = some (.int .u8 (Q.r.m.1 : Int)) := blk_cell H5G.out rfl
  have g13 : w5.cell? ⟨w2.heap.size, 13, none⟩ = some (.int .u8 (Q.r.m.2 : Int)) := blk_cell H5G.out rfl
  have g14 : w5.cell? ⟨w2.heap.size, 14, none⟩ = some (.int .i64 Q.r.act) := blk_cell H5G.out rfl
  have g15 : w5.cell? ⟨w2.heap.size, 15, none⟩ = some (.int .u32 (Q.h.1 : Int)) := blk_cell H5G.out rfl
  have g16 : w5.cell? ⟨w2.heap.size, 16, none⟩ = some (.int .u32 (Q.h.2.1 : Int)) := blk_cell H5G.out rfl
  have g17 : w5.cell? ⟨w2.heap.size, 17, none⟩ = some (.int .u16 (Q.h.2.2.1 : Int)) := blk_cell H5G.out rfl
  have g18 : w5.cell? ⟨w2.heap.size, 18, none⟩ = some (.int .u16 (Q.h.2.2.2.1 : Int)) := blk_cell H5G.out rfl
  have g19 : w5.cell? ⟨w2.heap.size, 19, none⟩ = some (.int .u8 (Q.h.2.2.2.2 : Int)) := blk_cell H5G.out rfl
  have HO : Hid (rs.w = ⟨0, 0, 0⟩) := h0
  by_cases hk : C0.k = 1
  rotate_left
  · have hF6 : Hid (FIN = rs) := h6 h0 k4 hm (fun c => absurd c hk)
    have hk' : ¬ Q.k = 1 := by rw [HQk.out]; omega
    clear hcr h3 h4 h6 h0
    go_wp2_with (first | (refine wpList_load_blk rfl 61 (.tmp 6) rfl w2.heap.size #[.int .i64 Q.k, .int .i64 Q.n, .int .i64 Q.i, .int .i64 Q.r.i, .int .u32 (Q.r.s : Int), .int .i64 Q.r.sl, .int .u32 (Q.r.d : Int), .int .i64 Q.r.dl, .int .u16 (Q.r.p.1 : Int), .int .u16 (Q.r.p.2 : Int), .int .u16 (Q.r.q.1 : Int), .int .u16 (Q.r.q.2 : Int), .int .u8 (Q.r.m.1 : Int), .int .u8 (Q.r.m.2 : Int), .int .i64 Q.r.act, .int .u32 (Q.h.1 : Int), .int .u32 (Q.h.2.1 : Int), .int .u16 (Q.h.2.2.1 : Int), .int .u16 (Q.h.2.2.2.1 : Int), .int .u8 (Q.h.2.2.2.2 : Int)] rfl H5G.out Tryz.underlying61 rfl (by kernel_rfl) ?_) | (refine wpList_store_blk rfl 61 (.tmp 4) (.tmp 28) rfl w.heap.size 0 #[.int .i64 Q.k, .int .i64 Q.n, .int .i64 Q.i, .int .i64 Q.r.i, .int .u32 (Q.r.s : Int), .int .i64 Q.r.sl, .int .u32 (Q.r.d : Int), .int .i64 Q.r.dl, .int .u16 (Q.r.p.1 : Int), .int .u16 (Q.r.p.2 : Int), .int .u16 (Q.r.q.1 : Int), .int .u16 (Q.r.q.2 : Int), .int .u8 (Q.r.m.1 : Int), .int .u8 (Q.r.m.2 : Int), .int .i64 Q.r.act, .int .u32 (Q.h.1 : Int), .int .u32 (Q.h.2.1 : Int), .int .u16 (Q.h.2.2.1 : Int), .int .u16 (Q.h.2.2.2.1 : Int), .int .u8 (Q.h.2.2.2.2 : Int)] #[.int .i64 Q.k, .int .i64 Q.n, .int .i64 Q.i, .int .i64 Q.r.i, .int .u32 (Q.r.s : Int), .int .i64 Q.r.sl, .int .u32 (Q.r.d : Int), .int .i64 Q.r.dl, .int .u16 (Q.r.p.1 : Int), .int .u16 (Q.r.p.2 : Int), .int .u16 (Q.r.q.1 : Int), .int .u16 (Q.r.q.2 : Int), .int .u8 (Q.r.m.1 : Int), .int .u8 (Q.r.m.2 : Int), .int .i64 Q.r.act, .int .u32 (Q.h.1 : Int), .int .u32 (Q.h.2.1 : Int), .int .u16 (Q.h.2.2.1 : Int), .int .u16 (Q.h.2.2.2.1 : Int), .int .u8 (Q.h.2.2.2.2 : Int)] rfl rfl 61 _ H5X.out (Nat.le_of_ble_eq_true rfl) rfl (by kernel_rfl) rfl ?_; intro w8 hw8 ho8))
    exact bodyPost_ret (results_blk Tryz.results19 rfl hw8 Tryz.underlying61 rfl (by kernel_rfl)) rfl ⟨but_newer H5B.out ho8 (Nat.le_refl _), .inr ⟨by rw [hF6.out]; exact HO.out, by rw [HQ.out], by rw [hF6.out]; exact only_blk ho8 H5R.out (by omega)⟩⟩
  obtain ⟨hbd, hact, hbg, _⟩ := hcr hk
  have hQr := HQr.out
  have bd : BdR Q.r := by rw [hQr]; exact hbd.bd
  have hk' : Q.k = 1 := by rw [HQk.out]; omega
  have hkc : w5.cell? ⟨w2.heap.size, 0, none⟩ = some (.int .i64 1) := by rw [← hk']; exact g0
  clear g0
  clear HQr
  generalize hQR : Q.r = QR at *
  have HQr : Hid (QR = ruOf C0.r) := hQr
  have HQR : Hid (Q.r = QR) := hQR
  clear hQr hQR
  go_wp2_with (refine wpList_load_blk rfl 87 (.tmp 7) rfl (w2.heap.size + 1) (flatT bg).toArray rfl H5E.out Tryz.underlying87 rfl (by simp only [List.size_toArray, hfl]; kernel_rfl) ?_)
  by_cases hc : (errs QR).1 = 0
  rotate_left
  · have hbd6 := errs_bd QR
    have hact' : 1 ≤ QR.act ∧ QR.act ≤ 4 := by rw [HQr.out]; show (1 : Int) ≤ (C0.r.t : Int) ∧ (C0.r.t : Int) ≤ 4; omega
    have h6' := errs_six hact'
    have hp' := errs_pos hc
    obtain ⟨k, hk2⟩ : ∃ k : Nat, (errs QR).2 = (k : Int) := ⟨(errs QR).2.toNat, by omega⟩
    have hcn : (chkN C0.r).1 ≠ 0 := by show (errs (ruOf C0.r)).1.toNat ≠ 0; rw [← HQr.out]; omega
    have hce : ((chkN C0.r).1 : Int) = (errs QR).1 := by show ((errs (ruOf C0.r)).1.toNat : Int) = _; rw [← HQr.out]; omega
    have hck : (chkN C0.r).2 = k := by show (errs (ruOf C0.r)).2.toNat = k; rw [← HQr.out]; omega
    have hF4 := h4 h0 k4 hm hk hcn
    have hbk := hbg k (by omega) (by omega)
    rw [hck] at hF4
    refine (checkRuleBad QR bg w5 bd hc k hk2 hbl _ hbk).mono ?_
    rintro e w6 ⟨F, rfl, hF, hl, hb6⟩
    exact ⟨rfl, H5B.out.then hb6, .inl ⟨by rw [hF4]; exact hcn, F, rfl, by rw [hF4]; simp only; rw [hce]; exact hF, Nat.le_trans H5B.out.size hl⟩⟩
  have hcn : (chkN C0.r).1 = 0 := by show (errs (ruOf C0.r)).1.toNat = 0; rw [← HQr.out]; omega
  have hF6 : Hid (FIN = rs) := h6 h0 k4 hm (fun _ => hcn)
  refine (checkRuleOk QR bg w5 bd hc).mono ?_
  rintro e w6 ⟨rfl, hb6⟩
  have H6R : Hid (Rdr w6 R v (rs.a + 1)) := blk_on H5R.out hb6
  have H6X : Hid (w6.heap[w.heap.size]? = some (.cells #[.int .i64 0, .int .i64 0, .int .i64 0, .int .i64 0, .int .u32 0, .int .i64 0, .int .u32 0, .int .i64 0, .int .u16 0, .int .u16 0, .int .u16 0, .int .u16 0, .int .u8 0, .int .u8 0, .int .i64 0, .int .u32 0, .int .u32 0, .int .u16 0, .int .u16 0, .int .u8 0] 61)) := blk_on H5X.out hb6
  have H6G : Hid (w6.heap[w2.heap.size]? = some (.cells #[.int .i64 Q.k, .int .i64 Q.n, .int .i64 Q.i, .int .i64 QR.i, .int .u32 (QR.s : Int), .int .i64 QR.sl, .int .u32 (QR.d : Int), .int .i64 QR.dl, .int .u16 (QR.p.1 : Int), .int .u16 (QR.p.2 : Int), .int .u16 (QR.q.1 : Int), .int .u16 (QR.q.2 : Int), .int .u8 (QR.m.1 : Int), .int .u8 (QR.m.2 : Int), .int .i64 QR.act, .int .u32 (Q.h.1 : Int), .int .u32 (Q.h.2.1 : Int), .int .u16 (Q.h.2.2.1 : Int), .int .u16 (Q.h.2.2.2.1 : Int), .int .u8 (Q.h.2.2.2.2 : Int)] 61)) := blk_on H5G.out hb6
  have H6B : Hid (But R w w6) := H5B.out.then hb6
  clear hb6 H5R H5X H5T H5G H5E H5B g1 g2 g3 g4 g5 g6 g7 g8 g9 g10 g11 g12 g13 g14 g15 g16 g17 g18 g19 hkc h3 h4 h6 h0 bd hc hcn hbd hact hbg hk'
  go_wp2_with (first | (refine wpList_load_blk rfl 61 (.tmp 6) rfl w2.heap.size #[.int .i64 Q.k, .int .i64 Q.n, .int .i64 Q.i, .int .i64 QR.i, .int .u32 (QR.s : Int), .int .i64 QR.sl, .int .u32 (QR.d : Int), .int .i64 QR.dl, .int .u16 (QR.p.1 : Int), .int .u16 (QR.p.2 : Int), .int .u16 (QR.q.1 : Int), .int .u16 (QR.q.2 : Int), .int .u8 (QR.m.1 : Int), .int .u8 (QR.m.2 : Int), .int .i64 QR.act, .int .u32 (Q.h.1 : Int), .int .u32 (Q.h.2.1 : Int), .int .u16 (Q.h.2.2.1 : Int), .int .u16 (Q.h.2.2.2.1 : Int), .int .u8 (Q.h.2.2.2.2 : Int)] rfl H6G.out Tryz.underlying61 rfl (by kernel_rfl) ?_) | (refine wpList_store_blk rfl 61 (.tmp 4) (.tmp 28) rfl w.heap.size 0 #[.int .i64 Q.k, .int .i64 Q.n, .int .i64 Q.i, .int .i64 QR.i, .int .u32 (QR.s : Int), .int .i64 QR.sl, .int .u32 (QR.d : Int), .int .i64 QR.dl, .int .u16 (QR.p.1 : Int), .int .u16 (QR.p.2 : Int), .int .u16 (QR.q.1 : Int), .int .u16 (QR.q.2 : Int), .int .u8 (QR.m.1 : Int), .int .u8 (QR.m.2 : Int), .int .i64 QR.act, .int .u32 (Q.h.1 : Int), .int .u32 (Q.h.2.1 : Int), .int .u16 (Q.h.2.2.1 : Int), .int .u16 (Q.h.2.2.2.1 : Int), .int .u8 (Q.h.2.2.2.2 : Int)] #[.int .i64 Q.k, .int .i64 Q.n, .int .i64 Q.i, .int .i64 QR.i, .int .u32 (QR.s : Int), .int .i64 QR.sl, .int .u32 (QR.d : Int), .int .i64 QR.dl, .int .u16 (QR.p.1 : Int), .int .u16 (QR.p.2 : Int), .int .u16 (QR.q.1 : Int), .int .u16 (QR.q.2 : Int), .int .u8 (QR.m.1 : Int), .int .u8 (QR.m.2 : Int), .int .i64 QR.act, .int .u32 (Q.h.1 : Int), .int .u32 (Q.h.2.1 : Int), .int .u16 (Q.h.2.2.1 : Int), .int .u16 (Q.h.2.2.2.1 : Int), .int .u8 (Q.h.2.2.2.2 : Int)] rfl rfl 61 _ H6X.out (Nat.le_of_ble_eq_true rfl) rfl (by kernel_rfl) rfl ?_; intro w8 hw8 ho8))
  exact bodyPost_ret (results_blk Tryz.results19 rfl hw8 Tryz.underlying61 rfl (by kernel_rfl)) rfl ⟨but_newer H6B.out ho8 (Nat.le_refl _), .inr ⟨by rw [hF6.out]; exact HO.out, by rw [HQ.out, HQR.out], by rw [hF6.out]; exact only_blk ho8 H6R.out (by omega)⟩⟩
end Go.Proofs.YtehedlgdencboabGreatDoor
