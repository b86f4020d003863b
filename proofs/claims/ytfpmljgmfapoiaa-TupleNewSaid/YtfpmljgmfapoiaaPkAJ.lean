/-
  PkAJ: ExPk4 ExPo4 TuV, one behind the other (tools/pack.py).
-/
import Derived.Test.YtfpmljgmfapoiaaPkAI
import Derived.OneCell
import Derived.Test.YtfpmljgmfapoiaaPkAD
import Derived.Test.YtfpmljgmfapoiaaPkAH
import Derived.Test.YtfpmljgmfapoiaaPkAG
import Derived.Test.YtfpmljgmfapoiaaPkAB
/-
  The closures that are handed to climb; climb; cover; Of and Count of package expand.
-/
namespace Go.Proofs.Ytfpmljgmfapoiaa.Xp
open Go.RowKit
set_option linter.unusedVariables false
set_option linter.unusedSimpArgs false

/-- The variable in block B holds the row of a list, whose blocks lie behind it. -/
def Met (B : Nat) (w : World) (l : List (Nat × Nat)) : Prop := ∃ v, w.heap[B]? = some (.cells #[v] 147 (0, 0)) ∧ RowT w (B + 1) v l
theorem Met.on {B : Nat} {w w1 : World} {l : List (Nat × Nat)} (h : Met B w l) (hb : Below w.heap.size w w1) : Met B w1 l := by
  obtain ⟨v, h1, h2⟩ := h
  exact ⟨v, by rw [hb.block B (lt_of_block h1)]; exact h1, h2.on hb⟩
theorem Met.alloc {B : Nat} {w : World} {l : List (Nat × Nat)} (h : Met B w l) (o : Obj) : Met B (w.alloc o) l := h.on ((Below.refl _ _).alloc (Nat.le_refl _) o)
/-- What a call that writes the variable in block B, and the row behind it, leaves as it was. -/
def Kept (B : Nat) (w w' : World) : Prop := Below B w w' ∧ ∀ k, k < w.heap.size → k ≠ B → (∀ v, w.heap[B]? = some (.cells #[v] 147 (0, 0)) → v.ownBlock ≠ some k) → w'.heap[k]? = w.heap[k]?
theorem row_type {w : World} {b k : Nat} {v : Value} {l : List (Nat × Nat)} {cs : Array Value} {f : Nat × Nat} (h : RowT w b v l) (hk : w.heap[k]? = some (.cells cs 56 f)) : v.ownBlock ≠ some k := by
  intro e
  rcases h.2 with ⟨hv, _⟩ | ⟨g, cap, cur, hv, hg, hh, r⟩
  · subst hv; cases e
  · subst hv
    have : g = k := by simpa [Value.ownBlock] using e
    subst this
    rw [hh] at hk
    simp at hk
theorem kept_span {B : Nat} {w w' : World} {l : List (Nat × Nat)} {k : Nat} {cs : Array Value} {f : Nat × Nat} (hm : Met B w l) (h : Kept B w w') (hne : k ≠ B) (hk : w.heap[k]? = some (.cells cs 56 f)) : w'.heap[k]? = some (.cells cs 56 f) := by
  obtain ⟨v, h1, h2⟩ := hm
  rw [h.2 k (lt_of_block hk) hne ?_]
  · exact hk
  · intro v' h'
    rw [h1] at h'
    simp at h'
    subst h'
    exact row_type h2 hk
/-- A block that was made behind the row stays. -/
theorem kept_new {B : Nat} {w w1 w' : World} {l : List (Nat × Nat)} {k : Nat} (hm : Met B w l) (hb : Below w.heap.size w w1) (h : Kept B w1 w') (hk : w.heap.size ≤ k) (hk1 : k < w1.heap.size) : w'.heap[k]? = w1.heap[k]? := by
  obtain ⟨v, h1, h2⟩ := hm
  have hB := lt_of_block h1
  refine h.2 k hk1 (by omega) ?_
  intro v' h'
  rw [hb.block B hB, h1] at h'
  simp at h'
  subst h'
  intro e
  have := (h2.lt k e).2
  omega
theorem two_allocs {W : World} {o1 o2 : Obj} {k : Nat} (h : k < W.heap.size) : ((W.alloc o1).alloc o2).heap[k]? = W.heap[k]? := by
  rw [Below.heap_alloc _ _ _ (by simp; omega), Below.heap_alloc _ _ _ h]
theorem keep_block {B : Nat} {W w5 : World} {v : Value} {l : List (Nat × Nat)} {o1 o2 : Obj} (hB : W.heap[B]? = some (.cells #[v] 147 (0, 0))) (hR : RowT W (B + 1) v l) (hg : ((W.alloc o1).alloc o2).grownBy w5 v.ownBlock) : w5.heap[B]? = some (.cells #[v] 147 (0, 0)) := by
  have hlt := lt_of_block hB
  rw [hg.block B (by simp; omega) (fun e => by have := (hR.lt B e.symm).1; omega), two_allocs hlt]
  exact hB
theorem keep_done {B : Nat} {W w5 : World} {v v5 : Value} {l l' : List (Nat × Nat)} {o1 o2 : Obj} (hB : W.heap[B]? = some (.cells #[v] 147 (0, 0))) (hR : RowT W (B + 1) v l) (hg : ((W.alloc o1).alloc o2).grownBy w5 v.ownBlock) (h5 : RowT w5 (B + 1) v5 l') :
    Met B (w5.setCell ⟨B, 0, none⟩ v5) l' ∧ Kept B W (w5.setCell ⟨B, 0, none⟩ v5) := by
  have hlt := lt_of_block hB
  have hb := keep_block hB hR hg
  refine ⟨⟨v5, one_setCell hb, ownsRow_setCell_other h5 (fun e => by have := (h5.lt B e).1; omega) _⟩, ?_, ?_⟩
  · refine Below.setCell (p := ⟨B, 0, none⟩) ?_ (Nat.le_refl B) _
    refine Below.grown (((Below.refl B W).alloc (by omega) o1).alloc (by simp; omega) o2) hg (by simp; omega) ?_
    intro k hk
    have := (hR.lt k hk).1
    omega
  · intro k hk hne hv
    rw [Below.heap_setCell _ _ _ _ hne, hg.block k (by simp; omega) (fun e => hv v hB e.symm), two_allocs hk]
set_option maxHeartbeats 1000000 in
theorem keepT (B b n : Nat) (l : List (Nat × Nat)) (W : World) (h : Met B W l) (hl : l.length < 4294967296) :
    Calls Try.prog 100 #[.agg #[.int .u16 (b : Nat), .int .i64 (n : Nat)], .pointer (some ⟨B, 0, none⟩)] W fun e W' => e = .returned (.tuple #[]) ∧ Met B W' (l ++ [(b, n)]) ∧ Kept B W W' := by
  obtain ⟨v, hB, hR⟩ := h
  have hlt := lt_of_block hB
  obtain ⟨ad, cap, rfl, hcap, hat⟩ := hR.form
  have cB : W.cell? ⟨B, 0, none⟩ = some (.slice ad l.length cap) := cell_of_one hB
  have hne : (Value.slice ad l.length cap).ownBlock ≠ some B := fun e => by have := (hR.lt B e).1; omega
  have HR : Hid (RowT W (B + 1) (.slice ad l.length cap) l) := hR
  have HB : Hid (W.heap[B]? = some (.cells #[.slice ad l.length cap] 147 (0, 0))) := hB
  have HN : Hid ((Value.slice ad l.length cap).ownBlock ≠ some B) := hne
  clear hR hB hat hne hcap
  go_enter Try.func100, Try.ntmps100
  go_wp2_with (at_builtin; refine wpList_append_stems rfl (.tmp 3) (.tmp 5) rfl (B + 1) _ l rfl ((HR.out.alloc _).alloc _) (B + 1) _ [(b, n)] rfl (RowT.one2 (W.alloc (.cells #[.int .u16 (b : Nat), .int .i64 (n : Nat)] 154)) (B + 1) b n (B := W.heap.size + 1) (by simp) rfl rfl (by simp; omega)) (by simp; omega) (by simp; omega) ?_; intro v5 w5 hrow5 hgr5; obtain ⟨ad5, cap5, rfl, _, _⟩ := hrow5.form; have h5 : w5.heap[B]? = some (.cells #[.slice ad l.length cap] 147 (0, 0)) := keep_block HB.out HR.out hgr5; have c5 := cell_of_one h5; have f5 := free_of_one h5; have H5 : Hid (w5.heap[B]? = some (.cells #[.slice ad l.length cap] 147 (0, 0))) := h5; clear h5)
  go_end0
  have hd := keep_done HB.out HR.out hgr5 hrow5
  rw [List.length_append] at hd
  exact ⟨rfl, hd⟩
/-- The variable in block B counts. -/
def Tal (B : Nat) (w : World) (n : Nat) : Prop := w.heap[B]? = some (.cells #[.int .i64 n] 3 (0, 0))
theorem Tal.on {B : Nat} {w w1 : World} {n : Nat} (h : Tal B w n) (hb : Below w.heap.size w w1) : Tal B w1 n := by
  unfold Tal at *
  rw [hb.block B (lt_of_block h)]; exact h
theorem Tal.alloc {B : Nat} {w : World} {n : Nat} (h : Tal B w n) (o : Obj) : Tal B (w.alloc o) n := h.on ((Below.refl _ _).alloc (Nat.le_refl _) o)
theorem tallyT (B b n k : Nat) (W : World) (h : Tal B W k) (hk : k < 4294967296) :
    Calls Try.prog 69 #[.agg #[.int .u16 (b : Nat), .int .i64 (n : Nat)], .pointer (some ⟨B, 0, none⟩)] W fun e W' => e = .returned (.tuple #[]) ∧ Tal B W' (k + 1) ∧ Below B W W' ∧ ∀ x, x < W.heap.size → x ≠ B → W'.heap[x]? = W.heap[x]? := by
  have hlt := lt_of_block h
  have cB : W.cell? ⟨B, 0, none⟩ = some (.int .i64 k) := cell_of_one h
  have fB : W.frozen? ⟨B, 0, none⟩ = false := free_of_one h
  have HB : Hid (Tal B W k) := h
  clear h
  go_enter Try.func69, Try.ntmps69
  go_wp2
  go_end0
  have hz : (W.setCell ⟨B, 0, none⟩ (.int .i64 ((k : Int) + 1))).heap.size = W.heap.size := by simp
  refine ⟨rfl, ?_, ?_, ?_⟩
  · unfold Tal
    rw [Below.heap_alloc _ _ _ (by omega)]
    exact one_setCell HB.out
  · exact (Below.setCell (p := ⟨B, 0, none⟩) (Below.refl B W) (Nat.le_refl B) _).alloc (by omega) _
  · intro x hx hne
    rw [Below.heap_alloc _ _ _ (by omega), Below.heap_setCell _ _ _ _ hne]
set_option maxHeartbeats 1000000 in
theorem climbK (lo hi B : Nat) (l0 : List (Nat × Nat)) (w : World) (h : lo ≤ hi) (hh : hi < 65536) (hM : Met B w l0) (hl : l0.length + 65536 ≤ 4294967296) :
    Calls Try.prog 68 #[.agg #[.int .u16 lo, .int .u16 hi], .func (.func 100) #[] #[.pointer (some ⟨B, 0, none⟩)]] w fun e w' => e = .returned (.tuple #[]) ∧ Met B w' (l0 ++ grd 65536 lo (hi + 1 - lo)) ∧ Below B w w' := by
  have hBlt : B < w.heap.size := (by obtain ⟨v, h1, _⟩ := hM; exact lt_of_block h1)
  have HM : Hid (Met B w l0) := hM
  clear hM
  go_enter Try.func68, Try.ntmps68
  go_wp2
  go_loopw [4] (fun iv wr => ∃ (a : Nat) (pre : List (Nat × Nat)), a ≤ hi + 1 ∧ iv = .int .i64 a ∧ Hid (wr.heap[w.heap.size]? = some (.cells #[.int .u16 lo, .int .u16 hi] 56 (0, 0))) ∧ Hid (Gone lo hi a pre) ∧ Hid (Met B wr (l0 ++ pre)) ∧ Hid (Below B w wr)) (fun iv _ => hi + 1 - (intOf iv).toNat)
  case atStart => exact ⟨lo, [], by omega, rfl, heap_alloc_new _ _, Gone.start lo hi hh, by show Met B _ (l0 ++ []); rw [List.append_nil]; exact HM.out.alloc _, by show Below _ _ _; (repeat (first | assumption | exact Below.refl _ _ | refine Below.drew ?_ | refine bel_drewN ?_ _ | refine Below.setCell ?_ (by first | omega | (simp; done) | (simp; omega)) _ | refine Below.alloc ?_ (by first | omega | (simp; done) | (simp; omega)) _ | refine bel_of ?_ (by assumption)))⟩
  case round =>
    obtain ⟨a, pre, ha, rfl, hbox, hgo, hmet, hbl⟩ := hrel
    have y1 : wr.cell? ⟨w.heap.size, 1, none⟩ = some (.int .u16 hi) := by simp [World.cell?, hbox.out]
    have hz : w.heap.size < wr.heap.size := lt_of_block hbox.out
    by_cases hle : a ≤ hi
    · have hle' : (a : Int) ≤ (hi : Int) := by omega
      have ha6 : (a : Int) < 65536 := by omega
      have ha0 : (0 : Int) ≤ (a : Int) := by omega
      have hst : Hid (Gone lo hi (a + 2 ^ mf a (hi + 1 - a) 16) (pre ++ [(a, 16 - mf a (hi + 1 - a) 16)])) := hgo.out.step hle
      have hln : Hid ((l0 ++ pre).length < 4294967296) := by
        show _ < _
        have := hst.out.len
        simp at this ⊢
        omega
      obtain ⟨m1, m2⟩ := mf_bd hle
      have hsh := fun W => shortT a hi hle hh W
      generalize mf a (hi + 1 - a) 16 = f at *
      obtain ⟨L, hL⟩ : ∃ L : Nat, L = 16 - f := ⟨_, rfl⟩
      rw [← hL] at hst hsh
      have hL16 : L ≤ 16 := by omega
      have hf : Hid (f = 16 - L) := by show _ = _; omega
      have hmk : Hid (mk (16 - L) + 1 = 2 ^ f) := by
        show _ = _
        rw [← hf.out]
        have := two_pos f
        unfold mk; omega
      have hmk2 : Hid (a + (mk (16 - L) + 1) ≤ hi + 1) := by show _ ≤ _; rw [hmk.out]; exact m2
      clear m1 m2 hL
      go_wp2_with (fail)
      refine (hsh _).mono ?_
      rintro e w1 ⟨rfl, hb1⟩
      have hz1 := hb1.size
      have hmet1 : Hid (Met B w1 (l0 ++ pre)) := hmet.out.on hb1
      have hbox1 : Hid (w1.heap[w.heap.size]? = some (.cells #[.int .u16 lo, .int .u16 hi] 56 (0, 0))) := by show _ = _; rw [hb1.block _ hz]; exact hbox.out
      have hbl1 : Hid (Below B w w1) := hbl.out.trans (hb1.mono (by omega))
      clear hb1 hbox hmet hbl y1 hsh
      go_wp2_with (fail)
      refine (keepT B a L (l0 ++ pre) _ (hmet1.out.alloc _) hln.out).mono ?_
      rintro e w2 ⟨rfl, hmet2, hk2⟩
      have hbk : w2.heap[w1.heap.size]? = some (.cells #[.int .u16 a, .int .i64 L] 154 (0, 0)) := (by rw [kept_new hmet1.out ((Below.refl _ _).alloc (Nat.le_refl _) _) hk2 (Nat.le_refl _) (by simp)]; exact heap_alloc_new _ _)
      have t1 : w2.cell? ⟨w1.heap.size, 1, none⟩ = some (.int .i64 L) := by simp [World.cell?, hbk]
      have hbox2 : Hid (w2.heap[w.heap.size]? = some (.cells #[.int .u16 lo, .int .u16 hi] 56 (0, 0))) := kept_span (hmet1.out.alloc _) hk2 (by omega) (by rw [Below.heap_alloc _ _ _ (by omega)]; exact hbox1.out)
      have hbl2 : Hid (Below B w w2) := (hbl1.out.alloc (by omega) _).trans hk2.1
      have HMet : Hid (Met B w2 (l0 ++ pre ++ [(a, L)])) := hmet2
      have hmkl : (mk (16 - L) : Int) < 65536 := by have := mk_lt (show 16 - L ≤ 16 by omega); omega
      have hmk0 : (0 : Int) ≤ (mk (16 - L) : Int) := by omega
      clear hbk hk2 hmet2 hmet1 hbox1 hbl1
      go_wp2_with (go_at_call 85; refine (tailT L hL16 _).mono ?_; rintro e w' ⟨rfl, hw⟩; obtain rfl := hw.symm; clear hw)
      go_roundw
      case rel => exact ⟨a + 2 ^ f, pre ++ [(a, L)], by rw [← hmk.out]; exact hmk2.out, by rw [← hmk.out]; go_num, hbox2.out, hst.out, by show Met B _ _; rw [← List.append_assoc]; exact HMet.out, hbl2.out⟩
      case measure => simp [intOf]; have := hmk2.out; omega
    · obtain rfl : a = hi + 1 := by omega
      have hle' : ¬ ((hi + 1 : Nat) : Int) ≤ (hi : Int) := by omega
      have hle2 : (hi : Int) < ((hi + 1 : Nat) : Int) := by omega
      have e := hgo.out.done (by omega)
      have hfin : Hid (Met B wr (l0 ++ grd 65536 lo (hi + 1 - lo))) := by show Met B wr (l0 ++ grd 65536 lo (hi + 1 - lo)); rw [← e]; exact hmet.out
      clear e
      go_wp2
      go_end0
      exact ⟨rfl, hfin.out, hbl.out⟩
set_option maxHeartbeats 1000000 in
theorem climbN (lo hi B : Nat) (k0 : Nat) (w : World) (h : lo ≤ hi) (hh : hi < 65536) (hM : Tal B w k0) (hl : k0 + 65536 ≤ 4294967296) :
    Calls Try.prog 68 #[.agg #[.int .u16 lo, .int .u16 hi], .func (.func 69) #[] #[.pointer (some ⟨B, 0, none⟩)]] w fun e w' => e = .returned (.tuple #[]) ∧ Tal B w' (k0 + (grd 65536 lo (hi + 1 - lo)).length) ∧ Below B w w' := by
  have hBlt : B < w.heap.size := lt_of_block hM
  have HM : Hid (Tal B w k0) := hM
  clear hM
  go_enter Try.func68, Try.ntmps68
  go_wp2
  go_loopw [4] (fun iv wr => ∃ (a : Nat) (pre : List (Nat × Nat)), a ≤ hi + 1 ∧ iv = .int .i64 a ∧ Hid (wr.heap[w.heap.size]? = some (.cells #[.int .u16 lo, .int .u16 hi] 56 (0, 0))) ∧ Hid (Gone lo hi a pre) ∧ Hid (Tal B wr (k0 + pre.length)) ∧ Hid (Below B w wr)) (fun iv _ => hi + 1 - (intOf iv).toNat)
  case atStart => exact ⟨lo, [], by omega, rfl, heap_alloc_new _ _, Gone.start lo hi hh, by show Tal B _ (k0 + 0); exact HM.out.alloc _, by show Below _ _ _; (repeat (first | assumption | exact Below.refl _ _ | refine Below.drew ?_ | refine bel_drewN ?_ _ | refine Below.setCell ?_ (by first | omega | (simp; done) | (simp; omega)) _ | refine Below.alloc ?_ (by first | omega | (simp; done) | (simp; omega)) _ | refine bel_of ?_ (by assumption)))⟩
  case round =>
    obtain ⟨a, pre, ha, rfl, hbox, hgo, hmet, hbl⟩ := hrel
    have y1 : wr.cell? ⟨w.heap.size, 1, none⟩ = some (.int .u16 hi) := by simp [World.cell?, hbox.out]
    have hz : w.heap.size < wr.heap.size := lt_of_block hbox.out
    by_cases hle : a ≤ hi
    · have hle' : (a : Int) ≤ (hi : Int) := by omega
      have ha6 : (a : Int) < 65536 := by omega
      have ha0 : (0 : Int) ≤ (a : Int) := by omega
      have hst : Hid (Gone lo hi (a + 2 ^ mf a (hi + 1 - a) 16) (pre ++ [(a, 16 - mf a (hi + 1 - a) 16)])) := hgo.out.step hle
      have hln : Hid ((k0 + pre.length) < 4294967296) := by
        show _ < _
        have := hst.out.len
        simp at this ⊢
        omega
      obtain ⟨m1, m2⟩ := mf_bd hle
      have hsh := fun W => shortT a hi hle hh W
      generalize mf a (hi + 1 - a) 16 = f at *
      obtain ⟨L, hL⟩ : ∃ L : Nat, L = 16 - f := ⟨_, rfl⟩
      rw [← hL] at hst hsh
      have hL16 : L ≤ 16 := by omega
      have hf : Hid (f = 16 - L) := by show _ = _; omega
      have hmk : Hid (mk (16 - L) + 1 = 2 ^ f) := by
        show _ = _
        rw [← hf.out]
        have := two_pos f
        unfold mk; omega
      have hmk2 : Hid (a + (mk (16 - L) + 1) ≤ hi + 1) := by show _ ≤ _; rw [hmk.out]; exact m2
      clear m1 m2 hL
      go_wp2_with (fail)
      refine (hsh _).mono ?_
      rintro e w1 ⟨rfl, hb1⟩
      have hz1 := hb1.size
      have hmet1 : Hid (Tal B w1 (k0 + pre.length)) := hmet.out.on hb1
      have hbox1 : Hid (w1.heap[w.heap.size]? = some (.cells #[.int .u16 lo, .int .u16 hi] 56 (0, 0))) := by show _ = _; rw [hb1.block _ hz]; exact hbox.out
      have hbl1 : Hid (Below B w w1) := hbl.out.trans (hb1.mono (by omega))
      clear hb1 hbox hmet hbl y1 hsh
      go_wp2_with (fail)
      refine (tallyT B a L (k0 + pre.length) _ (hmet1.out.alloc _) hln.out).mono ?_
      rintro e w2 ⟨rfl, hmet2, hk2⟩
      have hbk : w2.heap[w1.heap.size]? = some (.cells #[.int .u16 a, .int .i64 L] 154 (0, 0)) := (by rw [hk2.2 _ (by simp) (by omega)]; exact heap_alloc_new _ _)
      have t1 : w2.cell? ⟨w1.heap.size, 1, none⟩ = some (.int .i64 L) := by simp [World.cell?, hbk]
      have hbox2 : Hid (w2.heap[w.heap.size]? = some (.cells #[.int .u16 lo, .int .u16 hi] 56 (0, 0))) := (by show _ = _; rw [hk2.2 _ (by simp; omega) (by omega), Below.heap_alloc _ _ _ (by omega)]; exact hbox1.out)
      have hbl2 : Hid (Below B w w2) := (hbl1.out.alloc (by omega) _).trans hk2.1
      have HMet : Hid (Tal B w2 (k0 + pre.length + 1)) := hmet2
      have hmkl : (mk (16 - L) : Int) < 65536 := by have := mk_lt (show 16 - L ≤ 16 by omega); omega
      have hmk0 : (0 : Int) ≤ (mk (16 - L) : Int) := by omega
      clear hbk hk2 hmet2 hmet1 hbox1 hbl1
      go_wp2_with (go_at_call 85; refine (tailT L hL16 _).mono ?_; rintro e w' ⟨rfl, hw⟩; obtain rfl := hw.symm; clear hw)
      go_roundw
      case rel => exact ⟨a + 2 ^ f, pre ++ [(a, L)], by rw [← hmk.out]; exact hmk2.out, by rw [← hmk.out]; go_num, hbox2.out, hst.out, by show Tal B _ _; rw [List.length_append]; exact HMet.out, hbl2.out⟩
      case measure => simp [intOf]; have := hmk2.out; omega
    · obtain rfl : a = hi + 1 := by omega
      have hle' : ¬ ((hi + 1 : Nat) : Int) ≤ (hi : Int) := by omega
      have hle2 : (hi : Int) < ((hi + 1 : Nat) : Int) := by omega
      have e := hgo.out.done (by omega)
      have hfin : Hid (Tal B wr (k0 + (grd 65536 lo (hi + 1 - lo)).length)) := by show Tal B wr (k0 + (grd 65536 lo (hi + 1 - lo)).length); rw [← e]; exact hmet.out
      clear e
      go_wp2
      go_end0
      exact ⟨rfl, hfin.out, hbl.out⟩
end Go.Proofs.Ytfpmljgmfapoiaa.Xp
/-
  cover, Of and Count of package expand.
-/
namespace Go.Proofs.Ytfpmljgmfapoiaa.Xp
open Go.RowKit
set_option linter.unusedVariables false
set_option linter.unusedSimpArgs false

theorem grds_snoc (l : List (Nat × Nat)) (s : Nat × Nat) : grds (l ++ [s]) = grds l ++ grd 65536 s.1 (s.2 + 1 - s.1) := by
  unfold grds
  rw [List.flatMap_append]
  simp
set_option maxHeartbeats 1000000 in
theorem coverT (l : List (Nat × Nat)) (v : Value) (w : World) (hs : Src w v l) (hc : ∀ s ∈ l, s.1 ≤ s.2 ∧ s.2 < 65536) (hl : l.length ≤ 65536) :
    Calls Try.prog 88 #[v] w fun e w' => ∃ v' : Value, e = .returned v' ∧ RowT w' w.heap.size v' (grds l) ∧ Below w.heap.size w w' := by
  obtain ⟨ad, cap, rfl, hat⟩ := hs.at
  clear hs
  have HC : Hid (∀ s ∈ l, s.1 ≤ s.2 ∧ s.2 < 65536) := hc
  clear hc
  go_enter Try.func88, Try.ntmps88
  go_wp2_with (fail)
  go_loopw [10] (fun iv wr => ∃ k : Nat, k ≤ l.length ∧ iv = .int .i64 k ∧ Hid (Met w.heap.size wr (grds (l.take k))) ∧ Hid (Below w.heap.size w wr)) (fun iv _ => l.length - (intOf iv).toNat)
  case atStart => exact ⟨0, Nat.zero_le _, rfl, ⟨.slice none 0 0, heap_alloc_new _ _, RowT.nil _ _⟩, by show Below _ _ _; (repeat (first | assumption | exact Below.refl _ _ | refine Below.drew ?_ | refine bel_drewN ?_ _ | refine Below.setCell ?_ (by first | omega | (simp; done) | (simp; omega)) _ | refine Below.alloc ?_ (by first | omega | (simp; done) | (simp; omega)) _ | refine bel_of ?_ (by assumption)))⟩
  case round =>
    obtain ⟨k, hk, rfl, hmet, hbl⟩ := hrel
    by_cases hlt : k < l.length
    · obtain ⟨g, off, rfl, hcell⟩ := hat (by omega)
      obtain ⟨s, hs⟩ : ∃ s, s = l[k] := ⟨_, rfl⟩
      obtain ⟨x0, x1⟩ := hcell k hlt
      rw [← hs] at x0 x1
      have y0 := (hbl.out.cell (World.block_lt_of_cell? _ _ x0)).trans x0
      have y1 := (hbl.out.cell (World.block_lt_of_cell? _ _ x1)).trans x1
      have hz := hbl.out.size
      have hlt' : (k : Int) < (l.length : Int) := by omega
      have hk0 : (0 : Int) ≤ (k : Int) := by omega
      have HS : Hid (s = l[k]) := hs
      have hok : s.1 ≤ s.2 ∧ s.2 < 65536 := HC.out s (by rw [hs]; exact List.getElem_mem _)
      have hln : (grds (l.take k)).length + 65536 ≤ 4294967296 := by
        have h1 := grds_len (l.take k)
        rw [List.length_take, Nat.min_eq_left hk] at h1
        omega
      have hcl := fun W hW => climbK s.1 s.2 w.heap.size (grds (l.take k)) W hok.1 hok.2 hW hln
      have HL : Hid (grds (l.take (k + 1)) = grds (l.take k) ++ grd 65536 s.1 (s.2 + 1 - s.1)) := by
        show _ = _
        rw [List.take_succ_eq_append_getElem hlt, grds_snoc, ← hs]
      clear hat hcell x0 x1 hs hln hok
      go_wp2_with (fail)
      refine (hcl _ (hmet.out.alloc _)).mono ?_
      rintro e w2 ⟨rfl, hmet2, hb2⟩
      have HM2 : Hid (Met w.heap.size w2 (grds (l.take (k + 1)))) := by show Met _ _ _; rw [HL.out]; exact hmet2
      have HB2 : Hid (Below w.heap.size w w2) := (hbl.out.alloc hz _).trans hb2
      clear hcl hmet2 hb2 hmet hbl HL y0 y1 HS
      go_wp2
      go_roundw
      case rel => exact ⟨k + 1, by omega, by go_num, HM2.out, HB2.out⟩
      case measure => simp [intOf]; omega
    · obtain rfl : k = l.length := by omega
      obtain ⟨v, h1, h2⟩ := hmet.out
      rw [List.take_length] at h2
      obtain ⟨ad', cap', rfl, _, _⟩ := h2.form
      have c1 := cell_of_one h1
      have H2 : Hid (RowT wr (w.heap.size + 1) (.slice ad' (grds l).length cap') (grds l)) := h2
      clear h1 h2 hmet hat
      go_wp2
      go_ret
      exact ⟨_, rfl, H2.out.base (by omega), hbl.out⟩
theorem ofN : OfN := by
  intro lo hi w hlo h
  have hk : chkS lo hi = 30 := if_pos h
  have hc := fun W => checkS lo hi W
  rw [hk] at hc
  clear hk
  go_enter Try.func74, Try.ntmps74
  go_wp2_with (go_at_call 67; refine (hc _).mono ?_; rintro e w1 ⟨rfl, hb1⟩)
  go_ret2
  exact ⟨_, rfl, RowT.nil _ _, by (repeat (first | assumption | exact Below.refl _ _ | refine Below.drew ?_ | refine bel_drewN ?_ _ | refine Below.setCell ?_ (by first | omega | (simp; done) | (simp; omega)) _ | refine Below.alloc ?_ (by first | omega | (simp; done) | (simp; omega)) _ | refine bel_of ?_ (by assumption)))⟩
set_option maxHeartbeats 1000000 in
theorem ofC : OfC := by
  intro lo hi w h hh
  have hk : chkS lo hi = 0 := if_neg (by omega)
  have hc := fun W => checkS lo hi W
  rw [hk] at hc
  clear hk
  go_enter Try.func74, Try.ntmps74
  go_wp2_with (fail)
  refine (hc _).mono ?_
  rintro e w1 ⟨rfl, hb1⟩
  have z0 : w1.cell? ⟨w.heap.size, 0, none⟩ = some (.int .u16 lo) := cell_on hb1 (by simp [go_sem])
  have z1 : w1.cell? ⟨w.heap.size, 1, none⟩ = some (.int .u16 hi) := cell_on hb1 (by simp [go_sem])
  have hz1 := hb1.size
  simp at hz1
  have HB : Hid (Below w.heap.size w w1) := by show Below _ _ _; (repeat (first | assumption | exact Below.refl _ _ | refine Below.drew ?_ | refine bel_drewN ?_ _ | refine Below.setCell ?_ (by first | omega | (simp; done) | (simp; omega)) _ | refine Below.alloc ?_ (by first | omega | (simp; done) | (simp; omega)) _ | refine bel_of ?_ (by assumption)))
  clear hb1
  go_wp2_with (fail)
  refine (coverT [(lo, hi)] _ _ (Row.one w1 0 lo hi (by omega)).src (by intro s hs; simp at hs; subst hs; exact ⟨h, hh⟩) (by simp)).mono ?_
  rintro e w2 ⟨v2, rfl, hr2, hb2⟩
  have HR : Hid (RowT w2 w.heap.size v2 (tl (hasB (lo, hi)) 16 0)) := by
    show RowT _ _ _ _
    rw [tl_span h hh, show grd 65536 lo (hi + 1 - lo) = grds [(lo, hi)] by simp [grds]]
    exact hr2.base (by simp; omega)
  have HB2 : Hid (Below w.heap.size w w2) := (HB.out.alloc (by omega) _).trans (hb2.mono (by simp; omega))
  obtain ⟨ad, cap, rfl, _, _⟩ := hr2.form
  clear hr2 hb2
  go_wp2
  go_ret2
  exact ⟨_, rfl, HR.out, HB2.out⟩
set_option maxHeartbeats 1000000 in
theorem cntC : CntC := by
  intro lo hi w h hh
  have hk : chkS lo hi = 0 := if_neg (by omega)
  have hc := fun W => checkS lo hi W
  rw [hk] at hc
  clear hk
  rw [tl_span h hh]
  go_enter Try.func56, Try.ntmps56
  go_wp2_with (fail)
  refine (hc _).mono ?_
  rintro e w1 ⟨rfl, hb1⟩
  have z0 : w1.cell? ⟨w.heap.size, 0, none⟩ = some (.int .u16 lo) := cell_on hb1 (by simp [go_sem])
  have z1 : w1.cell? ⟨w.heap.size, 1, none⟩ = some (.int .u16 hi) := cell_on hb1 (by simp [go_sem])
  have hz1 := hb1.size
  simp at hz1
  have z2 : (w1.alloc (.cells #[.int .i64 0] 3)).cell? ⟨w.heap.size, 0, none⟩ = some (.int .u16 lo) := cell_alloc z0
  have z3 : (w1.alloc (.cells #[.int .i64 0] 3)).cell? ⟨w.heap.size, 1, none⟩ = some (.int .u16 hi) := cell_alloc z1
  have HB : Hid (Below w.heap.size w w1) := by show Below _ _ _; (repeat (first | assumption | exact Below.refl _ _ | refine Below.drew ?_ | refine bel_drewN ?_ _ | refine Below.setCell ?_ (by first | omega | (simp; done) | (simp; omega)) _ | refine Below.alloc ?_ (by first | omega | (simp; done) | (simp; omega)) _ | refine bel_of ?_ (by assumption)))
  clear hb1
  go_wp2_with (fail)
  refine (climbN lo hi w1.heap.size 0 _ h hh (heap_alloc_new _ _) (by omega)).mono ?_
  rintro e w2 ⟨rfl, ht2, hb2⟩
  rw [Nat.zero_add] at ht2
  have c2 := cell_of_one ht2
  have HB2 : Hid (Below w.heap.size w w2) := (HB.out.alloc (by omega) _).trans (hb2.mono (by omega))
  clear ht2 hb2
  go_wp2
  go_ret2
  exact ⟨rfl, HB2.out⟩
end Go.Proofs.Ytfpmljgmfapoiaa.Xp
/-
  nest's Tuple (out of NsV).
-/
namespace Go.Proofs.Ytfpmljgmfapoiaa
open Go.RowKit
set_option linter.unusedVariables false
set_option linter.unusedSimpArgs false

def cS (s : Nat × Nat) : Nat := (Xp.tl (Xp.hasB s) 16 0).length
theorem cS_le (s : Nat × Nat) : cS s ≤ 30 := Xp.ofS_len
theorem cSC (s : Nat × Nat) (w : World) (h : s.1 ≤ s.2) (h2 : s.2 < 65536) : Calls Try.prog 56 #[.agg #[.int .u16 (s.1), .int .u16 (s.2)]] w fun e w' => e = .returned (.tuple #[.int .i64 (cS s : Nat), .int .i64 0]) ∧ Below w.heap.size w w' := Xp.cntC s.1 s.2 w h h2
def tupN (l : List Ru) : Nat := (l.map fun R => cS R.p * cS R.q).sum
def tupL (l : List Ru) : Nat := if setE l 64 = 0 then tupN l else 0
theorem tup_step {l : List Ru} {k : Nat} (hk : k < l.length) : tupN (l.take (k + 1)) = tupN (l.take k) + cS l[k].p * cS l[k].q := by
  unfold tupN; rw [take_at hk, List.map_append, List.sum_append]; simp
theorem tup_le (l : List Ru) : tupN l ≤ l.length * 900 := by
  unfold tupN
  induction l with
  | nil => simp
  | cons R l ih =>
    rw [List.map_cons, List.sum_cons, List.length_cons, Nat.succ_mul]
    have := Nat.mul_le_mul (cS_le R.p) (cS_le R.q)
    omega
set_option maxRecDepth 20000 in
set_option maxHeartbeats 4000000 in
theorem tupleC (l : List Ru) (v : Value) (w : World) (hs : SrcU w v l) (hl : l.length ≤ 16777216) (hb : ∀ R ∈ l, BdR R) :
    Calls Try.prog 43 #[v] w fun e w' => e = .returned (.tuple #[.int .i64 (tupL l : Nat), .int .i64 (setE l 64)]) ∧ Below w.heap.size w w' := by
  have hC := checkLC l v w hs hl hb
  have HS : Hid (SrcU w v l) := hs
  have HOk : Hid (setE l 64 = 0 → l.length ≤ 64 ∧ ∀ R ∈ l, BdR R ∧ okR R = true) := fun h0 => by
    have o := setE_ok h0
    refine ⟨?_, fun R hR => ⟨hb R hR, ?_⟩⟩
    · rcases o.few with e | e
      · rw [e]; simp
      · omega
    · obtain ⟨k, hk, rfl⟩ := List.mem_iff_getElem.1 hR
      exact o.may k hk
  clear hs hb
  obtain ⟨ad, cap, rfl, _, _⟩ := HS.out
  obtain ⟨n, hn⟩ : ∃ n, n = l.length := ⟨_, rfl⟩
  rw [← hn] at HS hl hC ⊢
  have Hn : Hid (n = l.length) := hn
  clear hn
  by_cases h0 : setE l 64 = 0
  · obtain ⟨o1, o2⟩ := HOk.out h0
    have HG : Hid (tupL l = tupN l) := if_pos h0
    have hn64 : n ≤ 64 := by rw [Hn.out]; exact o1
    have HO2 : Hid (∀ R ∈ l, BdR R ∧ okR R = true) := o2
    generalize tupL l = G at *
    rw [h0] at hC ⊢
    clear o1 o2 h0
    go_enter Try.func43, Try.ntmps43
    go_wp2_with (fail)
    refine hC.mono ?_
    rintro e w1 ⟨rfl, hb1⟩
    have HB1 : Hid (Below w.heap.size w w1) := hb1
    clear hC hb1
    go_wp2_with (fail)
    go_loopw [5, 19] (fun vs vi wr => ∃ k : Nat, k ≤ n ∧ vs = .int .i64 ((tupN (l.take k) : Nat) : Int) ∧ vi = .int .i64 k ∧ Hid (Below w1.heap.size w1 wr)) (fun _ vi _ => n - (intOf vi).toNat)
    case atStart => exact ⟨0, Nat.zero_le _, rfl, rfl, Below.refl _ _⟩
    case round =>
      obtain ⟨k, hk, rfl, rfl, HB⟩ := hrel
      by_cases hlt : k < n
      · have hlt' : k < l.length := by rw [← Hn.out]; exact hlt
        have hlti : (k : Int) < (n : Int) := by omega
        have HBw : Hid (Below w.heap.size w wr) := bel_of HB1.out HB.out HB1.out.size
        obtain ⟨g, off, rfl, hrg⟩ := (rngU HS.out).2 wr HBw.out k hlt'
        have hst := tup_step hlt'
        have hbd := HO2.out _ (List.getElem_mem hlt')
        have htl := tup_le (l.take k)
        rw [List.length_take] at htl
        have htl2 : tupN (l.take k) ≤ 57600 := by
          have : min k l.length * 900 ≤ 64 * 900 := Nat.mul_le_mul_right _ (by omega)
          omega
        obtain ⟨p, hp⟩ : ∃ p, p = l[k] := ⟨_, rfl⟩
        rw [← hp] at hrg hst hbd
        obtain ⟨_, _, _, hp1, hp2, _⟩ := (okR_iff p).1 hbd.2
        have hp1' : p.p.1 ≤ p.p.2 := by unfold okI at hp1; simpa using hp1
        have hp2' : p.q.1 ≤ p.q.2 := by unfold okI at hp2; simpa using hp2
        have hc1 := fun W => cSC p.p W hp1' hbd.1.2.2.2.1
        have hc2 := fun W => cSC p.q W hp2' hbd.1.2.2.2.2.2.1
        have l1 := cS_le p.p
        have l2 := cS_le p.q
        have hmul : cS p.p * cS p.q ≤ 900 := Nat.mul_le_mul l1 l2
        have x0 : wr.cell? ⟨g, off + k * 12, none⟩ = some (.int .i64 p.i) := hrg 0 _ rfl
        have x1 : wr.cell? ⟨g, off + k * 12 + 1, none⟩ = some (.int .u32 p.s) := hrg 1 _ rfl
        have x2 : wr.cell? ⟨g, off + k * 12 + 2, none⟩ = some (.int .i64 p.sl) := hrg 2 _ rfl
        have x3 : wr.cell? ⟨g, off + k * 12 + 3, none⟩ = some (.int .u32 p.d) := hrg 3 _ rfl
        have x4 : wr.cell? ⟨g, off + k * 12 + 4, none⟩ = some (.int .i64 p.dl) := hrg 4 _ rfl
        have x5 : wr.cell? ⟨g, off + k * 12 + 5, none⟩ = some (.int .u16 p.p.1) := hrg 5 _ rfl
        have x6 : wr.cell? ⟨g, off + k * 12 + 6, none⟩ = some (.int .u16 p.p.2) := hrg 6 _ rfl
        have x7 : wr.cell? ⟨g, off + k * 12 + 7, none⟩ = some (.int .u16 p.q.1) := hrg 7 _ rfl
        have x8 : wr.cell? ⟨g, off + k * 12 + 8, none⟩ = some (.int .u16 p.q.2) := hrg 8 _ rfl
        have x9 : wr.cell? ⟨g, off + k * 12 + 9, none⟩ = some (.int .u8 p.m.1) := hrg 9 _ rfl
        have x10 : wr.cell? ⟨g, off + k * 12 + 10, none⟩ = some (.int .u8 p.m.2) := hrg 10 _ rfl
        have x11 : wr.cell? ⟨g, off + k * 12 + 11, none⟩ = some (.int .i64 p.act) := hrg 11 _ rfl
        obtain ⟨W1, hW1⟩ : ∃ W1, W1 = wr.alloc (.cells #[.int .i64 p.i, .int .u32 p.s, .int .i64 p.sl, .int .u32 p.d, .int .i64 p.dl, .int .u16 p.p.1, .int .u16 p.p.2, .int .u16 p.q.1, .int .u16 p.q.2, .int .u8 p.m.1, .int .u8 p.m.2, .int .i64 p.act] 60) := ⟨_, rfl⟩
        have hbW : Below wr.heap.size wr W1 := by rw [hW1]; exact (Below.refl _ _).alloc (Nat.le_refl _) _
        have HBW : Hid (Below w1.heap.size w1 W1) := HB.out.trans (hbW.mono HB.out.size)
        have HX : Hid (W1.heap[wr.heap.size]? = some (.cells #[.int .i64 p.i, .int .u32 p.s, .int .i64 p.sl, .int .u32 p.d, .int .i64 p.dl, .int .u16 p.p.1, .int .u16 p.p.2, .int .u16 p.q.1, .int .u16 p.q.2, .int .u8 p.m.1, .int .u8 p.m.2, .int .i64 p.act] 60 (0, 0))) := by rw [hW1]; exact blk_new wr _
        have y5 : W1.cell? ⟨wr.heap.size, 5, none⟩ = some (.int .u16 p.p.1) := blk_cell HX.out rfl
        have y6 : W1.cell? ⟨wr.heap.size, 6, none⟩ = some (.int .u16 p.p.2) := blk_cell HX.out rfl
        have Hst : Hid _ := hst
        have Hmul : Hid _ := hmul
        clear hrg hbd hp hst hbW HB hp1 hp2 hp1' hp2' htl hmul
        generalize tupN (l.take k) = S0 at *
        subst hW1
        go_wp2_with (go_at_call 56; fail)
        clear x0 x1 x2 x3 x4 x5 x6 x7 x8 x9 x10 x11
        refine (hc1 _).mono ?_
        rintro e w4 ⟨rfl, hb4⟩
        have HX4 : Hid (w4.heap[wr.heap.size]? = some (.cells #[.int .i64 p.i, .int .u32 p.s, .int .i64 p.sl, .int .u32 p.d, .int .i64 p.dl, .int .u16 p.p.1, .int .u16 p.p.2, .int .u16 p.q.1, .int .u16 p.q.2, .int .u8 p.m.1, .int .u8 p.m.2, .int .i64 p.act] 60 (0, 0))) := blk_on HX.out hb4
        have y7 : w4.cell? ⟨wr.heap.size, 7, none⟩ = some (.int .u16 p.q.1) := blk_cell HX4.out rfl
        have y8 : w4.cell? ⟨wr.heap.size, 8, none⟩ = some (.int .u16 p.q.2) := blk_cell HX4.out rfl
        have HB4 : Hid (Below w1.heap.size w1 w4) := bel_of HBW.out hb4 HBW.out.size
        clear hb4 y5 y6 hc1 HX HBW
        go_wp2_with (go_at_call 56; fail)
        refine (hc2 _).mono ?_
        rintro e w5 ⟨rfl, hb5⟩
        have HB5 : Hid (Below w1.heap.size w1 w5) := bel_of HB4.out hb5 HB4.out.size
        clear hb5 y7 y8 hc2 HB4 HX4
        generalize cS p.p = a1 at *
        generalize cS p.q = a2 at *
        have hm1 : (a1 : Int) * (a2 : Int) = ((a1 * a2 : Nat) : Int) := by simp
        have hm2 : IntKind.i64.wrap ((a1 : Int) * (a2 : Int)) = ((a1 * a2 : Nat) : Int) := by rw [hm1]; exact wrap64_nat' (by have := Hmul.out; omega)
        have hm3 : wrap64 ((a1 : Int) * (a2 : Int)) = ((a1 * a2 : Nat) : Int) := by rw [hm1]; have := Hmul.out; unfold wrap64; omega
        clear hm1
        obtain ⟨M, hM⟩ : ∃ M, M = a1 * a2 := ⟨_, rfl⟩
        rw [← hM] at hm2 hm3 Hst Hmul
        have hMb : M ≤ 900 := Hmul.out
        clear hM
        go_wp2
        go_roundw
        case rel => exact ⟨k + 1, by omega, by rw [Hst.out]; go_num, by go_num, HB5.out⟩
        case measure => simp [intOf]; omega
      · obtain rfl : k = n := by omega
        have hni : ¬ (k : Int) < (k : Int) := by omega
        have et : tupN (l.take k) = G := by rw [Hn.out, List.take_length, HG.out]
        rw [et]
        clear et
        go_wp2
        go_ret2
        exact ⟨rfl, bel_of HB1.out HB.out HB1.out.size⟩
  · have hG : tupL l = 0 := if_neg h0
    rw [hG]
    have h0' : (setE l 64 != 0) = true := by simpa using h0
    clear HOk hG
    generalize setE l 64 = E at *
    go_enter Try.func43, Try.ntmps43
    go_wp2_with (fail)
    refine hC.mono ?_
    rintro e w1 ⟨rfl, hb1⟩
    have HB1 : Hid (Below w.heap.size w w1) := hb1
    clear hC hb1
    go_wp2
    go_ret2
    exact ⟨rfl, HB1.out⟩
end Go.Proofs.Ytfpmljgmfapoiaa
