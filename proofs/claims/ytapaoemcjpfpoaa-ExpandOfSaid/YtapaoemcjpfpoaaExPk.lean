/-
  The closures that are handed to climb; climb; cover; Of and Count of package expand.
-/
import Derived.Test.YtapaoemcjpfpoaaExPs
import Derived.OneCell
namespace Go.Proofs.Ytapaoemcjpfpoaa
open Go.RowKit
set_option linter.unusedVariables false
set_option linter.unusedSimpArgs false

/-- The variable in block B holds the row of a list, whose blocks lie behind it. -/
def Met (B : Nat) (w : World) (l : List (Nat × Nat)) : Prop := ∃ v, w.heap[B]? = some (.cells #[v] 33 (0, 0)) ∧ RowT w (B + 1) v l
theorem Met.on {B : Nat} {w w1 : World} {l : List (Nat × Nat)} (h : Met B w l) (hb : Below w.heap.size w w1) : Met B w1 l := by
  obtain ⟨v, h1, h2⟩ := h
  exact ⟨v, by rw [hb.block B (lt_of_block h1)]; exact h1, h2.on hb⟩
theorem Met.alloc {B : Nat} {w : World} {l : List (Nat × Nat)} (h : Met B w l) (o : Obj) : Met B (w.alloc o) l := h.on ((Below.refl _ _).alloc (Nat.le_refl _) o)
/-- What a call that writes the variable in block B, and the row behind it, leaves as it was. -/
def Kept (B : Nat) (w w' : World) : Prop := Below B w w' ∧ ∀ k, k < w.heap.size → k ≠ B → (∀ v, w.heap[B]? = some (.cells #[v] 33 (0, 0)) → v.ownBlock ≠ some k) → w'.heap[k]? = w.heap[k]?
theorem row_type {w : World} {b k : Nat} {v : Value} {l : List (Nat × Nat)} {cs : Array Value} {f : Nat × Nat} (h : RowT w b v l) (hk : w.heap[k]? = some (.cells cs 26 f)) : v.ownBlock ≠ some k := by
  intro e
  rcases h.2 with ⟨hv, _⟩ | ⟨g, cap, cur, hv, hg, hh, r⟩
  · subst hv; cases e
  · subst hv
    have : g = k := by simpa [Value.ownBlock] using e
    subst this
    rw [hh] at hk
    simp at hk
theorem kept_span {B : Nat} {w w' : World} {l : List (Nat × Nat)} {k : Nat} {cs : Array Value} {f : Nat × Nat} (hm : Met B w l) (h : Kept B w w') (hne : k ≠ B) (hk : w.heap[k]? = some (.cells cs 26 f)) : w'.heap[k]? = some (.cells cs 26 f) := by
  obtain ⟨v, h1, h2⟩ := hm
  rw [h.2 k (lt_of_block hk) hne ?_]
  · exact hk
  · intro v' h'
    rw [h1] at h'
    simp at h'
    subst h'
    exact row_type h2 hk
/-- A block that was made behind the row stays. -/
theorem kept_new {B : Nat} {w w1 w' : World} {l : List (Nat × Nat)} {k : Nat} (hm : Met B w l) (hb : Below w.heap.size w w1) (h : Kept B w1 w') (hk : w.heap.size ≤ k) (hk1 : k < w1.heap.size) : w'.heap[k]? = w1.heap[k]? := by
  obtain ⟨v, h1, h2⟩ := hm
  have hB := lt_of_block h1
  refine h.2 k hk1 (by omega) ?_
  intro v' h'
  rw [hb.block B hB, h1] at h'
  simp at h'
  subst h'
  intro e
  have := (h2.lt k e).2
  omega
theorem two_allocs {W : World} {o1 o2 : Obj} {k : Nat} (h : k < W.heap.size) : ((W.alloc o1).alloc o2).heap[k]? = W.heap[k]? := by
  rw [Below.heap_alloc _ _ _ (by simp; omega), Below.heap_alloc _ _ _ h]
theorem keep_block {B : Nat} {W w5 : World} {v : Value} {l : List (Nat × Nat)} {o1 o2 : Obj} (hB : W.heap[B]? = some (.cells #[v] 33 (0, 0))) (hR : RowT W (B + 1) v l) (hg : ((W.alloc o1).alloc o2).grownBy w5 v.ownBlock) : w5.heap[B]? = some (.cells #[v] 33 (0, 0)) := by
  have hlt := lt_of_block hB
  rw [hg.block B (by simp; omega) (fun e => by have := (hR.lt B e.symm).1; omega), two_allocs hlt]
  exact hB
theorem keep_done {B : Nat} {W w5 : World} {v v5 : Value} {l l' : List (Nat × Nat)} {o1 o2 : Obj} (hB : W.heap[B]? = some (.cells #[v] 33 (0, 0))) (hR : RowT W (B + 1) v l) (hg : ((W.alloc o1).alloc o2).grownBy w5 v.ownBlock) (h5 : RowT w5 (B + 1) v5 l') :
    Met B (w5.setCell ⟨B, 0, none⟩ v5) l' ∧ Kept B W (w5.setCell ⟨B, 0, none⟩ v5) := by
  have hlt := lt_of_block hB
  have hb := keep_block hB hR hg
  refine ⟨⟨v5, one_setCell hb, ownsRow_setCell_other h5 (fun e => by have := (h5.lt B e).1; omega) _⟩, ?_, ?_⟩
  · refine Below.setCell (p := ⟨B, 0, none⟩) ?_ (Nat.le_refl B) _
    refine Below.grown (((Below.refl B W).alloc (by omega) o1).alloc (by simp; omega) o2) hg (by simp; omega) ?_
    intro k hk
    have := (hR.lt k hk).1
    omega
  · intro k hk hne hv
    rw [Below.heap_setCell _ _ _ _ hne, hg.block k (by simp; omega) (fun e => hv v hB e.symm), two_allocs hk]
set_option maxHeartbeats 1000000 in
theorem keepT (B b n : Nat) (l : List (Nat × Nat)) (W : World) (h : Met B W l) (hl : l.length < 4294967296) :
    Calls Try.prog 46 #[.agg #[.int .u16 (b : Nat), .int .i64 (n : Nat)], .pointer (some ⟨B, 0, none⟩)] W fun e W' => e = .returned (.tuple #[]) ∧ Met B W' (l ++ [(b, n)]) ∧ Kept B W W' := by
  obtain ⟨v, hB, hR⟩ := h
  have hlt := lt_of_block hB
  obtain ⟨ad, cap, rfl, hcap, hat⟩ := hR.form
  have cB : W.cell? ⟨B, 0, none⟩ = some (.slice ad l.length cap) := cell_of_one hB
  have hne : (Value.slice ad l.length cap).ownBlock ≠ some B := fun e => by have := (hR.lt B e).1; omega
  have HR : Hid (RowT W (B + 1) (.slice ad l.length cap) l) := hR
  have HB : Hid (W.heap[B]? = some (.cells #[.slice ad l.length cap] 33 (0, 0))) := hB
  have HN : Hid ((Value.slice ad l.length cap).ownBlock ≠ some B) := hne
  clear hR hB hat hne hcap
  go_enter Try.func46, Try.ntmps46
  go_wp2_with (at_builtin; refine wpList_append_stems rfl (.tmp 3) (.tmp 5) rfl (B + 1) _ l rfl ((HR.out.alloc _).alloc _) (B + 1) _ [(b, n)] rfl (RowT.one2 (W.alloc (.cells #[.int .u16 (b : Nat), .int .i64 (n : Nat)] 24)) (B + 1) b n (B := W.heap.size + 1) (by simp) rfl rfl (by simp; omega)) (by simp; omega) (by simp; omega) ?_; intro v5 w5 hrow5 hgr5; obtain ⟨ad5, cap5, rfl, _, _⟩ := hrow5.form; have h5 : w5.heap[B]? = some (.cells #[.slice ad l.length cap] 33 (0, 0)) := keep_block HB.out HR.out hgr5; have c5 := cell_of_one h5; have f5 := free_of_one h5; have H5 : Hid (w5.heap[B]? = some (.cells #[.slice ad l.length cap] 33 (0, 0))) := h5; clear h5)
  go_end0
  have hd := keep_done HB.out HR.out hgr5 hrow5
  rw [List.length_append] at hd
  exact ⟨rfl, hd⟩
/-- The variable in block B counts. -/
def Tal (B : Nat) (w : World) (n : Nat) : Prop := w.heap[B]? = some (.cells #[.int .i64 (n : Int)] 3 (0, 0))
theorem Tal.on {B : Nat} {w w1 : World} {n : Nat} (h : Tal B w n) (hb : Below w.heap.size w w1) : Tal B w1 n := by
  unfold Tal at *
  rw [hb.block B (lt_of_block h)]; exact h
theorem Tal.alloc {B : Nat} {w : World} {n : Nat} (h : Tal B w n) (o : Obj) : Tal B (w.alloc o) n := h.on ((Below.refl _ _).alloc (Nat.le_refl _) o)
theorem tallyT (B b n k : Nat) (W : World) (h : Tal B W k) (hk : k < 4294967296) :
    Calls Try.prog 39 #[.agg #[.int .u16 (b : Nat), .int .i64 (n : Nat)], .pointer (some ⟨B, 0, none⟩)] W fun e W' => e = .returned (.tuple #[]) ∧ Tal B W' (k + 1) ∧ Below B W W' ∧ ∀ x, x < W.heap.size → x ≠ B → W'.heap[x]? = W.heap[x]? := by
  have hlt := lt_of_block h
  have cB : W.cell? ⟨B, 0, none⟩ = some (.int .i64 (k : Int)) := cell_of_one h
  have fB : W.frozen? ⟨B, 0, none⟩ = false := free_of_one h
  have HB : Hid (Tal B W k) := h
  clear h
  go_enter Try.func39, Try.ntmps39
  go_wp2
  go_end0
  have hz : (W.setCell ⟨B, 0, none⟩ (.int .i64 ((k : Int) + 1))).heap.size = W.heap.size := by simp
  refine ⟨rfl, ?_, ?_, ?_⟩
  · unfold Tal
    rw [Below.heap_alloc _ _ _ (by omega)]
    exact one_setCell HB.out
  · exact (Below.setCell (p := ⟨B, 0, none⟩) (Below.refl B W) (Nat.le_refl B) _).alloc (by omega) _
  · intro x hx hne
    rw [Below.heap_alloc _ _ _ (by omega), Below.heap_setCell _ _ _ _ hne]
set_option maxHeartbeats 1000000 in
theorem climbK (lo hi B : Nat) (l0 : List (Nat × Nat)) (w : World) (h : lo ≤ hi) (hh : hi < 65536) (hM : Met B w l0) (hl : l0.length + 65536 ≤ 4294967296) :
    Calls Try.prog 38 #[.agg #[.int .u16 lo, .int .u16 hi], .func (.func 46) #[] #[.pointer (some ⟨B, 0, none⟩)]] w fun e w' => e = .returned (.tuple #[]) ∧ Met B w' (l0 ++ grd 65536 lo (hi + 1 - lo)) ∧ Below B w w' := by
  have hBlt : B < w.heap.size := (by obtain ⟨v, h1, _⟩ := hM; exact lt_of_block h1)
  have HM : Hid (Met B w l0) := hM
  clear hM
  go_enter Try.func38, Try.ntmps38
  go_wp2
  go_loopw [4] (fun iv wr => ∃ (a : Nat) (pre : List (Nat × Nat)), a ≤ hi + 1 ∧ iv = .int .i64 (a : Int) ∧ Hid (wr.heap[w.heap.size]? = some (.cells #[.int .u16 (lo : Int), .int .u16 (hi : Int)] 26 (0, 0))) ∧ Hid (Gone lo hi a pre) ∧ Hid (Met B wr (l0 ++ pre)) ∧ Hid (Below B w wr)) (fun iv _ => hi + 1 - (intOf iv).toNat)
  case atStart => exact ⟨lo, [], by omega, rfl, heap_alloc_new _ _, Gone.start lo hi hh, by show Met B _ (l0 ++ []); rw [List.append_nil]; exact HM.out.alloc _, by show Below _ _ _; (repeat (first | assumption | exact Below.refl _ _ | refine Below.drew ?_ | refine bel_drewN ?_ _ | refine Below.setCell ?_ (by first | omega | (simp; done) | (simp; omega)) _ | refine Below.alloc ?_ (by first | omega | (simp; done) | (simp; omega)) _ | refine bel_of ?_ (by assumption)))⟩
  case round =>
    obtain ⟨a, pre, ha, rfl, hbox, hgo, hmet, hbl⟩ := hrel
    have y1 : wr.cell? ⟨w.heap.size, 1, none⟩ = some (.int .u16 (hi : Int)) := by simp [World.cell?, hbox.out]
    have hz : w.heap.size < wr.heap.size := lt_of_block hbox.out
    by_cases hle : a ≤ hi
    · have hle' : (a : Int) ≤ (hi : Int) := by omega
      have ha6 : (a : Int) < 65536 := by omega
      have ha0 : (0 : Int) ≤ (a : Int) := by omega
      have hst : Hid (Gone lo hi (a + 2 ^ mf a (hi + 1 - a) 16) (pre ++ [(a, 16 - mf a (hi + 1 - a) 16)])) := hgo.out.step hle
      have hln : Hid ((l0 ++ pre).length < 4294967296) := by
        show _ < _
        have := hst.out.len
        simp at this ⊢
        omega
      obtain ⟨m1, m2⟩ := mf_bd hle
      have hsh := fun W => shortT a hi hle hh W
      generalize mf a (hi + 1 - a) 16 = f at *
      obtain ⟨L, hL⟩ : ∃ L : Nat, L = 16 - f := ⟨_, rfl⟩
      rw [← hL] at hst hsh
      have hL16 : L ≤ 16 := by omega
      have hf : Hid (f = 16 - L) := by show _ = _; omega
      have hmk : Hid (mk (16 - L) + 1 = 2 ^ f) := by
        show _ = _
        rw [← hf.out]
        have := two_pos f
        unfold mk; omega
      have hmk2 : Hid (a + (mk (16 - L) + 1) ≤ hi + 1) := by show _ ≤ _; rw [hmk.out]; exact m2
      clear m1 m2 hL
      go_wp2_with (fail)
      refine (hsh _).mono ?_
      rintro e w1 ⟨rfl, hb1⟩
      have hz1 := hb1.size
      have hmet1 : Hid (Met B w1 (l0 ++ pre)) := hmet.out.on hb1
      have hbox1 : Hid (w1.heap[w.heap.size]? = some (.cells #[.int .u16 (lo : Int), .int .u16 (hi : Int)] 26 (0, 0))) := by show _ = _; rw [hb1.block _ hz]; exact hbox.out
      have hbl1 : Hid (Below B w w1) := hbl.out.trans (hb1.mono (by omega))
      clear hb1 hbox hmet hbl y1 hsh
      go_wp2_with (fail)
      refine (keepT B a L (l0 ++ pre) _ (hmet1.out.alloc _) hln.out).mono ?_
      rintro e w2 ⟨rfl, hmet2, hk2⟩
      have hbk : w2.heap[w1.heap.size]? = some (.cells #[.int .u16 (a : Int), .int .i64 (L : Int)] 24 (0, 0)) := (by rw [kept_new hmet1.out ((Below.refl _ _).alloc (Nat.le_refl _) _) hk2 (Nat.le_refl _) (by simp)]; exact heap_alloc_new _ _)
      have t1 : w2.cell? ⟨w1.heap.size, 1, none⟩ = some (.int .i64 (L : Int)) := by simp [World.cell?, hbk]
      have hbox2 : Hid (w2.heap[w.heap.size]? = some (.cells #[.int .u16 (lo : Int), .int .u16 (hi : Int)] 26 (0, 0))) := kept_span (hmet1.out.alloc _) hk2 (by omega) (by rw [Below.heap_alloc _ _ _ (by omega)]; exact hbox1.out)
      have hbl2 : Hid (Below B w w2) := (hbl1.out.alloc (by omega) _).trans hk2.1
      have HMet : Hid (Met B w2 (l0 ++ pre ++ [(a, L)])) := hmet2
      have hmkl : (mk (16 - L) : Int) < 65536 := by have := mk_lt (show 16 - L ≤ 16 by omega); omega
      have hmk0 : (0 : Int) ≤ (mk (16 - L) : Int) := by omega
      clear hbk hk2 hmet2 hmet1 hbox1 hbl1
      go_wp2_with (go_at_call 32; refine (tailT L hL16 _).mono ?_; rintro e w' ⟨rfl, hw⟩; obtain rfl := hw.symm; clear hw)
      go_roundw
      case rel => exact ⟨a + 2 ^ f, pre ++ [(a, L)], by rw [← hmk.out]; exact hmk2.out, by rw [← hmk.out]; go_num, hbox2.out, hst.out, by show Met B _ _; rw [← List.append_assoc]; exact HMet.out, hbl2.out⟩
      case measure => simp [intOf]; have := hmk2.out; omega
    · obtain rfl : a = hi + 1 := by omega
      have hle' : ¬ ((hi + 1 : Nat) : Int) ≤ (hi : Int) := by omega
      have hle2 : (hi : Int) < ((hi + 1 : Nat) : Int) := by omega
      have e := hgo.out.done (by omega)
      have hfin : Hid (Met B wr (l0 ++ grd 65536 lo (hi + 1 - lo))) := by show Met B wr (l0 ++ grd 65536 lo (hi + 1 - lo)); rw [← e]; exact hmet.out
      clear e
      go_wp2
      go_end0
      exact ⟨rfl, hfin.out, hbl.out⟩
set_option maxHeartbeats 1000000 in
theorem climbN (lo hi B : Nat) (k0 : Nat) (w : World) (h : lo ≤ hi) (hh : hi < 65536) (hM : Tal B w k0) (hl : k0 + 65536 ≤ 4294967296) :
    Calls Try.prog 38 #[.agg #[.int .u16 lo, .int .u16 hi], .func (.func 39) #[] #[.pointer (some ⟨B, 0, none⟩)]] w fun e w' => e = .returned (.tuple #[]) ∧ Tal B w' (k0 + (grd 65536 lo (hi + 1 - lo)).length) ∧ Below B w w' := by
  have hBlt : B < w.heap.size := lt_of_block hM
  have HM : Hid (Tal B w k0) := hM
  clear hM
  go_enter Try.func38, Try.ntmps38
  go_wp2
  go_loopw [4] (fun iv wr => ∃ (a : Nat) (pre : List (Nat × Nat)), a ≤ hi + 1 ∧ iv = .int .i64 (a : Int) ∧ Hid (wr.heap[w.heap.size]? = some (.cells #[.int .u16 (lo : Int), .int .u16 (hi : Int)] 26 (0, 0))) ∧ Hid (Gone lo hi a pre) ∧ Hid (Tal B wr (k0 + pre.length)) ∧ Hid (Below B w wr)) (fun iv _ => hi + 1 - (intOf iv).toNat)
  case atStart => exact ⟨lo, [], by omega, rfl, heap_alloc_new _ _, Gone.start lo hi hh, by show Tal B _ (k0 + 0); exact HM.out.alloc _, by show Below _ _ _; (repeat (first | assumption | exact Below.refl _ _ | refine Below.drew ?_ | refine bel_drewN ?_ _ | refine Below.setCell ?_ (by first | omega | (simp; done) | (simp; omega)) _ | refine Below.alloc ?_ (by first | omega | (simp; done) | (simp; omega)) _ | refine bel_of ?_ (by assumption)))⟩
  case round =>
    obtain ⟨a, pre, ha, rfl, hbox, hgo, hmet, hbl⟩ := hrel
    have y1 : wr.cell? ⟨w.heap.size, 1, none⟩ = some (.int .u16 (hi : Int)) := by simp [World.cell?, hbox.out]
    have hz : w.heap.size < wr.heap.size := lt_of_block hbox.out
    by_cases hle : a ≤ hi
    · have hle' : (a : Int) ≤ (hi : Int) := by omega
      have ha6 : (a : Int) < 65536 := by omega
      have ha0 : (0 : Int) ≤ (a : Int) := by omega
      have hst : Hid (Gone lo hi (a + 2 ^ mf a (hi + 1 - a) 16) (pre ++ [(a, 16 - mf a (hi + 1 - a) 16)])) := hgo.out.step hle
      have hln : Hid ((k0 + pre.length) < 4294967296) := by
        show _ < _
        have := hst.out.len
        simp at this ⊢
        omega
      obtain ⟨m1, m2⟩ := mf_bd hle
      have hsh := fun W => shortT a hi hle hh W
      generalize mf a (hi + 1 - a) 16 = f at *
      obtain ⟨L, hL⟩ : ∃ L : Nat, L = 16 - f := ⟨_, rfl⟩
      rw [← hL] at hst hsh
      have hL16 : L ≤ 16 := by omega
      have hf : Hid (f = 16 - L) := by show _ = _; omega
      have hmk : Hid (mk (16 - L) + 1 = 2 ^ f) := by
        show _ = _
        rw [← hf.out]
        have := two_pos f
        unfold mk; omega
      have hmk2 : Hid (a + (mk (16 - L) + 1) ≤ hi + 1) := by show _ ≤ _; rw [hmk.out]; exact m2
      clear m1 m2 hL
      go_wp2_with (fail)
      refine (hsh _).mono ?_
      rintro e w1 ⟨rfl, hb1⟩
      have hz1 := hb1.size
      have hmet1 : Hid (Tal B w1 (k0 + pre.length)) := hmet.out.on hb1
      have hbox1 : Hid (w1.heap[w.heap.size]? = some (.cells #[.int .u16 (lo : Int), .int .u16 (hi : Int)] 26 (0, 0))) := by show _ = _; rw [hb1.block _ hz]; exact hbox.out
      have hbl1 : Hid (Below B w w1) := hbl.out.trans (hb1.mono (by omega))
      clear hb1 hbox hmet hbl y1 hsh
      go_wp2_with (fail)
      refine (tallyT B a L (k0 + pre.length) _ (hmet1.out.alloc _) hln.out).mono ?_
      rintro e w2 ⟨rfl, hmet2, hk2⟩
      have hbk : w2.heap[w1.heap.size]? = some (.cells #[.int .u16 (a : Int), .int .i64 (L : Int)] 24 (0, 0)) := (by rw [hk2.2 _ (by simp) (by omega)]; exact heap_alloc_new _ _)
      have t1 : w2.cell? ⟨w1.heap.size, 1, none⟩ = some (.int .i64 (L : Int)) := by simp [World.cell?, hbk]
      have hbox2 : Hid (w2.heap[w.heap.size]? = some (.cells #[.int .u16 (lo : Int), .int .u16 (hi : Int)] 26 (0, 0))) := (by show _ = _; rw [hk2.2 _ (by simp; omega) (by omega), Below.heap_alloc _ _ _ (by omega)]; exact hbox1.out)
      have hbl2 : Hid (Below B w w2) := (hbl1.out.alloc (by omega) _).trans hk2.1
      have HMet : Hid (Tal B w2 (k0 + pre.length + 1)) := hmet2
      have hmkl : (mk (16 - L) : Int) < 65536 := by have := mk_lt (show 16 - L ≤ 16 by omega); omega
      have hmk0 : (0 : Int) ≤ (mk (16 - L) : Int) := by omega
      clear hbk hk2 hmet2 hmet1 hbox1 hbl1
      go_wp2_with (go_at_call 32; refine (tailT L hL16 _).mono ?_; rintro e w' ⟨rfl, hw⟩; obtain rfl := hw.symm; clear hw)
      go_roundw
      case rel => exact ⟨a + 2 ^ f, pre ++ [(a, L)], by rw [← hmk.out]; exact hmk2.out, by rw [← hmk.out]; go_num, hbox2.out, hst.out, by show Tal B _ _; rw [List.length_append]; exact HMet.out, hbl2.out⟩
      case measure => simp [intOf]; have := hmk2.out; omega
    · obtain rfl : a = hi + 1 := by omega
      have hle' : ¬ ((hi + 1 : Nat) : Int) ≤ (hi : Int) := by omega
      have hle2 : (hi : Int) < ((hi + 1 : Nat) : Int) := by omega
      have e := hgo.out.done (by omega)
      have hfin : Hid (Tal B wr (k0 + (grd 65536 lo (hi + 1 - lo)).length)) := by show Tal B wr (k0 + (grd 65536 lo (hi + 1 - lo)).length); rw [← e]; exact hmet.out
      clear e
      go_wp2
      go_end0
      exact ⟨rfl, hfin.out, hbl.out⟩
end Go.Proofs.Ytapaoemcjpfpoaa
