/-
  What Next of the document's answer hands back.
-/
import Derived.Test.YtpgadbiohmofeaaHdRc
namespace Go.Proofs.Ytpgadbiohmofeaa
open Go.RowKit
set_option linter.unusedVariables false
set_option linter.unusedSimpArgs false
attribute [local go_sem ↓] Go.wp_at_zero Go.wp_at_succ

/-- The cells of a header that may be written. -/
def FreeH (w : World) (B : Nat) : Prop := (∀ j, j < 5 → ∃ v, w.cell? ⟨B, j, none⟩ = some v) ∧ ∀ j, w.frozen? ⟨B, j, none⟩ = false
theorem FreeH.on {w w1 : World} {B C : Nat} (h : FreeH w B) (hb : Below C w w1) (hC : B < C) : FreeH w1 B :=
  ⟨fun j hj => by rw [hb.cell (show (⟨B, j, none⟩ : Addr).block < C from hC)]; exact h.1 j hj, fun j => by rw [hb.frozen (show (⟨B, j, none⟩ : Addr).block < C from hC)]; exact h.2 j⟩
theorem freeH_new {w : World} {a0 a1 a2 a3 a4 : Value} {t : TypeId} : FreeH (w.alloc (.cells #[a0, a1, a2, a3, a4] t)) w.heap.size :=
  ⟨fun j hj => by
    match j, hj with
    | 0, _ => exact ⟨a0, by simp [go_sem]⟩
    | 1, _ => exact ⟨a1, by simp [go_sem]⟩
    | 2, _ => exact ⟨a2, by simp [go_sem]⟩
    | 3, _ => exact ⟨a3, by simp [go_sem]⟩
    | 4, _ => exact ⟨a4, by simp [go_sem]⟩, fun j => by simp [go_sem]⟩
set_option maxHeartbeats 2000000 in
theorem rNextT (h : Hd) (w : World) (o : OkH h) :
    Calls Try.prog 24 #[.agg #[.int .u32 (h.s : Int), .int .u32 (h.d : Int), .int .u16 (h.p : Int), .int .u16 (h.q : Int), .int .u8 (h.r : Int)]] w fun e w' => e = .returned (.tuple #[.agg #[.int .u32 ((nxt h).s : Int), .int .u32 ((nxt h).d : Int), .int .u16 ((nxt h).p : Int), .int .u16 ((nxt h).q : Int), .int .u8 ((nxt h).r : Int)], .bool (hasN h)]) ∧ Below w.heap.size w w' := by
  have HY : Hid (∀ j (hj : j < 13), (∀ k (hk : k < (bytesH h).length), j + 1 ≤ k → (bytesH h)[k] = 255) → (bytesH h)[j]'hj < 255 → hasN h = true ∧ hdB ((bytesH h).take j ++ ((bytesH h)[j]'hj + 1) :: List.replicate (12 - j) 0) = nxt h) := fun j hj hs ht => nx_hd o hj hs ht
  have HE : Hid ((∀ k (hk : k < (bytesH h).length), 0 ≤ k → (bytesH h)[k] = 255) → hasN h = false ∧ nxt h = h0) := fun hs => ⟨nx_end o hs, (nxt_no o (nx_end o hs)).1⟩
  generalize nxt h = H at *
  generalize hasN h = E at *
  go_enter Try.func24, Try.ntmps24
  go_wp2_with (fail)
  refine (rpackT h _ o).mono ?_
  rintro e w1 ⟨v1, rfl, r1, b1⟩
  obtain ⟨ad, cap, hv, hcap, hat⟩ := r1.form
  rw [bytesH_length] at hv
  subst hv
  obtain ⟨g, rfl, hg1, hg2, hcell⟩ := hat (by rw [bytesH_length]; omega)
  simp at hg1
  have hz1 := b1.size
  simp at hz1
  have HF : Hid (FreeH w1 (w.heap.size + 1)) := by
    have := (freeH_new (w := w.alloc (.cells #[.int .u32 (h.s : Int), .int .u32 (h.d : Int), .int .u16 (h.p : Int), .int .u16 (h.q : Int), .int .u8 (h.r : Int)] 25)) (a0 := .int .u32 0) (a1 := .int .u32 0) (a2 := .int .u16 0) (a3 := .int .u16 0) (a4 := .int .u8 0) (t := 25)).on b1 (by simp)
    show FreeH _ _
    simpa using this
  have HB : Hid (Below w.heap.size w w1) := (((Below.refl _ _).alloc (Nat.le_refl _) _).alloc (by simp) _).trans (b1.mono (by simp; omega))
  have HR : Hid (RowB w1 (w.heap.size + 1 + 1) (.slice (some ⟨g, 0, none⟩) 13 cap) (nxL (bytesH h) 13)) := by show RowB _ _ _ _; rw [nxL_all (bytesH_length h)]; simpa using r1
  rw [bytesH_length] at hcap
  clear b1 r1 hat hcell
  go_wp2_with (fail)
  go_loopw [5] (fun iv wr => ∃ j : Nat, j ≤ 13 ∧ iv = .int .i64 ((j : Int) - 1) ∧ Hid (RowB wr (w.heap.size + 1 + 1) (.slice (some ⟨g, 0, none⟩) 13 cap) (nxL (bytesH h) j)) ∧ Hid (∀ k (hk : k < (bytesH h).length), j ≤ k → (bytesH h)[k] = 255) ∧ Hid (Below (w.heap.size + 1 + 1) w1 wr)) (fun iv _ => (intOf iv + 1).toNat)
  case atStart => exact ⟨13, Nat.le_refl _, rfl, HR.out, fun k hk h13 => absurd hk (by rw [bytesH_length]; omega), Below.refl _ _⟩
  case round =>
    obtain ⟨j, hj, rfl, hrow, hs, hbl⟩ := hrel
    by_cases h0' : j = 0
    · subst h0'
      obtain ⟨rfl, rfl⟩ := HE.out hs.out
      have hfr := HF.out.on hbl.out (by omega)
      obtain ⟨a0, e0⟩ := hfr.1 0 (by omega)
      obtain ⟨a1, e1⟩ := hfr.1 1 (by omega)
      obtain ⟨a2, e2⟩ := hfr.1 2 (by omega)
      obtain ⟨a3, e3⟩ := hfr.1 3 (by omega)
      obtain ⟨a4, e4⟩ := hfr.1 4 (by omega)
      have f2 := hfr.2
      have HB2 : Hid (Below w.heap.size w wr) := HB.out.trans (hbl.out.mono (by omega))
      clear hfr HF HR HY HE hrow hs hbl HB
      go_wp2
      exact bodyPost_ret (v := .tuple #[.agg #[.int .u32 (h0.s : Int), .int .u32 (h0.d : Int), .int .u16 (h0.p : Int), .int .u16 (h0.q : Int), .int .u8 (h0.r : Int)], .bool false]) (by simp [results, Try.results24, go_sem, e0, e1, e2, e3, e4, f2, h0]) rfl ⟨rfl, by (iterate 5 (refine Below.setCell ?_ (Nat.le_succ _) _)); exact HB2.out⟩
    · obtain ⟨k, rfl⟩ : ∃ k, j = k + 1 := ⟨j - 1, by omega⟩
      have hk : k < 13 := by omega
      obtain ⟨ad', cap', hv', _, hat'⟩ := hrow.out.form
      have hl13 : (nxL (bytesH h) (k + 1)).length = 13 := nxL_length (bytesH_length h) hj
      obtain ⟨g', hg', _, _, hcell'⟩ := hat' (by omega)
      rw [hg', hl13] at hv'
      simp at hv'
      obtain ⟨hgg, hcc⟩ := hv'
      subst hgg
      clear hcc
      have x0 := hcell' k (by omega)
      rw [nxL_get (bytesH_length h) hk] at x0
      have fz := hrow.out.frozen k
      obtain ⟨t, ht⟩ : ∃ t, t = (bytesH h)[k]'hk := ⟨_, rfl⟩
      have x1 : wr.cell? ⟨g, k, none⟩ = some (.int .u8 (t : Int)) := by rw [ht]; exact x0
      have ht6 : t < 256 := by rw [ht]; exact bytesH_bd h _ (List.getElem_mem _)
      have hkI : (k : Int) < 13 := by omega
      have hk0 : (0 : Int) ≤ (k : Int) := by omega
      clear hat' hcell' hg' x0
      have hz2 := hbl.out.size
      have HB2 : Hid (Below w.heap.size w wr) := HB.out.trans (hbl.out.mono (by omega))
      by_cases h5 : t < 255
      · obtain ⟨rfl, hH⟩ := HY.out k hk hs.out (by rw [← ht]; exact h5)
        obtain ⟨x, hx⟩ : ∃ x, x = t + 1 := ⟨_, rfl⟩
        have hp := hrow.out.put k x
        rw [nxL_set (bytesH_length h) hk] at hp
        have hxt : x = (bytesH h)[k]'hk + 1 := by rw [hx, ht]
        have hun := runpC _ _ _ hp.1.src (by rw [List.length_append, List.length_cons, List.length_take, List.length_replicate, bytesH_length]; omega) (nx_bd (by omega))
        rw [hxt, hH, ← hxt] at hun
        have hxi : (t : Int) + 1 = (x : Int) := by omega
        have hti : (t : Int) < 255 := by omega
        have hfr := (HF.out.on hbl.out (by omega)).on (Below.setCell (p := ⟨g, k, none⟩) (Below.refl (w.heap.size + 1 + 1) wr) (by show _ ≤ g; omega) (.int .u8 (x : Int))) (by omega)
        have HB3 : Hid (Below w.heap.size w (wr.setCell ⟨g, k, none⟩ (.int .u8 (x : Int)))) := by show Below _ _ _; exact HB2.out.setCell (by show w.heap.size ≤ g; omega) _
        have hsz : (wr.setCell ⟨g, k, none⟩ (.int .u8 (x : Int))).heap.size = wr.heap.size := by simp
        have HFr : Hid (FreeH (wr.setCell ⟨g, k, none⟩ (.int .u8 (x : Int))) (w.heap.size + 1)) := hfr
        generalize hW2 : wr.setCell ⟨g, k, none⟩ (.int .u8 (x : Int)) = W2 at *
        clear hp hxt hx ht hfr HY HE HF HR hs hbl HB HB2 hrow hH h5
        go_wp2_with (fail)
        refine hun.mono ?_
        rintro e w3 ⟨rfl, hb3⟩
        have hfr := HFr.out.on hb3 (by omega)
        obtain ⟨a0, e0⟩ := hfr.1 0 (by omega)
        obtain ⟨a1, e1⟩ := hfr.1 1 (by omega)
        obtain ⟨a2, e2⟩ := hfr.1 2 (by omega)
        obtain ⟨a3, e3⟩ := hfr.1 3 (by omega)
        obtain ⟨a4, e4⟩ := hfr.1 4 (by omega)
        have f2 := hfr.2
        have hz3 := hb3.size
        have hlt3 : w.heap.size + 1 < w3.heap.size := by omega
        have HB4 : Hid (Below w.heap.size w w3) := HB3.out.trans (hb3.mono (by omega))
        clear hfr HFr hun hb3 hW2 HB3
        go_wp2
        exact bodyPost_ret (v := .tuple #[.agg #[.int .u32 (H.s : Int), .int .u32 (H.d : Int), .int .u16 (H.p : Int), .int .u16 (H.q : Int), .int .u8 (H.r : Int)], .bool true]) (by simp [results, Try.results24, go_sem, e0, e1, e2, e3, e4, f2, hlt3, Nat.ne_of_lt hlt3]) rfl ⟨rfl, by refine Below.alloc ?_ (by simp; omega) _; (iterate 5 (refine Below.setCell ?_ (Nat.le_succ _) _)); exact HB4.out⟩
      · obtain rfl : t = 255 := by omega
        have hp := (hrow.out.put k 0).1
        rw [nxL_zero (bytesH_length h) hk] at hp
        have HP : Hid (RowB (wr.setCell ⟨g, k, none⟩ (.int .u8 0)) (w.heap.size + 1 + 1) (.slice (some ⟨g, 0, none⟩) 13 cap) (nxL (bytesH h) k)) := hp
        have HS : Hid (∀ m (hm : m < (bytesH h).length), k ≤ m → (bytesH h)[m] = 255) := fun m hm hkm => by
          by_cases em : m = k
          · subst em; exact ht.symm
          · exact hs.out m hm (by omega)
        have HBl : Hid (Below (w.heap.size + 1 + 1) w1 (wr.setCell ⟨g, k, none⟩ (.int .u8 0))) := by show Below _ _ _; exact hbl.out.setCell (by show _ ≤ g; omega) _
        clear hp hs hbl hrow HB2 ht
        go_wp2
        go_roundw
        case rel => exact ⟨k, by omega, by go_num, HP.out, HS.out, HBl.out⟩
        case measure => simp [intOf]
end Go.Proofs.Ytpgadbiohmofeaa
