/-
  The document's levels.
-/
import Derived.Test.YtcjpjofoddpfhaaGreatNsRw
namespace Go.Proofs.YtcjpjofoddpfhaaGreat
open Go.RowKit
set_option linter.unusedVariables false
set_option linter.unusedSimpArgs false

theorem mes_down {i L k : Nat} (h1 : L < i) (h2 : k < i) : (i + 1 - (L + 1)) * (i + 2) - 0 < (i + 1 - L) * (i + 2) - k := by
  have e : i + 1 - L = (i + 1 - (L + 1)) + 1 := by omega
  rw [e, Nat.succ_mul]
  generalize (i + 1 - (L + 1)) * (i + 2) = X
  omega
theorem mes_next {i L k : Nat} (h1 : L ≤ i) (h2 : k < i) : (i + 1 - L) * (i + 2) - (k + 1) < (i + 1 - L) * (i + 2) - k := by
  have e : i + 1 - L = (i - L) + 1 := by omega
  rw [e, Nat.succ_mul]
  generalize (i - L) * (i + 2) = X
  omega
theorem bel_appendI {B : Nat} {a w w' : World} {b : Nat} {v : Value} {l : List Int} (h : Below B a w) (hr : RowI w b v l) (hg : w.grownBy w' v.ownBlock) (hB : B ≤ w.heap.size) (hb : B ≤ b) : Below B a w' := h.grown hg hB (fun q hq => Nat.le_trans hb (hr.lt q hq).1)
theorem RowI.alloc {w : World} {b : Nat} {v : Value} {l : List Int} (h : RowI w b v l) (o : Obj) : RowI (w.alloc o) b v l := World.ownsRow.alloc h o
theorem RowI.drew {w : World} {b : Nat} {v : Value} {l : List Int} (h : RowI w b v l) (n : Nat) : RowI (w.drewN n) b v l := h
set_option maxRecDepth 20000 in
set_option maxHeartbeats 4000000 in
theorem rlevelsC (l : List (Nat × Nat)) (v : Value) (w : World) (hs : SrcS w v l) (hl : l.length ≤ 16777216) :
    Calls Tryz.prog 30 #[v] w fun e w' => ∃ v' : Value, e = .returned v' ∧ RowI w' w.heap.size v' (ofN (lvN l)) ∧ Below w.heap.size w w' := by
  have HS : Hid (SrcS w v l) := hs
  obtain ⟨ad, cap, rfl, _, _⟩ := hs
  obtain ⟨n, hn⟩ : ∃ n, n = l.length := ⟨_, rfl⟩
  rw [← hn] at HS hl ⊢
  have Hn : Hid (n = l.length) := hn
  clear hn
  go_enter Tryz.func30, Tryz.ntmps30
  go_wp2_with (fail)
  go_loopw [3, 4] (fun s3 s4 wr => ∃ (i : Nat) (v3 : Value), i ≤ n ∧ v3 = s3 ∧ s4 = .int .i64 (i : Int) ∧ Hid (RowI wr w.heap.size v3 (ofN (lvN (l.take i)))) ∧ Hid (Below w.heap.size w wr)) (fun _ s4 _ => n - (intOf s4).toNat)
  case atStart => exact ⟨0, _, Nat.zero_le _, rfl, rfl, RowI.nil _ _, Below.refl _ _⟩
  case round =>
    obtain ⟨i, v3, hi, rfl, rfl, HR, HB⟩ := hrel
    by_cases hlt : i < n
    · have hlt' : i < l.length := by rw [← Hn.out]; exact hlt
      have hlti : (i : Int) < (n : Int) := by omega
      have hul : (l.take i).length = i := by rw [List.length_take]; omega
      obtain ⟨u, hu⟩ : ∃ u, u = l.take i := ⟨_, rfl⟩
      have Hnx : Hid (lvN (l.take (i + 1)) = lvN u ++ [lev (lvs [] u) l[i]]) := by show _ = _; rw [take_at hlt', lvN_app, hu]
      rw [← hu] at HR hul
      have Hu : Hid (u = l.take i) := hu
      have Hul : Hid (u.length = i) := hul
      clear hu hul
      obtain ⟨s, hs⟩ : ∃ s, s = l[i] := ⟨_, rfl⟩
      rw [← hs] at Hnx
      have HI : Hid (s = l[i]) := hs
      clear hs
      obtain ⟨a3, c3, rfl, _⟩ := HR.out.form
      have e3 : (ofN (lvN u)).length = i := by rw [ofN_len, lvN_len]; exact Hul.out
      rw [e3] at HR ⊢
      clear e3
      go_wp2_with (fail)
      generalize wr = V1 at *
      go_loopw [5, 6] (fun s5 s6 wr => ∃ L k : Nat, L ≤ i ∧ k ≤ i ∧ s5 = .int .i64 (L : Int) ∧ s6 = .int .i64 (k : Int) ∧ Hid (∀ m, m < L → fre (lvs [] u) s m = false) ∧ Hid (∀ j (h1 : j < u.length) (h2 : j < (lvN u).length), j < k → (lvN u)[j] = L → mt u[j] s = false) ∧ Hid (RowI wr w.heap.size (.slice a3 i c3) (ofN (lvN u))) ∧ Hid (Below w.heap.size w wr)) (fun s5 s6 _ => (i + 1 - (intOf s5).toNat) * (i + 2) - (intOf s6).toNat)
      case atStart => exact ⟨0, 0, Nat.zero_le _, Nat.zero_le _, rfl, rfl, (fun m hm => by omega), (fun j _ _ hj => by omega), HR.out, HB.out⟩
      case round =>
        obtain ⟨L, k, hL, hk, rfl, rfl, HF, HM, HR1, HB1⟩ := hrel
        clear HR HB
        by_cases hltk : k < i
        · have hk1 : k < u.length := by rw [Hul.out]; exact hltk
          have hk2 : k < (lvN u).length := by rw [lvN_len]; exact hk1
          have hkl : k < l.length := by omega
          have hltki : (k : Int) < (i : Int) := by omega
          obtain ⟨g, off, ea, c0, c1⟩ := (srcS_at HS.out).2 HB1.out i hlt'
          subst ea
          obtain ⟨g', off', e', d0, d1⟩ := (srcS_at HS.out).2 HB1.out k hkl
          injection e' with e'
          injection e' with e1 e2
          subst e1 e2
          rw [← HI.out] at c0 c1
          have hut : u[k] = l[k] := by have := Hu.out; subst this; rw [List.getElem_take]
          rw [← hut] at d0 d1
          obtain ⟨t, ht⟩ : ∃ t, t = u[k] := ⟨_, rfl⟩
          rw [← ht] at d0 d1
          have Ht : Hid (t = u[k]) := ht
          obtain ⟨g3, o3, ea3, f0⟩ := HR1.out.src.at (k := k) (by rw [ofN_len]; exact hk2)
          subst ea3
          rw [ofN_at] at f0
          obtain ⟨x, hx⟩ : ∃ x, x = (lvN u)[k] := ⟨_, rfl⟩
          rw [← hx] at f0
          have Hx : Hid (x = (lvN u)[k]) := hx
          have hxl : x < i := by rw [hx, ← Hul.out]; exact lvN_lt hk2
          have hni : (i : Int) < (n : Int) := hlti
          have hkn : (k : Int) < (n : Int) := by omega
          have hmC := fun W => rmeetC t s W
          clear ht hx hut
          have k0 : ∀ y : Kin wr, y.val.cell? ⟨g, off + i * 2, none⟩ = some (.int .u16 (s.1 : Int)) := fun y => cell_on1 y.is c0
          have k1 : ∀ y : Kin wr, y.val.cell? ⟨g, off + i * 2 + 1, none⟩ = some (.int .u16 (s.2 : Int)) := fun y => cell_on1 y.is c1
          have k2 : ∀ y : Kin wr, y.val.cell? ⟨g, off + k * 2, none⟩ = some (.int .u16 (t.1 : Int)) := fun y => cell_on1 y.is d0
          have k3 : ∀ y : Kin wr, y.val.cell? ⟨g, off + k * 2 + 1, none⟩ = some (.int .u16 (t.2 : Int)) := fun y => cell_on1 y.is d1
          have k4 : ∀ y : Kin wr, y.val.cell? ⟨g3, o3 + k, none⟩ = some (.int .i64 (x : Int)) := fun y => cell_on1 y.is f0
          have kne : Nonempty (Kin wr) := ⟨⟨_, Below.refl _ _⟩⟩
          clear c0 c1 d0 d1 f0
          by_cases hxL : x = L
          · subst hxL
            have hxx : ((x : Int) == (x : Int)) = true := by simp
            go_upto_region 9 with (fail)
            refine wp_region_kin wr (Below.refl _ _) (by kernel_rfl) (by kernel_rfl) ?_
            repeat (go_big_quiet_step (first | (go_at_call 55; exact kin_call (hmC _))))
            refine wpQuiet_nil ?_
            rintro wq ⟨⟨xq, hxq⟩, hyq⟩
            have hq : Below wr.heap.size wr wq := by rw [hyq]; exact hxq
            have HR2 : Hid (RowI wq w.heap.size (.slice (some ⟨g3, o3, none⟩) i c3) (ofN (lvN u))) := HR1.out.on hq
            have HB2 : Hid (Below w.heap.size w wq) := bel_of HB1.out hq HB1.out.size
            clear hyq hxq xq kne k0 k1 k2 k3 k4 hq hmC HR1 HB1
            cases hmt : mt t s with
            | true =>
              have HF2 : Hid (∀ m, m < x + 1 → fre (lvs [] u) s m = false) := fun m hm => by
                by_cases e : m = x
                · rw [e]; exact fre_hit hk1 hk2 Hx.out.symm (by rw [← Ht.out]; exact hmt)
                · exact HF.out m (by omega)
              clear hmt
              go_wp2_with (fail)
              go_roundw
              case rel => exact ⟨x + 1, 0, by omega, Nat.zero_le _, by go_num, by go_num, HF2.out, (fun j _ _ hj => by omega), HR2.out, HB2.out⟩
              case measure =>
                have := mes_down hxl hltk
                simp [intOf] at this ⊢
                omega
            | false =>
              have HM2 : Hid (∀ j (h1 : j < u.length) (h2 : j < (lvN u).length), j < k + 1 → (lvN u)[j] = x → mt u[j] s = false) := fun j h1 h2 hj he => by
                by_cases e : j = k
                · subst e; rw [← Ht.out]; exact hmt
                · exact HM.out j h1 h2 (by omega) he
              clear hmt
              go_wp2_with (fail)
              go_roundw
              case rel => exact ⟨x, k + 1, by omega, by omega, rfl, by go_num, HF.out, HM2.out, HR2.out, HB2.out⟩
              case measure =>
                have := mes_next hL hltk
                simp [intOf] at this ⊢
                omega
          · have hxx : ((x : Int) == (L : Int)) = false := by simp; omega
            have HM2 : Hid (∀ j (h1 : j < u.length) (h2 : j < (lvN u).length), j < k + 1 → (lvN u)[j] = L → mt u[j] s = false) := fun j h1 h2 hj he => by
              by_cases e : j = k
              · subst e; exact absurd (Hx.out.trans he) hxL
              · exact HM.out j h1 h2 (by omega) he
            clear hxL hmC k0 k1 k2 k3
            go_upto_region 9 with (fail)
            refine wp_region_kin wr (Below.refl _ _) (by kernel_rfl) (by kernel_rfl) ?_
            repeat (go_big_quiet_step (fail))
            refine wpQuiet_nil ?_
            rintro wq ⟨⟨xq, hxq⟩, hyq⟩
            have hq : Below wr.heap.size wr wq := by rw [hyq]; exact hxq
            have HR2 : Hid (RowI wq w.heap.size (.slice (some ⟨g3, o3, none⟩) i c3) (ofN (lvN u))) := HR1.out.on hq
            have HB2 : Hid (Below w.heap.size w wq) := bel_of HB1.out hq HB1.out.size
            clear hyq hxq xq kne k4 hq HR1 HB1
            go_wp2_with (fail)
            go_roundw
            case rel => exact ⟨L, k + 1, by omega, by omega, rfl, by go_num, HF.out, HM2.out, HR2.out, HB2.out⟩
            case measure =>
              have := mes_next hL hltk
              simp [intOf] at this ⊢
              omega
        · obtain rfl : k = i := by omega
          have hni : ¬ (k : Int) < (k : Int) := by omega
          have Hlv : Hid (L = lev (lvs [] u) s) := lev_tried HF.out (fun j h1 h2 he => HM.out j h1 h2 (by have := Hul.out; omega) he)
          obtain ⟨W1, hW1⟩ : ∃ W1, W1 = wr.alloc (.cells #[.int .i64 (L : Int)] 3) := ⟨_, rfl⟩
          have hc1 : Hid (W1.cell? ⟨wr.heap.size, 0, none⟩ = some (.int .i64 (L : Int))) := by show _ = _; rw [hW1]; exact blk_cell (blk_new wr _) rfl
          have HR5 : Hid (RowI W1 w.heap.size (.slice a3 k c3) (ofN (lvN u))) := by show RowI _ _ _ _; rw [hW1]; exact HR1.out.alloc _
          have HB5 : Hid (Below w.heap.size w W1) := by show Below _ _ _; rw [hW1]; exact HB1.out.alloc HB1.out.size _
          have Hlen : Hid ((ofN (lvN u)).length + 1 ≤ 4294967296) := by show _ ≤ _; rw [ofN_len, lvN_len]; have := Hul.out; omega
          clear HR1 HB1 HF HM
          subst hW1
          go_wp2_with (at_builtin; refine wpList_appendI rfl (.tmp 37) (.tmp 39) rfl w.heap.size _ (ofN (lvN u)) rfl HR5.out _ _ rfl hc1.out HB5.out.size Hlen.out ?_; intro v6 w6 hr6 hg6)
          have HB6 : Hid (Below w.heap.size w w6) := bel_appendI HB5.out HR5.out hg6 HB5.out.size (Nat.le_refl _)
          have HR6 : Hid (RowI w6 w.heap.size v6 (ofN (lvN (l.take (k + 1))))) := by
            show RowI _ _ _ _
            rw [Hnx.out, ← Hlv.out]
            have e : ofN (lvN u ++ [L]) = ofN (lvN u) ++ [(L : Int)] := by simp [ofN]
            rw [e]; exact hr6
          clear hr6 hg6 hc1 HR5 HB5
          go_roundw
          case rel => exact ⟨k + 1, _, by omega, rfl, by go_num, HR6.out, HB6.out⟩
          case measure => simp [intOf]; omega
    · obtain rfl : i = n := by omega
      have hni : ¬ (i : Int) < (i : Int) := by omega
      have HR2 : Hid (RowI wr w.heap.size v3 (ofN (lvN l))) := by have := HR.out; rwa [Hn.out, List.take_length] at this
      go_wp2
      go_ret
      exact ⟨_, rfl, HR2.out, HB.out⟩
end Go.Proofs.YtcjpjofoddpfhaaGreat
