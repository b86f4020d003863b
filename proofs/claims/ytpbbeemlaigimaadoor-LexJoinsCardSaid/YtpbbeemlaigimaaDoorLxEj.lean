/-
  LexJoins, walked: two texts, one behind the other. Written by tools/mkLxLj.py.
-/
import Derived.Test.YtpbbeemlaigimaaDoorLxEe
import Derived.Test.YtpbbeemlaigimaaDoorLxPlJ
namespace Go.Proofs.YtpbbeemlaigimaaDoor
open Go.RowKit
set_option linter.unusedVariables false
set_option linter.unusedSimpArgs false

theorem allAny (s : ByteArray) (W : World) (hs : s.size ≤ 16777216) (hg : Hnd W) : Calls Tryd.prog 10 #[.string s] W fun e w' => ∃ v' ev : Value, e = .returned (.tuple #[v', ev]) ∧ Below W.heap.size W w' := by
  by_cases he : (lexT s).2.e = 0
  · exact (allOk s W hs hg he).mono fun e w' ⟨v', h1, _, h2⟩ => ⟨v', _, h1, h2⟩
  · exact (allBad s W hs hg he).mono fun e w' ⟨v', F, h1, _, _, _, _, h2⟩ => ⟨v', _, h1, h2⟩
theorem lex_all (s : ByteArray) (h : s.size ≤ 65536) : lexT s = allT s 1 0 := by unfold lexT; rw [if_neg (by omega)]
theorem cnt_le (s : ByteArray) : ∀ (n i : Nat), s.size - i = n → cnt10 s i ≤ s.size - i
  | 0, i, h => by rw [cnt10_end (by omega)]; exact Nat.zero_le _
  | n + 1, i, h => by
    have := cnt_le s n (i + 1) (by omega)
    rw [cnt10_go (by omega)]
    split <;> omega
theorem cnt_at (a x : ByteArray) (hx : x = a ++ ⟨#[10]⟩) : (∀ i, i < a.size → cnt10 x i = (if bt a i = 10 then 1 else 0) + cnt10 x (i + 1)) ∧ cnt10 x a.size = 1 ∧ cnt10 x 0 ≤ a.size + 1 := by
  have hz : x.size = a.size + 1 := by rw [hx, ByteArray.size_append]; rfl
  refine ⟨fun i hi => ?_, ?_, ?_⟩
  · rw [cnt10_go (by omega), show bt x i = bt a i by rw [hx]; exact bt_left _ _ _ hi]
  · rw [cnt10_go (by omega), cnt10_end (by omega)]
    have : bt x a.size = 10 := by
      rw [hx]
      have := bt_right a ⟨#[10]⟩ 0 (by decide)
      rw [Nat.add_zero] at this
      rw [this]; rfl
    rw [if_pos this]
  · have := cnt_le x _ 0 rfl; omega
theorem addB (a b c : ByteArray) (hc : c = a ++ b) (h : a.size + b.size ≤ 1000000) (w : World) : Sem.run Tryd.prog (Op.stringOp .add a b) w = .ok (.string c) w := by
  rw [hc]; exact run_string_add w a b (by omega) (by omega)
set_option maxRecDepth 20000 in
set_option maxHeartbeats 8000000 in
theorem lexJoins_walk (a b : ByteArray) (wa : a.size ≤ maxLen) (wb : b.size ≤ maxLen) (w : World) (hg : Hnd w) (hpw : Pw w) :
    Calls Tryd.prog 6 #[.string a, .string b] w fun e w' => e = .returned (.bool true) ∧ Below w.heap.size w w' := by
  obtain ⟨za, hza⟩ : ∃ z, z = a.size := ⟨_, rfl⟩
  have hlena := lenS a za hza
  obtain ⟨zb, hzb⟩ : ∃ z, z = b.size := ⟨_, rfl⟩
  have hlenb := lenS b zb hzb
  by_cases h1 : 16777216 < za
  · have h1' : (16777216 : Int) < (za : Int) := by omega
    clear hza hzb wa wb hg hpw
    go_enter Tryd.func6, Tryd.ntmps6
    go_wp2_with (fail)
    go_ret
    exact ⟨rfl, Below.refl _ _⟩
  · have h1' : ¬ (16777216 : Int) < (za : Int) := by omega
    by_cases h2 : 16777216 < zb
    · have h2' : (16777216 : Int) < (zb : Int) := by omega
      clear hza hzb wa wb hg hpw
      go_enter Tryd.func6, Tryd.ntmps6
      go_wp2_with (fail)
      go_ret
      exact ⟨rfl, Below.refl _ _⟩
    · have h2' : ¬ (16777216 : Int) < (zb : Int) := by omega
      by_cases h3 : 65536 ≤ za + zb
      · have h3' : (65536 : Int) ≤ (za : Int) + (zb : Int) := by omega
        clear hza hzb wa wb hg hpw
        go_enter Tryd.func6, Tryd.ntmps6
        go_wp2_with (fail)
        go_ret
        exact ⟨rfl, Below.refl _ _⟩
      · have h3' : ¬ (65536 : Int) ≤ (za : Int) + (zb : Int) := by omega
        have HG : Hid (Hnd w) := hg
        have HP : Hid (Pw w) := hpw
        obtain ⟨x, hxa⟩ : ∃ x, x = a ++ ⟨#[10]⟩ := ⟨_, rfl⟩
        obtain ⟨y, hyx⟩ : ∃ y, y = x ++ b := ⟨_, rfl⟩
        have hxz : x.size = a.size + 1 := by rw [hxa, ByteArray.size_append]; rfl
        have hyz : y.size = x.size + b.size := by rw [hyx, ByteArray.size_append]
        have hx6 : x.size ≤ 65536 := by omega
        have hy6 : y.size ≤ 65536 := by omega
        have hlb6 : b.size ≤ 65536 := by omega
        have hadd := addB a ⟨#[10]⟩ x hxa (by rw [show (⟨#[10]⟩ : ByteArray).size = 1 from rfl]; omega)
        have hadd2 := addB x b y hyx (by omega)
        have hx0 : 0 < x.size := by omega
        have hxl : bt x (x.size - 1) = 10 := by
          rw [hxz, Nat.add_sub_cancel, hxa]
          have := bt_right a ⟨#[10]⟩ 0 (by decide)
          rw [Nat.add_zero] at this
          rw [this]; rfl
        have hlx := lex_all x hx6
        have hly := lex_all y hy6
        have hlb := lex_all b hlb6
        have hsz := hxz
        rw [hyx] at hly
        rw [← hyx] at hly
        have hly' : lexT y = allT (x ++ b) 1 0 := by rw [hly, hyx]
        replace hly := hly'
        clear hly' hg hpw wa wb
        by_cases hxe : (lexT x).2.e = 0
        · by_cases hbe : (lexT b).2.e = 0
          · have hL := join_ok x b hx0 hxl (by rw [← hlx]; exact hxe)
            rw [← hlx, ← hly, ← hlb] at hL
            have hye : (lexT y).2.e = 0 := by rw [hL]; show (shW _ _).e = 0; rw [shW_e]; exact hbe
            have hyl : (lexT y).1 = (lexT x).1 ++ (lexT b).1.map (shT (cnt10 x 0)) := by rw [hL]
            have hY := fun W (h : Hnd W) => allOk y W (by omega) h hye
            have hX := fun W (h : Hnd W) => allOk x W (by omega) h hxe
            have hBB := fun W (h : Hnd W) => allOk b W (by omega) h hbe
            rw [hyl] at hY
            have hokx := (lexT_ok x hx6).2.1
            have hokb := (lexT_ok b (by omega)).2.1
            have hokl := (lexT_ok b (by omega)).1
            generalize (lexT x).1 = Lx at *
            generalize (lexT b).1 = Lb at *
            have HCN := cnt_at a x hxa
            have HC0 : Hid (∀ i, i < a.size → cnt10 x i = (if bt a i = 10 then 1 else 0) + cnt10 x (i + 1)) := HCN.1
            have HC1 : Hid (cnt10 x a.size = 1) := HCN.2.1
            have HC2 : Hid (cnt10 x 0 ≤ a.size + 1) := HCN.2.2
            obtain ⟨nx, hnx⟩ : ∃ nx, nx = Lx.length := ⟨_, rfl⟩
            have HNX : Hid (nx = Lx.length) := hnx
            obtain ⟨nb, hnb⟩ : ∃ nb, nb = Lb.length := ⟨_, rfl⟩
            have HNB : Hid (nb = Lb.length) := hnb
            obtain ⟨cn, hcn⟩ : ∃ cn, cn = cnt10 x 0 := ⟨_, rfl⟩
            have HCn : Hid (cn = cnt10 x 0) := hcn
            rw [← hcn] at hY
            have HOK : Hid (∀ t ∈ Lb, OkT 65536 t ∧ t.l ≤ 65536) := hokl
            rw [← hnx] at hokx
            rw [← hnb] at hokb
            have hnx9 : (nx : Int) ≤ 70000 := by omega
            have hnb9 : (nb : Int) ≤ 70000 := by omega
            have hza9 : (za : Int) ≤ 65536 := by omega
            have HZA : Hid (za = a.size) := hza
            have hcn9 : (cn : Int) ≤ 70000 := by have := HC2.out; have := HCn.out; omega
            clear hxe hL hlx hly hx0 hxl hsz hlb6 hbe hye hyl hnx hnb hcn hokl HCN hza hzb hxa hyx hxz hyz hx6 hy6 hlb
            go_enter Tryd.func6, Tryd.ntmps6
            go_wp2_with (fail)
            refine (hX _ HG.out).mono ?_
            rintro e w1 ⟨u1, rfl, hr1, hb1⟩
            obtain ⟨ad1, cap1, hu1, _, hat1⟩ := hr1.form
            have HG1 : Hid (Hnd w1) := HG.out.on hb1
            have HB1 : Hid (Below w.heap.size w w1) := hb1
            have HR1 : Hid (RowT w1 0 u1 Lx) := hr1.base (Nat.zero_le _)
            have hu1' : u1 = .slice ad1 nx cap1 := by rw [hu1, HNX.out]
            clear hr1 hb1 hX hat1 hu1
            subst hu1'
            go_wp2_with (fail)
            refine (hBB _ HG1.out).mono ?_
            rintro e w2 ⟨u2, rfl, hr2, hb2⟩
            obtain ⟨ad2, cap2, hu2, _, hat2⟩ := hr2.form
            have HG2 : Hid (Hnd w2) := HG1.out.on hb2
            have HB2 : Hid (Below w.heap.size w w2) := HB1.out.trans (hb2.mono HB1.out.size)
            have HR2 : Hid (RowT w2 0 u2 Lb) := hr2.base (Nat.zero_le _)
            have HR12 : Hid (RowT w2 0 (.slice ad1 nx cap1) Lx) := HR1.out.on hb2
            have hu2' : u2 = .slice ad2 nb cap2 := by rw [hu2, HNB.out]
            clear hr2 hb2 hBB hat2 hu2
            subst hu2'
            go_wp2_with (fail)
            refine (hY _ HG2.out).mono ?_
            rintro e w3 ⟨u3, rfl, hr3, hb3⟩
            obtain ⟨ad3, cap3, hu3, _, _⟩ := hr3.form
            have HG3 : Hid (Hnd w3) := HG2.out.on hb3
            have HB3 : Hid (Below w.heap.size w w3) := HB2.out.trans (hb3.mono HB2.out.size)
            have hF3 := (hr3.base (Nat.zero_le _)).form
            have hF1 := (HR12.out.on hb3).form
            have hF2 := (HR2.out.on hb3).form
            have hu3' : u3 = .slice ad3 (nx + nb) cap3 := by rw [hu3, List.length_append, List.length_map, ← HNX.out, ← HNB.out]
            subst hu3'
            have HA3 : Hid (∀ k (hk : k < nx + nb), ∃ g, ad3 = some ⟨g, 0, none⟩ ∧ ∀ j, j < 5 → w3.cell? ⟨g, k * 5 + j, none⟩ = (encT ((Lx ++ Lb.map (shT cn))[k]'(by rw [List.length_append, List.length_map, ← HNX.out, ← HNB.out]; exact hk)))[j]?) := fun k hk => by
              obtain ⟨ad, cap, hv, _, hat⟩ := hF3
              have hk' : k < (Lx ++ Lb.map (shT cn)).length := by rw [List.length_append, List.length_map, ← HNX.out, ← HNB.out]; exact hk
              obtain ⟨g, hg, _, _, cc⟩ := hat (by omega)
              simp only [Value.slice.injEq] at hv
              exact ⟨g, by rw [hv.1, hg], fun j hj => cc k hk' j hj⟩
            have HA1 : Hid (∀ k (hk : k < nx), ∃ g, ad1 = some ⟨g, 0, none⟩ ∧ ∀ j, j < 5 → w3.cell? ⟨g, k * 5 + j, none⟩ = (encT (Lx[k]'(by rw [← HNX.out]; exact hk)))[j]?) := fun k hk => by
              obtain ⟨ad, cap, hv, _, hat⟩ := hF1
              have hk' : k < Lx.length := by rw [← HNX.out]; exact hk
              obtain ⟨g, hg, _, _, cc⟩ := hat (by omega)
              simp only [Value.slice.injEq] at hv
              exact ⟨g, by rw [hv.1, hg], fun j hj => cc k hk' j hj⟩
            have HA2 : Hid (∀ k (hk : k < nb), ∃ g, ad2 = some ⟨g, 0, none⟩ ∧ ∀ j, j < 5 → w3.cell? ⟨g, k * 5 + j, none⟩ = (encT (Lb[k]'(by rw [← HNB.out]; exact hk)))[j]?) := fun k hk => by
              obtain ⟨ad, cap, hv, _, hat⟩ := hF2
              have hk' : k < Lb.length := by rw [← HNB.out]; exact hk
              obtain ⟨g, hg, _, _, cc⟩ := hat (by omega)
              simp only [Value.slice.injEq] at hv
              exact ⟨g, by rw [hv.1, hg], fun j hj => cc k hk' j hj⟩
            clear hr3 hb3 hY hu3 hF1 hF2 hF3
            go_wp2_with (fail)
            go_loopw [12, 13] (fun lv iv wr => ∃ ln i : Nat, i ≤ za ∧ lv = .int .i64 (ln : Int) ∧ iv = .int .i64 (i : Int) ∧ Hid (ln + cnt10 x i = 1 + cn ∧ ln ≤ i + 1) ∧ wr = w3) (fun _ iv _ => za - (intOf iv).toNat)
            case atStart => exact ⟨1, 0, Nat.zero_le _, rfl, rfl, ⟨by rw [HCn.out], Nat.le_refl _⟩, rfl⟩
            case round =>
              obtain ⟨ln, i, hiz, rfl, rfl, HI, hwr⟩ := hrel
              have hwr' := hwr.symm
              clear hwr
              subst hwr'
              have hln9 : (ln : Int) ≤ 70000 := by have := HI.out.2; omega
              by_cases hlt : i < za
              · have hlt' : (i : Int) < (za : Int) := by omega
                have hia : i < a.size := by rw [← HZA.out]; exact hlt
                have hix := idxS a i hia
                have HC : Hid (cnt10 x i = (if bt a i = 10 then 1 else 0) + cnt10 x (i + 1)) := HC0.out i hia
                by_cases h10 : bt a i = 10
                · rw [h10] at hix
                  have HC' : Hid (cnt10 x i = 1 + cnt10 x (i + 1)) := by show _ = _; rw [HC.out, if_pos h10]
                  clear h10 HC hia
                  go_wp2_with (fail)
                  go_roundw
                  case rel => exact ⟨ln + 1, i + 1, by omega, by go_num, by go_num, ⟨by have := HC'.out; have := HI.out.1; omega, by have := HI.out.2; omega⟩, trivial⟩
                  case measure => simp [intOf]; omega
                · have h10' : ¬ ((bt a i : Nat) : Int) = 10 := by omega
                  have HC' : Hid (cnt10 x i = cnt10 x (i + 1)) := by show _ = _; rw [HC.out, if_neg h10, Nat.zero_add]
                  clear HC hia h10
                  have hb9 := bt_lt a i
                  generalize bt a i = ch at hix h10' hb9
                  have h10n : ¬ ch = 10 := by omega
                  have hbq : (ch == 10) = false := by simpa using h10n
                  have hbz : ((ch : Int) == 10) = false := by simpa using h10'
                  go_wp2_with (fail)
                  go_roundw
                  case rel => exact ⟨ln, i + 1, by omega, rfl, by go_num, ⟨by have := HC'.out; have := HI.out.1; omega, by have := HI.out.2; omega⟩, trivial⟩
                  case measure => simp [intOf]; omega
              · have hie : i = a.size := by rw [← HZA.out]; omega
                have hlc : ln = cn := by
                  have h1 := HI.out.1
                  rw [hie, HC1.out] at h1
                  omega
                subst hlc
                have hlt' : ¬ (i : Int) < (za : Int) := by omega
                clear hie HI HC0 HC1
                go_wp2_with (fail)
                go_loopw [14] (fun iv wr => ∃ k : Nat, k ≤ nx + nb ∧ iv = .int .i64 (k : Int) ∧ Hid (Below w3.heap.size w3 wr)) (fun iv _ => nx + nb - (intOf iv).toNat)
                case atStart => exact ⟨0, Nat.zero_le _, rfl, Below.refl _ _⟩
                case round =>
                  obtain ⟨k, hkn, rfl, HBr⟩ := hrel
                  by_cases hkl : k < nx + nb
                  · have hkl' : (k : Int) < (nx : Int) + (nb : Int) := by omega
                    have hk0 : (0 : Int) ≤ (k : Int) := by omega
                    obtain ⟨g3, hg3, cc3⟩ := HA3.out k hkl
                    subst hg3
                    by_cases hkx : k < nx
                    · obtain ⟨g1, hg1, cc1⟩ := HA1.out k hkx
                      subst hg1
                      have hkx' : (k : Int) < (nx : Int) := by omega
                      have hkL : k < Lx.length := by rw [← HNX.out]; exact hkx
                      have hee : (Lx ++ Lb.map (shT ln))[k]'(by rw [List.length_append]; omega) = Lx[k]'hkL := List.getElem_append_left hkL
                      obtain ⟨p, hp⟩ : ∃ p, p = Lx[k]'hkL := ⟨_, rfl⟩
                      rw [hee, ← hp] at cc3
                      rw [← hp] at cc1
                      have y0 : wr.cell? ⟨g3, k * 5, none⟩ = some (.int .i64 (p.k : Int)) := cell_on1 HBr.out (cc3 0 (by decide))
                      have x0 : wr.cell? ⟨g1, k * 5, none⟩ = some (.int .i64 (p.k : Int)) := cell_on1 HBr.out (cc1 0 (by decide))
                      have y1 : wr.cell? ⟨g3, k * 5 + 1, none⟩ = some (.string p.t) := cell_on1 HBr.out (cc3 1 (by decide))
                      have x1 : wr.cell? ⟨g1, k * 5 + 1, none⟩ = some (.string p.t) := cell_on1 HBr.out (cc1 1 (by decide))
                      have y2 : wr.cell? ⟨g3, k * 5 + 2, none⟩ = some (.int .u32 (p.v : Int)) := cell_on1 HBr.out (cc3 2 (by decide))
                      have x2 : wr.cell? ⟨g1, k * 5 + 2, none⟩ = some (.int .u32 (p.v : Int)) := cell_on1 HBr.out (cc1 2 (by decide))
                      have y3 : wr.cell? ⟨g3, k * 5 + 3, none⟩ = some (.int .i64 (p.l : Int)) := cell_on1 HBr.out (cc3 3 (by decide))
                      have x3 : wr.cell? ⟨g1, k * 5 + 3, none⟩ = some (.int .i64 (p.l : Int)) := cell_on1 HBr.out (cc1 3 (by decide))
                      have y4 : wr.cell? ⟨g3, k * 5 + 4, none⟩ = some (.int .i64 (p.c : Int)) := cell_on1 HBr.out (cc3 4 (by decide))
                      have x4 : wr.cell? ⟨g1, k * 5 + 4, none⟩ = some (.int .i64 (p.c : Int)) := cell_on1 HBr.out (cc1 4 (by decide))
                      have hne := neqT p
                      clear hp hee cc3 cc1 hkL
                      go_upto_region 24 with (fail)
                      have T5 : (wr.alloc (.cells #[.int .i64 (p.k : Int), .string p.t, .int .u32 (p.v : Int), .int .i64 (p.l : Int), .int .i64 (p.c : Int)] 38)).heap[wr.heap.size]? = some (.cells #[.int .i64 (p.k : Int), .string p.t, .int .u32 (p.v : Int), .int .i64 (p.l : Int), .int .i64 (p.c : Int)] 38) := blk_new wr _
                      obtain ⟨t0, t1, t2, t3, t4⟩ := blk5 T5
                      have hbA : Below wr.heap.size wr (wr.alloc (.cells #[.int .i64 (p.k : Int), .string p.t, .int .u32 (p.v : Int), .int .i64 (p.l : Int), .int .i64 (p.c : Int)] 38)) := (Below.refl _ _).alloc (Nat.le_refl _) _
                      have HBA : Hid (Below wr.heap.size wr (wr.alloc (.cells #[.int .i64 (p.k : Int), .string p.t, .int .u32 (p.v : Int), .int .i64 (p.l : Int), .int .i64 (p.c : Int)] 38))) := hbA
                      have x0 := cell_on1 hbA x0
                      have x1 := cell_on1 hbA x1
                      have x2 := cell_on1 hbA x2
                      have x3 := cell_on1 hbA x3
                      have x4 := cell_on1 hbA x4
                      clear T5 hbA
                      generalize wr.alloc (.cells #[.int .i64 (p.k : Int), .string p.t, .int .u32 (p.v : Int), .int .i64 (p.l : Int), .int .i64 (p.c : Int)] 38) = w5 at *
                      have kne : Nonempty (Kin w5) := ⟨⟨_, Below.refl _ _⟩⟩
                      have kt0 : ∀ z : Kin w5, z.val.cell? ⟨wr.heap.size, 0, none⟩ = some (.int .i64 (p.k : Int)) := fun z => cell_on1 z.is (t0)
                      have kt1 : ∀ z : Kin w5, z.val.cell? ⟨wr.heap.size, 1, none⟩ = some (.string p.t) := fun z => cell_on1 z.is (t1)
                      have kt2 : ∀ z : Kin w5, z.val.cell? ⟨wr.heap.size, 2, none⟩ = some (.int .u32 (p.v : Int)) := fun z => cell_on1 z.is (t2)
                      have kt3 : ∀ z : Kin w5, z.val.cell? ⟨wr.heap.size, 3, none⟩ = some (.int .i64 (p.l : Int)) := fun z => cell_on1 z.is (t3)
                      have kt4 : ∀ z : Kin w5, z.val.cell? ⟨wr.heap.size, 4, none⟩ = some (.int .i64 (p.c : Int)) := fun z => cell_on1 z.is (t4)
                      have kx0 : ∀ z : Kin w5, z.val.cell? ⟨g1, k * 5, none⟩ = some (.int .i64 (p.k : Int)) := fun z => cell_on1 z.is (x0)
                      have kx1 : ∀ z : Kin w5, z.val.cell? ⟨g1, k * 5 + 1, none⟩ = some (.string p.t) := fun z => cell_on1 z.is (x1)
                      have kx2 : ∀ z : Kin w5, z.val.cell? ⟨g1, k * 5 + 2, none⟩ = some (.int .u32 (p.v : Int)) := fun z => cell_on1 z.is (x2)
                      have kx3 : ∀ z : Kin w5, z.val.cell? ⟨g1, k * 5 + 3, none⟩ = some (.int .i64 (p.l : Int)) := fun z => cell_on1 z.is (x3)
                      have kx4 : ∀ z : Kin w5, z.val.cell? ⟨g1, k * 5 + 4, none⟩ = some (.int .i64 (p.c : Int)) := fun z => cell_on1 z.is (x4)
                      refine wp_region_kin w5 (Below.refl _ _) (by kernel_rfl) (by kernel_rfl) ?_
                      repeat (go_big_quiet_step (fail))
                      refine wpQuiet_nil ?_
                      rintro wq ⟨⟨xq, hxq⟩, hyq⟩
                      have hq : Below w5.heap.size w5 wq := by rw [hyq]; exact hxq
                      have HQ : Hid (Below w5.heap.size w5 wq) := hq
                      clear hyq hxq xq hq kne kt0 kt1 kt2 kt3 kt4 kx0 kx1 kx2 kx3 kx4
                      clear t0 t1 t2 t3 t4 x0 x1 x2 x3 x4 y0 y1 y2 y3 y4
                      go_wp2_with (fail)
                      go_roundw
                      case rel => exact ⟨k + 1, by omega, by go_num, HBr.out.trans ((HBA.out.trans (HQ.out.mono HBA.out.size)).mono HBr.out.size)⟩
                      case measure => simp [intOf]; omega
                    · obtain ⟨d, hd⟩ : ∃ d, d = k - nx := ⟨_, rfl⟩
                      have hdn : d < nb := by omega
                      obtain ⟨g2, hg2, cc2⟩ := HA2.out d hdn
                      subst hg2
                      have hkx' : ¬ (k : Int) < (nx : Int) := by omega
                      have hdL : d < Lb.length := by rw [← HNB.out]; exact hdn
                      have hee : (Lx ++ Lb.map (shT ln))[k]'(by rw [List.length_append, List.length_map]; have := HNX.out; omega) = shT ln (Lb[d]'hdL) := by
                        rw [List.getElem_append_right (by rw [← HNX.out]; omega), List.getElem_map]
                        congr 2
                        rw [← HNX.out, hd]
                      have hokp := (HOK.out (Lb[d]'hdL) (List.getElem_mem hdL)).2
                      obtain ⟨p, hp⟩ : ∃ p, p = Lb[d]'hdL := ⟨_, rfl⟩
                      rw [hee, ← hp] at cc3
                      rw [← hp] at cc2 hokp
                      have hpl : (p.l : Int) ≤ 65536 := by omega
                      have edk : (k : Int) - (nx : Int) = (d : Int) := by omega
                      have hd0 : (0 : Int) ≤ (d : Int) := by omega
                      have hdn' : (d : Int) < (nb : Int) := by omega
                      have y0 : wr.cell? ⟨g3, k * 5, none⟩ = some (.int .i64 (p.k : Int)) := cell_on1 HBr.out (cc3 0 (by decide))
                      have x0 : wr.cell? ⟨g2, d * 5, none⟩ = some (.int .i64 (p.k : Int)) := cell_on1 HBr.out (cc2 0 (by decide))
                      have y1 : wr.cell? ⟨g3, k * 5 + 1, none⟩ = some (.string p.t) := cell_on1 HBr.out (cc3 1 (by decide))
                      have x1 : wr.cell? ⟨g2, d * 5 + 1, none⟩ = some (.string p.t) := cell_on1 HBr.out (cc2 1 (by decide))
                      have y2 : wr.cell? ⟨g3, k * 5 + 2, none⟩ = some (.int .u32 (p.v : Int)) := cell_on1 HBr.out (cc3 2 (by decide))
                      have x2 : wr.cell? ⟨g2, d * 5 + 2, none⟩ = some (.int .u32 (p.v : Int)) := cell_on1 HBr.out (cc2 2 (by decide))
                      have y3 : wr.cell? ⟨g3, k * 5 + 3, none⟩ = some (.int .i64 ((p.l : Int) + (ln : Int))) := cell_on1 HBr.out (cc3 3 (by decide))
                      have x3 : wr.cell? ⟨g2, d * 5 + 3, none⟩ = some (.int .i64 (p.l : Int)) := cell_on1 HBr.out (cc2 3 (by decide))
                      have y4 : wr.cell? ⟨g3, k * 5 + 4, none⟩ = some (.int .i64 (p.c : Int)) := cell_on1 HBr.out (cc3 4 (by decide))
                      have x4 : wr.cell? ⟨g2, d * 5 + 4, none⟩ = some (.int .i64 (p.c : Int)) := cell_on1 HBr.out (cc2 4 (by decide))
                      have hne := neqT p
                      have esub : (p.l : Int) + (ln : Int) - (ln : Int) = (p.l : Int) := by omega
                      clear hp hee cc3 cc2 hdL hokp hd
                      go_upto_region 27 with (fail)
                      have T5 : (wr.alloc (.cells #[.int .i64 (p.k : Int), .string p.t, .int .u32 (p.v : Int), .int .i64 (p.l : Int), .int .i64 (p.c : Int)] 38)).heap[wr.heap.size]? = some (.cells #[.int .i64 (p.k : Int), .string p.t, .int .u32 (p.v : Int), .int .i64 (p.l : Int), .int .i64 (p.c : Int)] 38) := blk_new wr _
                      obtain ⟨t0, t1, t2, t3, t4⟩ := blk5 T5
                      have hbA : Below wr.heap.size wr (wr.alloc (.cells #[.int .i64 (p.k : Int), .string p.t, .int .u32 (p.v : Int), .int .i64 (p.l : Int), .int .i64 (p.c : Int)] 38)) := (Below.refl _ _).alloc (Nat.le_refl _) _
                      have HBA : Hid (Below wr.heap.size wr (wr.alloc (.cells #[.int .i64 (p.k : Int), .string p.t, .int .u32 (p.v : Int), .int .i64 (p.l : Int), .int .i64 (p.c : Int)] 38))) := hbA
                      have x0 := cell_on1 hbA x0
                      have x1 := cell_on1 hbA x1
                      have x2 := cell_on1 hbA x2
                      have x3 := cell_on1 hbA x3
                      have x4 := cell_on1 hbA x4
                      clear T5 hbA
                      generalize wr.alloc (.cells #[.int .i64 (p.k : Int), .string p.t, .int .u32 (p.v : Int), .int .i64 (p.l : Int), .int .i64 (p.c : Int)] 38) = w5 at *
                      have kne : Nonempty (Kin w5) := ⟨⟨_, Below.refl _ _⟩⟩
                      have kt0 : ∀ z : Kin w5, z.val.cell? ⟨wr.heap.size, 0, none⟩ = some (.int .i64 (p.k : Int)) := fun z => cell_on1 z.is (t0)
                      have kt1 : ∀ z : Kin w5, z.val.cell? ⟨wr.heap.size, 1, none⟩ = some (.string p.t) := fun z => cell_on1 z.is (t1)
                      have kt2 : ∀ z : Kin w5, z.val.cell? ⟨wr.heap.size, 2, none⟩ = some (.int .u32 (p.v : Int)) := fun z => cell_on1 z.is (t2)
                      have kt3 : ∀ z : Kin w5, z.val.cell? ⟨wr.heap.size, 3, none⟩ = some (.int .i64 (p.l : Int)) := fun z => cell_on1 z.is (t3)
                      have kt4 : ∀ z : Kin w5, z.val.cell? ⟨wr.heap.size, 4, none⟩ = some (.int .i64 (p.c : Int)) := fun z => cell_on1 z.is (t4)
                      have kx0 : ∀ z : Kin w5, z.val.cell? ⟨g2, d * 5, none⟩ = some (.int .i64 (p.k : Int)) := fun z => cell_on1 z.is (x0)
                      have kx1 : ∀ z : Kin w5, z.val.cell? ⟨g2, d * 5 + 1, none⟩ = some (.string p.t) := fun z => cell_on1 z.is (x1)
                      have kx2 : ∀ z : Kin w5, z.val.cell? ⟨g2, d * 5 + 2, none⟩ = some (.int .u32 (p.v : Int)) := fun z => cell_on1 z.is (x2)
                      have kx3 : ∀ z : Kin w5, z.val.cell? ⟨g2, d * 5 + 3, none⟩ = some (.int .i64 (p.l : Int)) := fun z => cell_on1 z.is (x3)
                      have kx4 : ∀ z : Kin w5, z.val.cell? ⟨g2, d * 5 + 4, none⟩ = some (.int .i64 (p.c : Int)) := fun z => cell_on1 z.is (x4)
                      refine wp_region_kin w5 (Below.refl _ _) (by kernel_rfl) (by kernel_rfl) ?_
                      repeat (go_big_quiet_step (fail))
                      refine wpQuiet_nil ?_
                      rintro wq ⟨⟨xq, hxq⟩, hyq⟩
                      have hq : Below w5.heap.size w5 wq := by rw [hyq]; exact hxq
                      have HQ : Hid (Below w5.heap.size w5 wq) := hq
                      clear hyq hxq xq hq kne kt0 kt1 kt2 kt3 kt4 kx0 kx1 kx2 kx3 kx4
                      clear t0 t1 t2 t3 t4 x0 x1 x2 x3 x4 y0 y1 y2 y3 y4
                      go_wp2_with (fail)
                      go_roundw
                      case rel => exact ⟨k + 1, by omega, by go_num, HBr.out.trans ((HBA.out.trans (HQ.out.mono HBA.out.size)).mono HBr.out.size)⟩
                      case measure => simp [intOf]; omega
                  · have hkl' : ¬ (k : Int) < (nx : Int) + (nb : Int) := by omega
                    go_wp2_with (fail)
                    refine (awakeL allOk allBad _ (HG3.out.on HBr.out)).mono ?_
                    rintro e w4 ⟨rfl, hb4⟩
                    have HB4 : Hid (Below w.heap.size w w4) := (HB3.out.trans (HBr.out.mono HB3.out.size)).trans (hb4.mono (Nat.le_trans HB3.out.size HBr.out.size))
                    clear hb4
                    go_wp2_with (fail)
                    go_ret
                    exact ⟨rfl, HB4.out⟩
          · have hL := join_ok x b hx0 hxl (by rw [← hlx]; exact hxe)
            rw [← hlx, ← hly, ← hlb] at hL
            have hbe' : (lexT y).2.e ≠ 0 := by rw [hL]; show (shW _ _).e ≠ 0; rw [shW_e]; exact hbe
            have hY := fun W (h : Hnd W) => allBad y W (by omega) h hbe'
            have hX := fun W (h : Hnd W) => allOk x W (by omega) h hxe
            have hBB := fun W (h : Hnd W) => allBad b W (by omega) h hbe
            generalize lexT x = LX at *
            obtain ⟨Lx, er⟩ := LX
            dsimp only at hX hxe
            obtain ⟨nx, hnx⟩ : ∃ nx, nx = Lx.length := ⟨_, rfl⟩
            have HNX : Hid (nx = Lx.length) := hnx
            clear hxe hL hlx hly hx0 hxl hsz hlb6 hbe hbe' hnx hza hzb hxa hyx hxz hyz hx6 hy6 hlb
            go_enter Tryd.func6, Tryd.ntmps6
            go_wp2_with (fail)
            refine (hX _ HG.out).mono ?_
            rintro e w1 ⟨u1, rfl, hr1, hb1⟩
            obtain ⟨ad1, cap1, hu1, _, hat1⟩ := hr1.form
            have HG1 : Hid (Hnd w1) := HG.out.on hb1
            have HB1 : Hid (Below w.heap.size w w1) := hb1
            have HR1 : Hid (RowT w1 0 u1 Lx) := hr1.base (Nat.zero_le _)
            have hu1' : u1 = .slice ad1 nx cap1 := by rw [hu1, HNX.out]
            clear hr1 hb1 hX hat1 hu1
            subst hu1'
            go_wp2_with (fail)
            refine (hBB _ HG1.out).mono ?_
            rintro e w2 ⟨u2, F2, rfl, _, _, _, _, hb2⟩
            have HG2 : Hid (Hnd w2) := HG1.out.on hb2
            have HB2 : Hid (Below w.heap.size w w2) := HB1.out.trans (hb2.mono HB1.out.size)
            clear hb2 hBB
            go_wp2_with (fail)
            refine (hY _ HG2.out).mono ?_
            rintro e w3 ⟨u3, F3, rfl, hr3, _, _, _, hb3⟩
            obtain ⟨ad3, cap3, hu3, _, _⟩ := hr3.form
            have hu30 : u3 = .slice ad3 0 cap3 := hu3
            have HG3 : Hid (Hnd w3) := HG2.out.on hb3
            have HB3 : Hid (Below w.heap.size w w3) := HB2.out.trans (hb3.mono HB2.out.size)
            clear hb3 hY hr3 hu3
            subst hu30
            go_wp2_with (fail)
            refine (awakeL allOk allBad _ HG3.out).mono ?_
            rintro e w4 ⟨rfl, hb4⟩
            have HB4 : Hid (Below w.heap.size w w4) := HB3.out.trans (hb4.mono HB3.out.size)
            clear hb4
            go_wp2_with (fail)
            go_ret
            exact ⟨by first | rfl | simp, HB4.out⟩
        · have hL := join_bad x b hx0 hxl (by rw [← hlx]; exact hxe)
          rw [← hlx, ← hly] at hL
          have hY := fun W (h : Hnd W) => allBad y W (by omega) h (by rw [hL]; exact hxe)
          have hX := fun W (h : Hnd W) => allBad x W (by omega) h hxe
          rw [hL] at hY
          have hE3 := okW_le (lexT_ok x hx6).2.2
          generalize lexT x = LX at *
          obtain ⟨Lx, er⟩ := LX
          dsimp only at hX hY hE3 hxe
          have HE3 : Hid (er.e ≤ 1000000 ∧ er.l ≤ 1000000 ∧ er.c ≤ 1000000) := hE3
          have hBB := fun W (h : Hnd W) => allAny b W (by omega) h
          clear hE3 hxe hL hlx hly hx0 hxl hsz hlb6 hza hzb hxa hyx hxz hyz hx6 hy6 hlb
          go_enter Tryd.func6, Tryd.ntmps6
          go_wp2_with (fail)
          refine (hX _ HG.out).mono ?_
          rintro e w1 ⟨u1, F1, rfl, hr1, hF1, _, _, hb1⟩
          have HG1 : Hid (Hnd w1) := HG.out.on hb1
          have HP1 : Hid (Pw w1) := HP.out.on hb1
          have HF1 : Hid (Flt w1 F1 (er.e : Int) (er.l : Int) (er.c : Int)) := hF1
          have HB1 : Hid (Below w.heap.size w w1) := hb1
          clear hr1 hF1 hb1 hX
          go_wp2_with (fail)
          refine (hBB _ HG1.out).mono ?_
          rintro e w2 ⟨u2, ev2, rfl, hb2⟩
          have HG2 : Hid (Hnd w2) := HG1.out.on hb2
          have HP2 : Hid (Pw w2) := HP1.out.on hb2
          have HF2 : Hid (Flt w2 F1 (er.e : Int) (er.l : Int) (er.c : Int)) := blk_on HF1.out hb2
          have HB2 : Hid (Below w.heap.size w w2) := HB1.out.trans (hb2.mono HB1.out.size)
          clear hb2 hBB
          go_wp2_with (fail)
          refine (hY _ HG2.out).mono ?_
          rintro e w3 ⟨u3, F3, rfl, hr3, hF3, _, _, hb3⟩
          obtain ⟨ad3, cap3, hu3, _, _⟩ := hr3.form
          have hu30 : u3 = .slice ad3 0 cap3 := hu3
          have HG3 : Hid (Hnd w3) := HG2.out.on hb3
          have HP3 : Hid (Pw w3) := HP2.out.on hb3
          have HF3 : Hid (Flt w3 F1 (er.e : Int) (er.l : Int) (er.c : Int) ∧ Flt w3 F3 (er.e : Int) (er.l : Int) (er.c : Int)) := ⟨blk_on HF2.out hb3, hF3⟩
          have HB3 : Hid (Below w.heap.size w w3) := HB2.out.trans (hb3.mono HB2.out.size)
          clear hb3 hY hr3 hF3 hu3
          subst hu30
          have mE := methEr
          go_wp2_with (fail)
          refine (awakeL allOk allBad _ HG3.out).mono ?_
          rintro e w4 ⟨rfl, hb4⟩
          have hE1 := errorC F3 er.e er.l er.c w4 HE3.out.1 HE3.out.2.1 HE3.out.2.2 (blk_on HF3.out.2 hb4) (HP3.out.on hb4)
          have HP4 : Hid (Pw w4) := HP3.out.on hb4
          have HF4 : Hid (Flt w4 F1 (er.e : Int) (er.l : Int) (er.c : Int)) := blk_on HF3.out.1 hb4
          have HB4 : Hid (Below w.heap.size w w4) := HB3.out.trans (hb4.mono HB3.out.size)
          clear hb4
          go_wp2_with (fail)
          refine hE1.mono ?_
          rintro e w5 ⟨rfl, hb5⟩
          have hE2 := errorC F1 er.e er.l er.c w5 HE3.out.1 HE3.out.2.1 HE3.out.2.2 (blk_on HF4.out hb5) (HP4.out.on hb5)
          have HB5 : Hid (Below w.heap.size w w5) := HB4.out.trans (hb5.mono HB4.out.size)
          clear hb5 hE1
          generalize errT (er.e : Int) (er.l : Int) (er.c : Int) = tx at *
          go_wp2_with (fail)
          refine hE2.mono ?_
          rintro e w6 ⟨rfl, hb6⟩
          have HB6 : Hid (Below w.heap.size w w6) := HB5.out.trans (hb6.mono HB5.out.size)
          clear hb6 hE2
          go_wp2_with (fail)
          go_ret
          exact ⟨by first | rfl | simp, HB6.out⟩
end Go.Proofs.YtpbbeemlaigimaaDoor
