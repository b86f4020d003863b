/-
  The document's Sort.
-/
import Derived.Test.YtlfdlifmcabfjaaCvR
namespace Go.Proofs.Ytlfdlifmcabfjaa
open Go.RowKit Go.Sort
set_option linter.unusedVariables false
set_option linter.unusedSimpArgs false

set_option maxRecDepth 20000 in
set_option maxHeartbeats 8000000 in
theorem refSortC (v : Value) (L : List Ru) (w : World) (hs : SrcU w v L) (hl : L.length ≤ 2000) (bd : ∀ R ∈ L, R.s < 4294967296 ∧ R.d < 4294967296) :
    Calls Try.prog 21 #[v] w fun e w' => ∃ (u : Value) (d : Array Int), e = .returned u ∧ d.size = L.length ∧ w'.ownsRow w.heap.size 3 1 u d.size (eL d) ∧ Mb d L.length ∧ So (ksL L) d 0 L.length ∧ Below w.heap.size w w' := by
  have HS : Hid (SrcU w v L) := hs
  have HBd : Hid (∀ R ∈ L, R.s < 4294967296 ∧ R.d < 4294967296) := bd
  obtain ⟨ad, cap, rfl, hcap, hat⟩ := hs
  obtain ⟨n, hn⟩ : ∃ n, n = L.length := ⟨_, rfl⟩
  rw [← hn] at hl hcap ⊢
  have Hn : Hid (n = L.length) := hn
  obtain ⟨i0, hi0, hz0, hz1, hz2⟩ := info_parts infoI
  have Hi0 : Hid (Try.prog.info? 3 = some i0 ∧ i0.zero = some (.int .i64 0) ∧ i0.size = 1 ∧ i0.bytes = 8) := ⟨hi0, hz0, hz1, hz2⟩
  clear hn hat hi0 hz0 hz1 hz2
  have hn0 : (n : Int) ≤ 2000 := by omega
  go_enter Try.func21, Try.ntmps21
  go_wp2
  go_loopw [5, 3, 4] (fun vi v3 v4 wr => ∃ (i : Nat) (d3 d4 : Array Int), i ≤ n ∧ vi = .int .i64 (i : Int) ∧ Hid (Rr w wr v3 v4 d3 d4) ∧ Hid (d3.size = i) ∧ Hid (d4.size = i) ∧ Hid (∀ t, t < i → d4[t]! = ksL L d3[t]!) ∧ Hid (So (ksL L) d3 0 i) ∧ Hid (Mb d3 i)) (fun vi _ _ _ => n - (intOf vi).toNat)
  case atStart => exact ⟨0, #[], #[], Nat.zero_le _, rfl, ⟨World.ownsRow_nil _ _ _ _, World.ownsRow_nil _ _ _ _, fun k hk => by simp [Value.ownBlock] at hk, Below.refl _ _⟩, rfl, rfl, fun t ht => by omega, fun a b _ _ h => by omega, fun t ht => by omega, fun t ht => by omega⟩
  case round =>
    obtain ⟨i, d3, d4, hi, rfl, hx, z3, z4, hk, ho, hm⟩ := hrel
    by_cases hlt : i < n
    · have hlti : (i : Int) < (n : Int) := by omega
      have hltL : i < L.length := by rw [← Hn.out]; exact hlt
      obtain ⟨p, hp⟩ : ∃ p, p = L[i]'hltL := ⟨_, rfl⟩
      obtain ⟨b1, b2⟩ := HBd.out p (by rw [hp]; exact List.getElem_mem hltL)
      have hrg := (HS.out.keep hx.out.bl).rng.2 wr (Below.refl _ _) i hltL
      rw [← hp] at hrg
      obtain ⟨g, off, rfl, hrg⟩ := hrg
      have hkey : keyR p = ksL L (i : Int) := by unfold ksL; rw [Int.toNat_natCast, List.getD_eq_getElem?_getD, List.getElem?_eq_getElem hltL, hp]; rfl
      have hOf : ∀ W, Calls Try.prog 23 #[.agg (encU p).toArray] W _ := fun W => ofC p b1 b2 W
      have hPl := fun W => rplace_any 16 (ptR p).1 (ptR p).2 W (by omega) (pt_sq b1 b2)
      rw [show plc 16 ((ptR p).1, (ptR p).2) = keyR p from rfl] at hPl
      replace hPl : ∀ W, Calls Try.prog 32 #[.int .i64 16, .agg #[.int .i64 (ptR p).1, .int .i64 (ptR p).2]] W fun e w' => e = .returned (.int .i64 (keyR p)) ∧ Below W.heap.size W w' := hPl
      obtain ⟨kv, hkv⟩ : ∃ kv, kv = keyR p := ⟨_, rfl⟩
      rw [← hkv] at hPl hkey
      have Hkv : Hid (kv = ksL L (i : Int)) := hkey
      have hrg' : wr.rangeAt g (off + i * 12) (encU p).toArray.toList := hrg
      have hsz : (encU p).toArray.size = 12 := by simp [encU]
      clear hrg hp hkey hkv b1 b2
      generalize (encU p).toArray = A at *
      generalize (ptR p).1 = px at *
      generalize (ptR p).2 = py at *
      have hiA : (Try.prog.info? 60).map (·.size) = some A.size := by rw [hsz]; exact infoXU
      have Hi : Hid _ := hiA
      have Hrg : Hid _ := hrg'
      clear hiA hsz hrg'
      go_upto_region 7 with (first | (refine wpList_load_mid rfl 60 (.tmp 18) rfl g (off + i * 12) A rfl Hrg.out Try.underlying60 rfl Hi.out ?_) | (go_at_call 23; refine (hOf _).mono ?_; rintro e1 w1 ⟨rfl, hb1⟩; replace hb1 : Hid _ := hb1) | (go_at_call 32; refine (hPl _).mono ?_; rintro e2 w2 ⟨rfl, hb2⟩; replace hb2 : Hid _ := hb2))
      have HR2 : Hid (Rr w w2 u3 u4 d3 d4) := (hx.out.on hb1.out).on hb2.out
      clear hOf hPl Hi Hrg hx hb1 hb2
      go_upto_region 8 with (at_builtin; refine wpList_append_lies _ rfl (.tmp 22) (.tmp 24) 46 rfl w.heap.size 3 i0 (.int .i64 0) 1 8 Try.underlying46 Hi0.out.1 Hi0.out.2.1 Hi0.out.2.2.1 Hi0.out.2.2.2 rfl (by decide) u3 i (eL d3) rfl (by rw [← z3.out]; exact (HR2.out.alloc _).r3) ⟨w2.heap.size, 0, none⟩ 1 1 [.int .i64 (i : Int)] rfl rfl (World.news_of_block (blk_new w2 (.cells #[.int .i64 (i : Int)] 3))) (by simp [Value.oneCell']) (by decide) (by unfold maxLen; omega) (by omega) (HR2.out.alloc _).bl.size _ rfl ?_; intro g3 cap3 w5 ho5 hg5 ha5 hl5)
      have HR5 : Hid (Rr w w5 (.slice (some ⟨g3, 0, none⟩) (i + 1) cap3) u4 (d3.push (i : Int)) d4) := (HR2.out.alloc _).app3 z3.out ho5 hg5 ha5
      clear HR2 ho5 hg5 ha5 hl5
      go_wp2_with (at_builtin; refine wpList_append_lies _ rfl (.tmp 26) (.tmp 28) 46 rfl w.heap.size 3 i0 (.int .i64 0) 1 8 Try.underlying46 Hi0.out.1 Hi0.out.2.1 Hi0.out.2.2.1 Hi0.out.2.2.2 rfl (by decide) u4 i (eL d4) rfl (by rw [← z4.out]; exact (HR5.out.alloc _).r4) ⟨w5.heap.size, 0, none⟩ 1 1 [.int .i64 kv] rfl rfl (World.news_of_block (blk_new w5 (.cells #[.int .i64 kv] 3))) (by simp [Value.oneCell']) (by decide) (by unfold maxLen; omega) (by omega) (HR5.out.alloc _).bl.size _ rfl ?_; intro g4 cap4 w6 ho6 hg6 ha6 hl6)
      have HR6 : Hid (Rr w w6 (.slice (some ⟨g3, 0, none⟩) (i + 1) cap3) (.slice (some ⟨g4, 0, none⟩) (i + 1) cap4) (d3.push (i : Int)) (d4.push kv)) := (HR5.out.alloc _).app4 z4.out ho6 hg6 ha6
      clear HR5 ho6 hg6 ha6 hl6
      have hs6 : (d3.push (i : Int)).size = i + 1 := by rw [Array.size_push, z3.out]
      have HT6 : Hid ((d4.push kv).size = i + 1) := by show _ = _; rw [Array.size_push, z4.out]
      have HP : Hid (Pl (d3.push (i : Int)) 0 i (i + 1)) := fun s t s1 s2 t1 t2 => by
        obtain rfl : t = i := by omega
        have e1 := push_last d3 (t : Int)
        rw [z3.out] at e1
        rw [e1, push_at (by rw [z3.out]; exact s2)]
        obtain ⟨j, hj, e2⟩ := hm.out.1 s s2
        rw [e2]; omega
      have HO : Hid (So (ksL L) (d3.push (i : Int)) 0 i) := fun a b a1 ab b1 => by
        rw [push_at (by rw [z3.out]; omega), push_at (by rw [z3.out]; omega)]
        exact ho.out a b a1 ab b1
      have HM : Hid (Mb (d3.push (i : Int)) (i + 1)) := mb_push hm.out z3.out
      have HK : Hid (∀ t, t < i + 1 → (d4.push kv)[t]! = ksL L (d3.push (i : Int))[t]!) := fun t ht => by
        by_cases e : t < i
        · rw [push_at (by rw [z4.out]; exact e), push_at (by rw [z3.out]; exact e)]
          exact hk.out t e
        · obtain rfl : t = i := by omega
          have e1 := push_last d3 (t : Int)
          have e2 := push_last d4 kv
          rw [z3.out] at e1
          rw [z4.out] at e2
          rw [e1, e2]; exact Hkv.out
      clear hk ho hm z3 z4 Hkv
      generalize d3.push (i : Int) = e3 at *
      generalize d4.push kv = e4 at *
      have HS6 : Hid (e3.size = i + 1) := hs6
      clear hs6
      go_loopw [7] (fun vj wr2 => ∃ (j : Nat) (a3 a4 : Array Int), j ≤ i ∧ vj = .int .i64 (j : Int) ∧ Hid (Rr w wr2 (.slice (some ⟨g3, 0, none⟩) (i + 1) cap3) (.slice (some ⟨g4, 0, none⟩) (i + 1) cap4) a3 a4) ∧ Hid (a4.size = i + 1) ∧ Hid (Via (dnF i j) e3 a3) ∧ Hid (∀ t, t < i + 1 → a4[t]! = ksL L a3[t]!) ∧ Hid (∀ t, j ≤ t → t < i → Bf (ksL L) e3[i]! e3[t]!)) (fun vj _ => (intOf vj).toNat)
      case atStart => exact ⟨i, e3, e4, Nat.le_refl _, rfl, HR6.out, HT6.out, dn_zero i e3, HK.out, fun t t1 t2 => by omega⟩
      case round =>
        clear HR6 HT6 HK
        obtain ⟨j, a3, a4, hji, rfl, hr, t4, hv, hk, hbf⟩ := hrel
        have T3 : Hid (a3.size = i + 1) := by show _ = _; rw [hv.out.1]; exact HS6.out
        by_cases hj0 : 0 < j
        · obtain ⟨k, hkj⟩ : ∃ k, k + 1 = j := ⟨j - 1, by omega⟩
          have e1 : (j : Int) - 1 = (k : Int) := by omega
          have hj1 : (0 : Int) < (j : Int) := by omega
          have hki : (k : Int) < ((i : Int) + 1) := by omega
          have hji' : (j : Int) < ((i : Int) + 1) := by omega
          obtain ⟨c4j, f4j⟩ := hr.out.cell4 t4.out.symm (j := j) (by omega)
          obtain ⟨c4k, f4k⟩ := hr.out.cell4 t4.out.symm (j := k) (by omega)
          have gj : a3[j]! = e3[i]! := by rw [hv.out.2 j (by rw [HS6.out]; omega)]; congr 1; unfold dnF; rw [if_neg (by omega), if_pos rfl]
          have gk : a3[k]! = e3[k]! := by rw [hv.out.2 k (by rw [HS6.out]; omega)]; congr 1; unfold dnF; rw [if_neg (by omega), if_neg (by omega)]
          have hlt2 : e3[k]! < e3[i]! := HP.out k i (by omega) (by omega) (Nat.le_refl _) (by omega)
          have kj := hk.out j (by omega)
          have kk := hk.out k (by omega)
          rw [gj] at kj
          rw [gk] at kk
          obtain ⟨xj, hxj⟩ : ∃ x, x = a4[j]! := ⟨_, rfl⟩
          obtain ⟨xk, hxk⟩ : ∃ x, x = a4[k]! := ⟨_, rfl⟩
          rw [← hxj] at c4j
          rw [← hxk] at c4k
          have HXj : Hid (xj = a4[j]!) := hxj
          have HXk : Hid (xk = a4[k]!) := hxk
          by_cases hc : xj < xk
          · have HB : Hid (Bf (ksL L) e3[i]! e3[k]!) := (bf_key hlt2).2 (by rw [← kj, ← kk, ← hxj, ← hxk]; exact hc)
            clear gj gk hlt2 kj kk hxj hxk f4j f4k
            go_wp2
            go_quiet (fail)
            clear c4j c4k
            have hrd : Rr w (wr.drewN nq) (.slice (some ⟨g3, 0, none⟩) (i + 1) cap3) (.slice (some ⟨g4, 0, none⟩) (i + 1) cap4) a3 a4 := hr.out.on (bel_drewN (Below.refl _ _) nq)
            clear hr
            generalize wr.drewN nq = w0 at *
            obtain ⟨c4j, f4j⟩ := hrd.cell4 t4.out.symm (j := j) (by omega)
            obtain ⟨c4k, f4k⟩ := hrd.cell4 t4.out.symm (j := k) (by omega)
            rw [← HXj.out] at c4j
            rw [← HXk.out] at c4k
            have q1 := hrd.set4 t4.out.symm j xk
            have u1 : (a4.setIfInBounds j xk).size = i + 1 := by simp [t4.out]
            obtain ⟨c1k, f1k⟩ := q1.cell4 u1.symm (j := k) (by omega)
            have q2 := q1.set4 u1.symm k xj
            obtain ⟨c2j, f2j⟩ := q2.cell3 T3.out.symm (j := j) (by omega)
            obtain ⟨c2k, f2k⟩ := q2.cell3 T3.out.symm (j := k) (by omega)
            obtain ⟨yj, hyj⟩ : ∃ x, x = a3[j]! := ⟨_, rfl⟩
            obtain ⟨yk, hyk⟩ : ∃ x, x = a3[k]! := ⟨_, rfl⟩
            rw [← hyj] at c2j
            rw [← hyk] at c2k
            have q3 := q2.set3 T3.out.symm j yk
            have u3 : (a3.setIfInBounds j yk).size = i + 1 := by simp [T3.out]
            obtain ⟨c3k, f3k⟩ := q3.cell3 u3.symm (j := k) (by omega)
            have q4 := q3.set3 u3.symm k yj
            rw [swp_two hyk hyj, swp_two HXk.out HXj.out] at q4
            have HQ : Hid _ := q4
            generalize (a4.setIfInBounds j xk)[k]! = o1 at *
            generalize (a3.setIfInBounds j yk)[k]! = o3 at *
            clear q1 q2 q3 q4 hrd hyj hyk u1 u3
            go_wp2
            refine ⟨⟨k, swp a3 j k, swp a4 j k, by omega, rfl, HQ.out, by show _ = _; rw [size_swp]; exact t4.out, ?_, keys_swp hk.out T3.out t4.out (by omega) (by omega) (by omega), fun t t1 t2 => ?_⟩, by simp [intOf]; omega⟩
            · have := dn_step (m := i) (k := k) (d := e3) (e := a3) (by rw [hkj]; exact hv.out) (by omega) (by rw [HS6.out]; omega)
              rw [hkj] at this
              exact this
            · by_cases ht : t = k
              · rw [ht]; exact HB.out
              · exact hbf.out t (by omega) t2
          · have HB : Hid (¬ Bf (ksL L) e3[i]! e3[k]!) := fun h => hc (by rw [hxj, hxk, kj, kk]; exact (bf_key hlt2).1 h)
            clear gj gk hlt2 kj kk hxj hxk f4j f4k
            go_wp2
            go_quiet (fail)
            go_wp2
            refine ⟨⟨i + 1, a3, a4, by omega, by go_num, hr.out.on (bel_drewN (Below.refl _ _) _), T3.out, t4.out, hk.out, ?_, ?_⟩, by simp [intOf]; omega⟩
            · refine mrg_last (m := i) rfl HO.out HP.out (by rw [HS6.out]; omega) (Nat.zero_le _) hji (fun t t1 t2 h => ?_) hbf.out hv.out
              by_cases ht : t = k
              · rw [ht] at h; exact HB.out h
              · exact HB.out (bf_trans h (HO.out t k t1 (by omega) (by omega)))
            · exact mb_sm HM.out (dn_sm hv.out (Nat.zero_le _) hji (by omega) (by rw [HS6.out]; omega))
        · obtain rfl : j = 0 := by omega
          go_wp2
          go_quiet (fail)
          go_wp2
          refine ⟨⟨i + 1, a3, a4, by omega, by go_num, hr.out.on (bel_drewN (Below.refl _ _) _), T3.out, t4.out, hk.out, ?_, ?_⟩, by simp [intOf]; omega⟩
          · exact mrg_last (m := i) rfl HO.out HP.out (by rw [HS6.out]; omega) (Nat.zero_le _) hji (fun t t1 t2 h => by omega) hbf.out hv.out
          · exact mb_sm HM.out (dn_sm hv.out (Nat.zero_le _) hji (by omega) (by rw [HS6.out]; omega))
    · obtain rfl : i = n := by omega
      have hni : ¬ (i : Int) < (i : Int) := by omega
      go_wp2
      go_ret
      exact ⟨u3, rfl, d3, z3.out, hx.out.r3, hm.out, ho.out, hx.out.bl⟩
end Go.Proofs.Ytlfdlifmcabfjaa
