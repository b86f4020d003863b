/-
  The document's Above as a list; the iterator's contract, whether the prefix may be or not.
-/
import Derived.Test.YthmekipdhlipbaaPxPlE
import Derived.Test.YthmekipdhlipbaaPxR
namespace Go.Proofs.Ythmekipdhlipbaa
open Go.RowKit Go.Shelf
set_option linter.unusedVariables false
set_option linter.unusedSimpArgs false
attribute [local go_sem] Oper.semAt_some

/-- What comes: all that holds it, down to the one of no bits; nothing, if it may not be. -/
def comes (a : Nat) (n : Int) : List Pxx := if chk a n = 0 then desc a (n.toNat + 1) else []
def nums (l : List Pxx) : List (Nat × Nat) := l.map fun x => x.1
theorem comes_len (a : Nat) (n : Int) : (comes a n).length ≤ 33 := by
  unfold comes
  split
  · rename_i h
    obtain ⟨m, rfl, hm, _⟩ := chk_ok h
    rw [desc_length]; simp; omega
  · simp
theorem oA_in (a j : Nat) (h : j ≤ 32) : oA a (j : Int) = ct a j ∧ oN (j : Int) = j ∧ oE (j : Int) = 0 := by
  unfold oA oN oE
  simp; omega
theorem Row.one2 (w : World) (b : Nat) {x y : Int} (a n : Nat) {B : Nat} (hB : B = w.heap.size) (hx : x = (a : Int)) (hy : y = (n : Int)) (hb : b ≤ w.heap.size) : Row (w.alloc (.cells #[.int .u32 x, .int .i64 y] 24)) b (.slice (some ⟨B, 0, none⟩) 1 1) [(a, n)] := by
  subst hx hy hB; exact Row.one w b a n hb
set_option maxHeartbeats 1000000 in
theorem rabove_good (a n : Nat) (w : World) (ha : a < 4294967296) (hn : n ≤ 32) (ka : chk a (n : Int) = 0) :
    Calls Try.prog 9 #[.agg #[.int .u32 a, .int .i64 n]] w fun e w' => ∃ v' : Value, e = .returned v' ∧ Row w' w.heap.size v' (nums (desc a (n + 1))) ∧ Below w.heap.size w w' := by
  have hr := fun W => rcheck_any a n W ha
  rw [ka] at hr
  have ho : ∀ (j : Nat) (W : World), j ≤ 32 → Calls Try.prog 36 #[.int .u32 a, .int .i64 j] W fun e w' => e = .returned (.tuple #[.agg #[.int .u32 (ct a j : Int), .int .i64 (j : Int)], .int .i64 0]) ∧ Below W.heap.size W w' := fun j W hj => by
    have := rof_any a j W ha
    obtain ⟨e1, e2, e3⟩ := oA_in a j hj
    rw [e1, e2, e3] at this
    exact this
  have hnb : (n : Int) ≤ 32 := by omega
  go_enter Try.func9, Try.ntmps9
  go_wp2_with (fail)
  refine (hr _).mono ?_
  rintro e w1 ⟨rfl, hb1⟩
  have x0 : w1.cell? ⟨w.heap.size, 0, none⟩ = some (.int .u32 a) := cell_on hb1 (by simp [go_sem])
  have x1 : w1.cell? ⟨w.heap.size, 1, none⟩ = some (.int .i64 n) := cell_on hb1 (by simp [go_sem])
  have hz1 := hb1.size
  simp at hz1
  have B1 : Hid (Below w.heap.size w w1) := by show Below _ _ _; (repeat (first | assumption | exact Below.refl _ _ | refine Below.drew ?_ | refine bel_drewN ?_ _ | refine Below.setCell ?_ (by first | omega | (simp; done) | (simp; omega)) _ | refine Below.alloc ?_ (by first | omega | (simp; done) | (simp; omega)) _ | refine bel_of ?_ (by assumption)))
  clear hb1 hr
  go_wp2_with (fail)
  go_loopw [3, 4] (fun lv iv wr => ∃ (j : Nat) (G : List (Nat × Nat)), j ≤ n + 1 ∧ iv = .int .i64 ((j : Int) - 1) ∧ Hid (nums (desc a (n + 1)) = G ++ nums (desc a j)) ∧ Hid (Row wr w1.heap.size lv G) ∧ Hid (Below w1.heap.size w1 wr)) (fun _ iv _ => (intOf iv + 1).toNat)
  case atStart => exact ⟨n + 1, [], Nat.le_refl _, by go_num, rfl, Row.nil _ _, Below.refl _ _⟩
  case round =>
    obtain ⟨j, G, hj, rfl, hd, hR, hB⟩ := hrel
    have hzr := hB.out.size
    have y0 := cell_on hB.out x0
    have y1 := cell_on hB.out x1
    have hlen : G.length ≤ 33 := by
      have := congrArg List.length hd.out
      simp [nums, desc_length] at this
      omega
    cases j with
    | zero =>
      have e : nums (desc a (n + 1)) = G := by rw [hd.out]; simp [desc, nums]
      have he : Hid (nums (desc a (n + 1)) = G) := e
      clear e
      go_wp2
      go_ret
      refine ⟨_, rfl, ?_, B1.out.trans (hB.out.mono B1.out.size)⟩
      rw [he.out]; exact hR.out.base B1.out.size
    | succ j =>
      have hj0 : (0 : Int) ≤ (j : Int) := by omega
      have hj2 : j ≤ 32 := by omega
      have hE : Hid (nums (desc a (n + 1)) = (G ++ [(ct a j, j)]) ++ nums (desc a j)) := by
        show _ = _
        rw [hd.out]
        simp only [desc, nums, List.map_cons, List.append_assoc, List.singleton_append]
        rw [show (cutP a j).1 = (ct a j, j) from Prod.ext (cutP_fst a j ha) (cutP_snd a j hj2)]
      clear x0 x1
      go_wp2_with (fail)
      refine (ho j _ hj2).mono ?_
      rintro e w3 ⟨rfl, hb3⟩
      have hz3 := hb3.size
      have R3 : Hid (Row w3 w1.heap.size _ G) := hR.out.on hb3
      have B3 : Hid (Below w1.heap.size w1 w3) := hB.out.trans (hb3.mono hzr)
      clear hb3 y0 y1 hR
      go_wp2_with (at_builtin; refine wpList_append_rows rfl (.tmp 24) (.tmp 26) rfl w1.heap.size _ G rfl ((R3.out.alloc _).alloc _) w1.heap.size _ [(ct a j, j)] rfl (Row.one2 (w3.alloc (.cells #[.int .u32 (ct a j : Nat), .int .i64 (j : Nat)] 24)) w1.heap.size (ct a j) j (by simp) rfl rfl (by first | omega | (simp; omega))) (by first | omega | (simp; omega)) (by first | omega | (simp; done) | (simp; omega)) ?_; intro v5 w5 hrow5 hgr5)
      go_roundw
      case rel => exact ⟨j, G ++ [(ct a j, j)], by omega, by go_num, hE, hrow5, ((B3.out.alloc (by omega) _).alloc (by simp; omega) _).grown hgr5 (by simp; omega) (fun x hx => (R3.out.lt x hx).1)⟩
      case measure => simp [intOf]
theorem rabove_bad (a : Nat) (n : Int) (w : World) (ha : a < 4294967296) (ka : chk a n ≠ 0) :
    Calls Try.prog 9 #[.agg #[.int .u32 a, .int .i64 n]] w fun e w' => ∃ v' : Value, e = .returned v' ∧ Row w' w.heap.size v' [] ∧ Below w.heap.size w w' := by
  have hr := fun W => rcheck_any a n W ha
  generalize chk a n = c at hr ka
  have hc : (c != 0) = true := by simpa using ka
  have hc' : ¬ c = 0 := ka
  go_enter Try.func9, Try.ntmps9
  go_wp2_with (fail)
  refine (hr _).mono ?_
  rintro e w1 ⟨rfl, hb1⟩
  go_wp2
  go_ret
  exact ⟨_, rfl, Row.nil _ _, by (repeat (first | assumption | exact Below.refl _ _ | refine Below.drew ?_ | refine bel_drewN ?_ _ | refine Below.setCell ?_ (by first | omega | (simp; done) | (simp; omega)) _ | refine Below.alloc ?_ (by first | omega | (simp; done) | (simp; omega)) _ | refine bel_of ?_ (by assumption)))⟩
theorem rabove_any (a : Nat) (n : Int) (w : World) (ha : a < 4294967296) :
    Calls Try.prog 9 #[.agg #[.int .u32 a, .int .i64 n]] w fun e w' => ∃ v' : Value, e = .returned v' ∧ Row w' w.heap.size v' (nums (comes a n)) ∧ Below w.heap.size w w' := by
  by_cases h : chk a n = 0
  · obtain ⟨m, rfl, hm, _⟩ := chk_ok h
    unfold comes
    rw [if_pos h]
    exact rabove_good a m w ha hm h
  · unfold comes
    rw [if_neg h]
    exact rabove_bad a n w ha h
set_option maxRecDepth 100000 in
set_option maxHeartbeats 2000000 in
theorem above1_bad (m : Nat) (hm : 1 ≤ m) (l Bn a : Nat) (n : Int) (ha : a < 4294967296) (ka : chk a n ≠ 0) (J Jx : List Pxx → World → Prop) (W : World)
    (hJ : AbidesFrom W.heap.size J)
    (c0 : W.cell? ⟨Bn, 0, none⟩ = some (.int .u32 (a : Int))) (c1 : W.cell? ⟨Bn, 1, none⟩ = some (.int .i64 n)) (h0 : J [] W) :
    CallsIn Fence.wide m Try.prog 37 #[.func (.yield l) #[] #[], .pointer (some ⟨Bn, 0, none⟩)] W fun e W' => (∃ v, e = .returned v) ∧
      ((∃ ys, ys = ([] : List Pxx) ∧ J ys W') ∨ (∃ pre, pre <+: ([] : List Pxx) ∧ Jx pre W')) := by
  have hck := fun V => check_any a n V ha
  generalize chk a n = c at hck ka
  have hc : (c != 0) = true := by simpa using ka
  have hc' : ¬ c = 0 := ka
  refine callsIn_of_wp Try.func37 rfl trivial ?_ rfl
  simp only [Try.ntmps37, List.size_toArray, List.length_cons, List.length_nil, Nat.reduceAdd, Nat.reduceSub, Array.replicate_succ, Array.replicate_zero, List.push_toArray, List.append_toArray, List.nil_append, List.cons_append]
  gi_wp2_with (refine ⟨trivial, ?_⟩; gi_at_call 38; refine (callsIn_wide.2 (hck _)).mono ?_; rintro e w1 ⟨rfl, hb1⟩)
  have hJ1 : J [] w1 := hJ _ _ _ none h0 (grown_of_below hb1) (fun r e => by cases e)
  refine bodyPost_ret (results_none rfl _ _ _) rfl ?_
  exact ⟨⟨_, rfl⟩, .inl ⟨[], rfl, hJ1⟩⟩
/-- The iterator, whether its prefix may be or not. -/
theorem above_seq (m : Nat) (hm : 1 ≤ m) (Bn n₀ a : Nat) (n : Int) (ha : a < 4294967296) (w : World) (hBn : Bn < n₀) (hn₀ : n₀ ≤ w.heap.size)
    (c0 : w.cell? ⟨Bn, 0, none⟩ = some (.int .u32 (a : Int))) (c1 : w.cell? ⟨Bn, 1, none⟩ = some (.int .i64 n)) :
    SeqStopsK Fence.wide m Try.prog 37 #[.pointer (some ⟨Bn, 0, none⟩)] encP (Below n₀) (fun ys => ys = comes a n) (fun pre => pre <+: comes a n) (comes a n).length w := by
  by_cases h : chk a n = 0
  · obtain ⟨k, rfl, hk, _⟩ := chk_ok h
    unfold comes
    rw [if_pos h]
    exact above_stops m hm Bn n₀ a k ha hk h w hBn hn₀ c0 c1
  · unfold comes
    rw [if_neg h]
    exact fun l J Jx W hW hJ hJx hY h0 => above1_bad m hm l Bn a n ha h J Jx W hJ ((hW.cell (p := ⟨Bn, 0, none⟩) (by show Bn < _; omega)).trans c0) ((hW.cell (p := ⟨Bn, 1, none⟩) (by show Bn < _; omega)).trans c1) h0
end Go.Proofs.Ythmekipdhlipbaa
