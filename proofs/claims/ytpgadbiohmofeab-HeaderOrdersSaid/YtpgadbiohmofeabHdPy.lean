/-
  Differ of header: what it hands back.
-/
import Derived.Test.YtpgadbiohmofeabHdPd
import Derived.Test.YtpgadbiohmofeabHdPq
namespace Go.Proofs.Ytpgadbiohmofeab
open Go.RowKit
set_option linter.unusedVariables false
set_option linter.unusedSimpArgs false

theorem dif_bytes {a b : Hd} {i : Nat} (hi : i < 13) (hs : ∀ j, j < i → (bytesH a).getD j 0 = (bytesH b).getD j 0) (hn : (bytesH a).getD i 0 ≠ (bytesH b).getD i 0) :
    difH a b = (i : Int) * 8 + (8 - (len8 ((bytesH a).getD i 0 ^^^ (bytesH b).getD i 0) : Int)) := by
  have hxa := getD_lt (bytesH_bd a) i
  have hxb := getD_lt (bytesH_bd b) i
  obtain ⟨z, hz⟩ : ∃ z, z = (bytesH a).getD i 0 ^^^ (bytesH b).getD i 0 := ⟨_, rfl⟩
  have hz0 : z ≠ 0 := fun h => hn (Nat.eq_of_testBit_eq fun t => by
    have h1 : ((bytesH a).getD i 0 ^^^ (bytesH b).getD i 0).testBit t = false := by rw [← hz, h]; simp
    rw [Nat.testBit_xor] at h1
    revert h1
    cases ((bytesH a).getD i 0).testBit t <;> cases ((bytesH b).getD i 0).testBit t <;> simp)
  have hz8 : z < 2 ^ 8 := by rw [hz]; exact Nat.xor_lt_two_pow hxa hxb
  have hm : Nat.log2 z < 8 := (Nat.log2_lt hz0).2 hz8
  have htm : z.testBit (Nat.log2 z) = true := Nat.testBit_log2 hz0
  have hlt : z < 2 ^ (Nat.log2 z + 1) := Nat.lt_log2_self
  rw [← hz]
  have hl : len8 z = Nat.log2 z + 1 := by unfold len8; rw [if_neg hz0]
  rw [hl]
  generalize Nat.log2 z = m at *
  have hbit : ∀ (h : Hd) (k : Nat), bitH h k = (bytesH h).getD (k / 8) 0 / 2 ^ (7 - k % 8) % 2 := fun h k => rfl
  have hxt : ∀ t, z.testBit t = (((bytesH a).getD i 0).testBit t ^^ ((bytesH b).getD i 0).testBit t) := fun t => by rw [hz, Nat.testBit_xor]
  have key : difH a b = ((8 * i + (7 - m) : Nat) : Int) := by
    refine difH_uniq (by omega) ?_ ?_
    · rw [hbit, hbit, show (8 * i + (7 - m)) / 8 = i by omega, show 7 - (8 * i + (7 - m)) % 8 = m by omega]
      intro he
      have h1 := hxt m
      rw [htm, Nat.testBit_eq_decide_div_mod_eq, Nat.testBit_eq_decide_div_mod_eq, he] at h1
      simp at h1
    · intro j hj
      rw [hbit, hbit]
      by_cases hji : j / 8 < i
      · rw [hs _ hji]
      · have e : j / 8 = i := by omega
        rw [e]
        have h1 := hxt (7 - j % 8)
        have h2 : z.testBit (7 - j % 8) = false := Nat.testBit_lt_two_pow (Nat.lt_of_lt_of_le hlt (Nat.pow_le_pow_right (by decide) (by omega)))
        rw [h2, Nat.testBit_eq_decide_div_mod_eq, Nat.testBit_eq_decide_div_mod_eq] at h1
        have u1 := Nat.mod_lt ((bytesH a).getD i 0 / 2 ^ (7 - j % 8)) (show 0 < 2 by decide)
        have u2 := Nat.mod_lt ((bytesH b).getD i 0 / 2 ^ (7 - j % 8)) (show 0 < 2 by decide)
        generalize (bytesH a).getD i 0 / 2 ^ (7 - j % 8) % 2 = p at *
        generalize (bytesH b).getD i 0 / 2 ^ (7 - j % 8) % 2 = q at *
        rcases (show p = 0 ∨ p = 1 by omega) with rfl | rfl <;> rcases (show q = 0 ∨ q = 1 by omega) with rfl | rfl <;> first | rfl | (exfalso; revert h1; decide)
  rw [key]
  omega
attribute [local irreducible] World.there Hd2 Two World.setCells World.setCell World.alloc
set_option maxHeartbeats 4000000 in
theorem difC : DifC := by
  intro a b w oa ob
  have ka := fun W => layT a W oa
  have kb := fun W => layT b W ob
  have HD : Hid (∀ i, i < 13 → (∀ j, j < i → (bytesH a).getD j 0 = (bytesH b).getD j 0) → (bytesH a).getD i 0 ≠ (bytesH b).getD i 0 → difH a b = (i : Int) * 8 + (8 - (len8 ((bytesH a).getD i 0 ^^^ (bytesH b).getD i 0) : Int))) := fun i hi hs hn => dif_bytes hi hs hn
  have HS : Hid (bytesH a = bytesH b → difH a b = -1) := fun he => by
    have : a = b := by rw [← hdB_bytes oa, ← hdB_bytes ob, he]
    rw [this]; exact difH_self b
  have HBa : Hid (BdB (bytesH a)) := bytesH_bd a
  have HBb : Hid (BdB (bytesH b)) := bytesH_bd b
  generalize difH a b = R at *
  have hla : (bytesH a).length = 13 := rfl
  have hlb : (bytesH b).length = 13 := rfl
  generalize bytesH a = x at *
  generalize bytesH b = y at *
  obtain ⟨a0, a1, a2, a3, a4, a5, a6, a7, a8, a9, b0, b1, b2, hxe⟩ := len13 hla
  obtain ⟨c0, c1, c2, c3, c4, c5, c6, c7, c8, c9, d0, d1, d2, hye⟩ := len13 hlb
  have vx : (.agg #[.int .u8 ((x.getD 0 0 : Nat) : Int), .int .u8 ((x.getD 1 0 : Nat) : Int), .int .u8 ((x.getD 2 0 : Nat) : Int), .int .u8 ((x.getD 3 0 : Nat) : Int), .int .u8 ((x.getD 4 0 : Nat) : Int), .int .u8 ((x.getD 5 0 : Nat) : Int), .int .u8 ((x.getD 6 0 : Nat) : Int), .int .u8 ((x.getD 7 0 : Nat) : Int), .int .u8 ((x.getD 8 0 : Nat) : Int), .int .u8 ((x.getD 9 0 : Nat) : Int), .int .u8 ((x.getD 10 0 : Nat) : Int), .int .u8 ((x.getD 11 0 : Nat) : Int), .int .u8 ((x.getD 12 0 : Nat) : Int)] : Value) = .agg #[.int .u8 (a0 : Int), .int .u8 (a1 : Int), .int .u8 (a2 : Int), .int .u8 (a3 : Int), .int .u8 (a4 : Int), .int .u8 (a5 : Int), .int .u8 (a6 : Int), .int .u8 (a7 : Int), .int .u8 (a8 : Int), .int .u8 (a9 : Int), .int .u8 (b0 : Int), .int .u8 (b1 : Int), .int .u8 (b2 : Int)] := by rw [hxe]; rfl
  have vy : (.agg #[.int .u8 ((y.getD 0 0 : Nat) : Int), .int .u8 ((y.getD 1 0 : Nat) : Int), .int .u8 ((y.getD 2 0 : Nat) : Int), .int .u8 ((y.getD 3 0 : Nat) : Int), .int .u8 ((y.getD 4 0 : Nat) : Int), .int .u8 ((y.getD 5 0 : Nat) : Int), .int .u8 ((y.getD 6 0 : Nat) : Int), .int .u8 ((y.getD 7 0 : Nat) : Int), .int .u8 ((y.getD 8 0 : Nat) : Int), .int .u8 ((y.getD 9 0 : Nat) : Int), .int .u8 ((y.getD 10 0 : Nat) : Int), .int .u8 ((y.getD 11 0 : Nat) : Int), .int .u8 ((y.getD 12 0 : Nat) : Int)] : Value) = .agg #[.int .u8 (c0 : Int), .int .u8 (c1 : Int), .int .u8 (c2 : Int), .int .u8 (c3 : Int), .int .u8 (c4 : Int), .int .u8 (c5 : Int), .int .u8 (c6 : Int), .int .u8 (c7 : Int), .int .u8 (c8 : Int), .int .u8 (c9 : Int), .int .u8 (d0 : Int), .int .u8 (d1 : Int), .int .u8 (d2 : Int)] := by rw [hye]; rfl
  have HX : Hid (([.int .u8 (a0 : Int), .int .u8 (a1 : Int), .int .u8 (a2 : Int), .int .u8 (a3 : Int), .int .u8 (a4 : Int), .int .u8 (a5 : Int), .int .u8 (a6 : Int), .int .u8 (a7 : Int), .int .u8 (a8 : Int), .int .u8 (a9 : Int), .int .u8 (b0 : Int), .int .u8 (b1 : Int), .int .u8 (b2 : Int)] : List Value) = vs13 x) := by show _ = _; rw [hxe]; rfl
  have HY : Hid (([.int .u8 (c0 : Int), .int .u8 (c1 : Int), .int .u8 (c2 : Int), .int .u8 (c3 : Int), .int .u8 (c4 : Int), .int .u8 (c5 : Int), .int .u8 (c6 : Int), .int .u8 (c7 : Int), .int .u8 (c8 : Int), .int .u8 (c9 : Int), .int .u8 (d0 : Int), .int .u8 (d1 : Int), .int .u8 (d2 : Int)] : List Value) = vs13 y) := by show _ = _; rw [hye]; rfl
  simp only [vx] at ka
  simp only [vy] at kb
  have HXl : Hid (x.length = 13) := hla
  have HYl : Hid (y.length = 13) := hlb
  have ke := fun W => run_eq13 x y hla hlb W
  rw [vx, vy] at ke
  have hgx : ∀ k (hk : k < x.length), x[k] = x.getD k 0 := fun k hk => by rw [List.getD_eq_getElem?_getD, List.getElem?_eq_getElem hk]; rfl
  have hgy : ∀ k (hk : k < y.length), y[k] = y.getD k 0 := fun k hk => by rw [List.getD_eq_getElem?_getD, List.getElem?_eq_getElem hk]; rfl
  have HGx : Hid (∀ k (hk : k < x.length), x[k] = x.getD k 0) := hgx
  have HGy : Hid (∀ k (hk : k < y.length), y[k] = y.getD k 0) := hgy
  have HXe : Hid (x = [a0, a1, a2, a3, a4, a5, a6, a7, a8, a9, b0, b1, b2]) := hxe
  have HYe : Hid (y = [c0, c1, c2, c3, c4, c5, c6, c7, c8, c9, d0, d1, d2]) := hye
  clear hxe hye vx vy hla hlb hgx hgy
  have H0 := hd2_new w a b
  have HW : Hid (((w.alloc (.cells #[.int .u32 (a.s : Int), .int .u32 (a.d : Int), .int .u16 (a.p : Int), .int .u16 (a.q : Int), .int .u8 (a.r : Int)] 25)).alloc (.cells #[.int .u32 (b.s : Int), .int .u32 (b.d : Int), .int .u16 (b.p : Int), .int .u16 (b.q : Int), .int .u8 (b.r : Int)] 25)).heap.size = w.heap.size + 2) := by show _ = _; simp
  go_enter Try.func7, Try.ntmps7
  go_upto_region 1 with (fail)
  generalize (w.alloc (.cells #[.int .u32 (a.s : Int), .int .u32 (a.d : Int), .int .u16 (a.p : Int), .int .u16 (a.q : Int), .int .u8 (a.r : Int)] 25)).alloc (.cells #[.int .u32 (b.s : Int), .int .u32 (b.d : Int), .int .u16 (b.p : Int), .int .u16 (b.q : Int), .int .u8 (b.r : Int)] 25) = W0 at *
  have hW0 : w.heap.size + 1 < W0.heap.size := by have := HW.out; omega
  go_cut [5, 6] (fun s u wx => ∃ g k : Nat, s = .pointer (some ⟨g, 0, none⟩) ∧ u = .pointer (some ⟨k, 0, none⟩) ∧ Hid (Two w wx g k x y))
  case first =>
    have hm1 : ∀ v ∈ ([.int .u8 (a0 : Int), .int .u8 (a1 : Int), .int .u8 (a2 : Int), .int .u8 (a3 : Int), .int .u8 (a4 : Int), .int .u8 (a5 : Int), .int .u8 (a6 : Int), .int .u8 (a7 : Int), .int .u8 (a8 : Int), .int .u8 (a9 : Int), .int .u8 (b0 : Int), .int .u8 (b1 : Int), .int .u8 (b2 : Int)] : List Value), v.oneCell' = true := by intro v hv; simp only [List.mem_cons, List.not_mem_nil, or_false] at hv; rcases hv with rfl | rfl | rfl | rfl | rfl | rfl | rfl | rfl | rfl | rfl | rfl | rfl | rfl <;> rfl
    have hm2 : ∀ v ∈ ([.int .u8 (c0 : Int), .int .u8 (c1 : Int), .int .u8 (c2 : Int), .int .u8 (c3 : Int), .int .u8 (c4 : Int), .int .u8 (c5 : Int), .int .u8 (c6 : Int), .int .u8 (c7 : Int), .int .u8 (c8 : Int), .int .u8 (c9 : Int), .int .u8 (d0 : Int), .int .u8 (d1 : Int), .int .u8 (d2 : Int)] : List Value), v.oneCell' = true := by intro v hv; simp only [List.mem_cons, List.not_mem_nil, or_false] at hv; rcases hv with rfl | rfl | rfl | rfl | rfl | rfl | rfl | rfl | rfl | rfl | rfl | rfl | rfl <;> rfl
    have hin : (Try.prog.info? 39).map (·.size) = some 13 := by kernel_rfl
    have hlA : ([.int .u8 (a0 : Int), .int .u8 (a1 : Int), .int .u8 (a2 : Int), .int .u8 (a3 : Int), .int .u8 (a4 : Int), .int .u8 (a5 : Int), .int .u8 (a6 : Int), .int .u8 (a7 : Int), .int .u8 (a8 : Int), .int .u8 (a9 : Int), .int .u8 (b0 : Int), .int .u8 (b1 : Int), .int .u8 (b2 : Int)] : List Value).length = 13 := rfl
    have hlB : ([.int .u8 (c0 : Int), .int .u8 (c1 : Int), .int .u8 (c2 : Int), .int .u8 (c3 : Int), .int .u8 (c4 : Int), .int .u8 (c5 : Int), .int .u8 (c6 : Int), .int .u8 (c7 : Int), .int .u8 (c8 : Int), .int .u8 (c9 : Int), .int .u8 (d0 : Int), .int .u8 (d1 : Int), .int .u8 (d2 : Int)] : List Value).length = 13 := rfl
    have r1 : ∀ W : World, (W.alloc (.cells #[.int .u8 0, .int .u8 0, .int .u8 0, .int .u8 0, .int .u8 0, .int .u8 0, .int .u8 0, .int .u8 0, .int .u8 0, .int .u8 0, .int .u8 0, .int .u8 0, .int .u8 0] 39)).there W.heap.size 0 13 := there_new
    have r2 : ∀ (W : World) (ob : Obj), ((W.alloc ob).alloc (.cells #[.int .u8 0, .int .u8 0, .int .u8 0, .int .u8 0, .int .u8 0, .int .u8 0, .int .u8 0, .int .u8 0, .int .u8 0, .int .u8 0, .int .u8 0, .int .u8 0, .int .u8 0] 39)).there (W.heap.size + 1) 0 13 := fun W ob => by have := there_new (W.alloc ob); simpa using this
    have r3 : ∀ W : World, (W.alloc (.cells #[.int .u8 0, .int .u8 0, .int .u8 0, .int .u8 0, .int .u8 0, .int .u8 0, .int .u8 0, .int .u8 0, .int .u8 0, .int .u8 0, .int .u8 0, .int .u8 0, .int .u8 0] 39)).drew.there W.heap.size 0 13 := fun W => (World.there_drew _ _ _ _).2 (there_new W)
    have r4 : ∀ (W : World) (ob : Obj), ((W.alloc ob).alloc (.cells #[.int .u8 0, .int .u8 0, .int .u8 0, .int .u8 0, .int .u8 0, .int .u8 0, .int .u8 0, .int .u8 0, .int .u8 0, .int .u8 0, .int .u8 0, .int .u8 0, .int .u8 0] 39)).drew.there (W.heap.size + 1) 0 13 := fun W ob => (World.there_drew _ _ _ _).2 (r2 W ob)
    have r7 : ∀ (W : World) (ob : Obj), ((W.alloc (.cells #[.int .u8 0, .int .u8 0, .int .u8 0, .int .u8 0, .int .u8 0, .int .u8 0, .int .u8 0, .int .u8 0, .int .u8 0, .int .u8 0, .int .u8 0, .int .u8 0, .int .u8 0] 39)).alloc ob).there W.heap.size 0 13 := fun W ob => World.there_alloc (there_new W) ob
    have r8 : ∀ (W : World) (ob : Obj), ((W.alloc (.cells #[.int .u8 0, .int .u8 0, .int .u8 0, .int .u8 0, .int .u8 0, .int .u8 0, .int .u8 0, .int .u8 0, .int .u8 0, .int .u8 0, .int .u8 0, .int .u8 0, .int .u8 0] 39)).alloc ob).drew.there W.heap.size 0 13 := fun W ob => (World.there_drew _ _ _ _).2 (r7 W ob)
    have r9 : ∀ (W : World) (ob : Obj) (b : Nat) (vs : List Value) (g : Nat), W.there g 0 13 → ((W.alloc ob).setCells b 0 vs).there g 0 13 := fun W ob b vs g h => World.there_setCells (World.there_alloc h ob) b 0 vs
    have r5 : ∀ (W : World) (ob : Obj) (g : Nat), W.there g 0 13 → (W.alloc ob).there g 0 13 := fun W ob g h => World.there_alloc h ob
    have r6 : ∀ (W : World) (b : Nat) (vs : List Value) (g : Nat), W.there g 0 13 → (W.setCells b 0 vs).there g 0 13 := fun W b vs g h => World.there_setCells h b 0 vs
    go_region_held3 (fun w' => Hd2 w a b w' ∧ w.heap.size + 1 < w'.heap.size ∧ w'.cell? ⟨w.heap.size, 0, none⟩ = some (.int .u32 (a.s : Int)) ∧ w'.cell? ⟨w.heap.size, 1, none⟩ = some (.int .u32 (a.d : Int)) ∧ w'.cell? ⟨w.heap.size, 2, none⟩ = some (.int .u16 (a.p : Int)) ∧ w'.cell? ⟨w.heap.size, 3, none⟩ = some (.int .u16 (a.q : Int)) ∧ w'.cell? ⟨w.heap.size, 4, none⟩ = some (.int .u8 (a.r : Int)) ∧ w'.cell? ⟨w.heap.size + 1, 0, none⟩ = some (.int .u32 (b.s : Int)) ∧ w'.cell? ⟨w.heap.size + 1, 1, none⟩ = some (.int .u32 (b.d : Int)) ∧ w'.cell? ⟨w.heap.size + 1, 2, none⟩ = some (.int .u16 (b.p : Int)) ∧ w'.cell? ⟨w.heap.size + 1, 3, none⟩ = some (.int .u16 (b.q : Int)) ∧ w'.cell? ⟨w.heap.size + 1, 4, none⟩ = some (.int .u8 (b.r : Int))) ((refine Hd2.limbs ?_; (repeat (first | (with_reducible assumption) | (with_reducible exact (‹Hd2 w a b _ ∧ _›).1) | (with_reducible refine Hd2.drew ?_) | (with_reducible refine Hd2.alloc ?_ _) | (with_reducible refine Hd2.sets ?_ ?_) | omega | (with_reducible refine Hd2.on' q1 ?_) | assumption | exact (‹Hd2 w a b _ ∧ _›).1)))) (first | (go_at_call_of 12 (Hd.s a); refine (ka _).mono ?_; rintro e w1 ⟨rfl, q1⟩; have qz1 := q1.size; have qa8 : ∀ g, World.there _ g 0 13 → World.there w1 g 0 13 := fun g h => there_on q1 g 12 h; have q9 : w.heap.size + 1 < w1.heap.size := Hd2.lt' q1 (by first | assumption | exact And.left ‹Hd2 w a b _ ∧ _›); obtain ⟨q3, q4⟩ := bcell q1) | (go_at_call_of 12 (Hd.s b); refine (kb _).mono ?_; rintro e w2 ⟨rfl, q1⟩; have qz2 := q1.size; have qb8 : ∀ g, World.there _ g 0 13 → World.there w2 g 0 13 := fun g h => there_on q1 g 12 h; have q10 : ∀ g, World.there _ g 0 13 → World.there w2 g 0 13 := fun g h => qb8 g (by first | exact qa8 g h | exact World.there_alloc (qa8 g h) _ | exact World.there_alloc (World.there_alloc (qa8 g h) _) _); have q9 : w.heap.size + 1 < w2.heap.size := Hd2.lt' q1 (by first | assumption | exact And.left ‹Hd2 w a b _ ∧ _›); obtain ⟨q3, q4⟩ := bcell q1))
    all_goals
      have HH : Hid (Hd2 w a b _) := (‹Hd2 w a b _ ∧ _›).1
      go_wp2_with (fail)
      go_meet
      case rel =>
        refine ⟨_, _, rfl, rfl, ?_⟩
        show Two _ _ _ _ _ _
        have HB := HH.out.below
        have hlx : (vs13 x).length = 13 := by rw [← HX.out]; rfl
        have hly : (vs13 y).length = 13 := by rw [← HY.out]; rfl
        rw [HX.out, HY.out] at HB ⊢
        refine two_of HB (by rw [hlx]; simp (config := { maxDischargeDepth := 9 }) only [*]) (by rw [hly]; simp (config := { maxDischargeDepth := 9 }) only [*]) ?_
        (try simp only [World.size_alloc, World.size_drew] at qz1)
        (try simp only [World.size_alloc, World.size_drew] at qz2)
        omega
  case rest =>
    obtain ⟨g, k, rfl, rfl, HT⟩ := hcut
    have hzc : w.heap.size ≤ wc.heap.size := HT.out.below.size
    have hfx := HT.out.fst
    have hfy := HT.out.snd
    simp only [Nat.zero_add] at hfx hfy
    have HFx : Hid (∀ i, i < 13 → wc.cell? ⟨g, i, none⟩ = some (.int .u8 ((x.getD i 0 : Nat) : Int))) := fun i hi => by rw [hfx i (by rw [HXl.out]; exact hi), HGx.out]
    have HFy : Hid (∀ i, i < 13 → wc.cell? ⟨k, i, none⟩ = some (.int .u8 ((y.getD i 0 : Nat) : Int))) := fun i hi => by rw [hfy i (by rw [HYl.out]; exact hi), HGy.out]
    rw [HXe.out] at hfx
    rw [HYe.out] at hfy
    have X0 : wc.cell? ⟨g, 0, none⟩ = some (.int .u8 (a0 : Int)) := hfx 0 (by simp)
    have Y0 : wc.cell? ⟨k, 0, none⟩ = some (.int .u8 (c0 : Int)) := hfy 0 (by simp)
    have X1 : wc.cell? ⟨g, 1, none⟩ = some (.int .u8 (a1 : Int)) := hfx 1 (by simp)
    have Y1 : wc.cell? ⟨k, 1, none⟩ = some (.int .u8 (c1 : Int)) := hfy 1 (by simp)
    have X2 : wc.cell? ⟨g, 2, none⟩ = some (.int .u8 (a2 : Int)) := hfx 2 (by simp)
    have Y2 : wc.cell? ⟨k, 2, none⟩ = some (.int .u8 (c2 : Int)) := hfy 2 (by simp)
    have X3 : wc.cell? ⟨g, 3, none⟩ = some (.int .u8 (a3 : Int)) := hfx 3 (by simp)
    have Y3 : wc.cell? ⟨k, 3, none⟩ = some (.int .u8 (c3 : Int)) := hfy 3 (by simp)
    have X4 : wc.cell? ⟨g, 4, none⟩ = some (.int .u8 (a4 : Int)) := hfx 4 (by simp)
    have Y4 : wc.cell? ⟨k, 4, none⟩ = some (.int .u8 (c4 : Int)) := hfy 4 (by simp)
    have X5 : wc.cell? ⟨g, 5, none⟩ = some (.int .u8 (a5 : Int)) := hfx 5 (by simp)
    have Y5 : wc.cell? ⟨k, 5, none⟩ = some (.int .u8 (c5 : Int)) := hfy 5 (by simp)
    have X6 : wc.cell? ⟨g, 6, none⟩ = some (.int .u8 (a6 : Int)) := hfx 6 (by simp)
    have Y6 : wc.cell? ⟨k, 6, none⟩ = some (.int .u8 (c6 : Int)) := hfy 6 (by simp)
    have X7 : wc.cell? ⟨g, 7, none⟩ = some (.int .u8 (a7 : Int)) := hfx 7 (by simp)
    have Y7 : wc.cell? ⟨k, 7, none⟩ = some (.int .u8 (c7 : Int)) := hfy 7 (by simp)
    have X8 : wc.cell? ⟨g, 8, none⟩ = some (.int .u8 (a8 : Int)) := hfx 8 (by simp)
    have Y8 : wc.cell? ⟨k, 8, none⟩ = some (.int .u8 (c8 : Int)) := hfy 8 (by simp)
    have X9 : wc.cell? ⟨g, 9, none⟩ = some (.int .u8 (a9 : Int)) := hfx 9 (by simp)
    have Y9 : wc.cell? ⟨k, 9, none⟩ = some (.int .u8 (c9 : Int)) := hfy 9 (by simp)
    have X10 : wc.cell? ⟨g, 10, none⟩ = some (.int .u8 (b0 : Int)) := hfx 10 (by simp)
    have Y10 : wc.cell? ⟨k, 10, none⟩ = some (.int .u8 (d0 : Int)) := hfy 10 (by simp)
    have X11 : wc.cell? ⟨g, 11, none⟩ = some (.int .u8 (b1 : Int)) := hfx 11 (by simp)
    have Y11 : wc.cell? ⟨k, 11, none⟩ = some (.int .u8 (d1 : Int)) := hfy 11 (by simp)
    have X12 : wc.cell? ⟨g, 12, none⟩ = some (.int .u8 (b2 : Int)) := hfx 12 (by simp)
    have Y12 : wc.cell? ⟨k, 12, none⟩ = some (.int .u8 (d2 : Int)) := hfy 12 (by simp)
    clear hfx hfy
    by_cases hxy : x = y
    · obtain rfl := HS.out hxy
      have ke' := ke
      simp only [decide_eq_true hxy] at ke'
      clear ke HD hxy
      go_wp2
      go_ret
      exact ⟨rfl, HT.out.below⟩
    · have ke' := ke
      simp only [decide_eq_false hxy] at ke'
      clear ke HS
      have HN : Hid (∀ j, j < 13 → (∀ i, i < j + 1 → x.getD i 0 = y.getD i 0) → j + 1 < 13) := fun j hj hs => by
        by_cases e : j + 1 < 13
        · exact e
        · exfalso
          refine hxy (List.ext_getElem (by rw [HXl.out, HYl.out]) fun i h1 h2 => ?_)
          rw [HGx.out, HGy.out]
          exact hs i (by rw [HXl.out] at h1; omega)
      clear hxy
      go_wp2_with (fail)
      clear ke' X0 Y0 X1 Y1 X2 Y2 X3 Y3 X4 Y4 X5 Y5 X6 Y6 X7 Y7 X8 Y8 X9 Y9 X10 Y10 X11 Y11 X12 Y12
      go_loopw [7] (fun iv wr => ∃ j d : Nat, j < 13 ∧ iv = .int .i64 (j : Int) ∧ Hid (∀ i, i < j → x.getD i 0 = y.getD i 0) ∧ wr = wc.drewN d) (fun iv _ => 13 - (intOf iv).toNat)
      case atStart => exact ⟨0, 0, by decide, rfl, fun i hi => absurd hi (by omega), rfl⟩
      case round =>
        obtain ⟨j, d, hj, rfl, hs, rfl⟩ := hrel
        have x0 := HFx.out j hj
        have y0 := HFy.out j hj
        have hj0 : (0 : Int) ≤ (j : Int) := by omega
        have hj13 : (j : Int) < 13 := by omega
        have hxl : x.getD j 0 < 256 := getD_lt HBa.out j
        have hyl : y.getD j 0 < 256 := getD_lt HBb.out j
        have HF : Hid (x.getD j 0 ≠ y.getD j 0 → R = (j : Int) * 8 + (8 - (len8 (x.getD j 0 ^^^ y.getD j 0) : Int))) := HD.out j hj hs.out
        have HG : Hid (x.getD j 0 = y.getD j 0 → j + 1 < 13 ∧ ∀ i, i < j + 1 → x.getD i 0 = y.getD i 0) := fun he => by
          have h1 : ∀ i, i < j + 1 → x.getD i 0 = y.getD i 0 := fun i hi => by
            by_cases e : i = j
            · rw [e]; exact he
            · exact hs.out i (by omega)
          exact ⟨HN.out j hj h1, h1⟩
        generalize x.getD j 0 = X at *
        generalize y.getD j 0 = Y at *
        by_cases hc : X = Y
        · subst hc
          obtain ⟨hj1, hs1⟩ := HG.out rfl
          have HS1 : Hid (∀ i, i < j + 1 → x.getD i 0 = y.getD i 0) := hs1
          clear HF HG hs1
          go_wp2
          go_quiet (fail)
          go_wp2
          go_roundw
          case rel => exact ⟨j + 1, _, hj1, by go_num, HS1.out, by first | rfl | trivial⟩
          case measure => simp [intOf]; omega
        · have hR := HF.out hc
          have hcI : ¬ (X : Int) = (Y : Int) := by omega
          have hcb : ((X : Int) == (Y : Int)) = false := by simp; omega
          have hxr := u8_xor_nat X Y hxl hyl
          have hz8 : X ^^^ Y < 256 := Nat.xor_lt_two_pow (n := 8) hxl hyl
          have kz := fun W => lzT (X ^^^ Y) W hz8
          have hl8 := len8_le hz8
          generalize X ^^^ Y = z at *
          clear HF HG
          go_wp2
          go_quiet (fail)
          go_wp2
          have kne : Nonempty Nat := ⟨0⟩
          have hlI : (len8 z : Int) ≤ 8 := by omega
          have hl0 : (0 : Int) ≤ (len8 z : Int) := by omega
          have kz' : ∀ (W : World) (n : Nat), Calls Try.prog 14 #[.int .u8 (z : Int)] (W.drewN n) fun e w'' => e = .returned (.int .i64 (8 - (len8 z : Int))) ∧ ∃ y : Nat, w'' = W.drewN y := fun W n => (kz _).mono fun _ _ ⟨he, hw⟩ => ⟨he, n, hw⟩
          clear kz
          generalize (len8 z : Int) = lz at *
          have x1 : ((wc.drewN d).drewN nq).cell? ⟨g, j, none⟩ = some (.int .u8 (X : Int)) := x0
          have y1 : ((wc.drewN d).drewN nq).cell? ⟨k, j, none⟩ = some (.int .u8 (Y : Int)) := y0
          have HBW : Hid (Below w.heap.size w ((wc.drewN d).drewN nq)) := bel_drewN (bel_drewN HT.out.below _) _
          generalize (wc.drewN d).drewN nq = WW at *
          clear x0 y0
          refine wp_region_drn _ rfl (by kernel_rfl) (by kernel_rfl) ?_
          repeat (go_big_quiet_step ((go_at_call 14; exact kz' _ _)))
          refine wpQuiet_nil ?_
          rintro wq ⟨nq2, rfl⟩
          go_wp2
          go_ret
          exact ⟨ret_int (by rw [hR]), bel_drewN HBW.out _⟩
end Go.Proofs.Ytpgadbiohmofeab
