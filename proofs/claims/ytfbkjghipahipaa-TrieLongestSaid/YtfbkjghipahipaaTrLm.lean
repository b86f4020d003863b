/-
  What Above tells is what is held and begins the word. No program is named here but in the last rows.
-/
import Derived.Test.YtfbkjghipahipaaTrUq
namespace Go.Proofs.Ytfbkjghipahipaa
open Go.RowKit
set_option linter.unusedVariables false
set_option linter.unusedSimpArgs false

/-- Does the entry begin the word? -/
def bgn (W k : Nat) (e : En) : Bool := decide (k / 2 ^ W = 0) && decide (k / 2 ^ (W - e.n) = e.k / 2 ^ (W - e.n))
theorem ct_mono {W k i j : Nat} (h : i ≤ j) : ct W k i ≤ ct W k j := by
  unfold ct
  have hd : (2 : Nat) ^ (W - j) ∣ 2 ^ (W - i) := Nat.pow_dvd_pow 2 (by omega)
  have h1 : k % 2 ^ (W - j) ≤ k % 2 ^ (W - i) := by
    rw [← Nat.mod_mod_of_dvd k hd]; exact Nat.mod_le _ _
  omega
theorem abv_srt (W : Nat) (L : List En) (k n : Nat) : srt (abv W L k n) := by
  unfold srt abv
  rw [List.pairwise_filterMap]
  refine List.Pairwise.imp ?_ List.pairwise_lt_range
  intro a b hab x hx y hy
  obtain ⟨u, _, rfl⟩ := Option.map_eq_some_iff.1 hx
  obtain ⟨v, _, rfl⟩ := Option.map_eq_some_iff.1 hy
  unfold ltE
  have := ct_mono (W := W) (k := k) (Nat.le_of_lt hab)
  simp only
  omega
theorem abv_mem {W : Nat} {L : List En} (hs : srt L) {k n : Nat} {e : En} : e ∈ abv W L k n ↔ e ∈ L ∧ e.n ≤ n ∧ e.k = ct W k e.n := by
  unfold abv
  rw [List.mem_filterMap]
  constructor
  · rintro ⟨j, hj, hx⟩
    obtain ⟨u, hu, rfl⟩ := Option.map_eq_some_iff.1 hx
    exact ⟨(val_mem hs).1 hu, by have := List.mem_range.1 hj; simp only; omega, rfl⟩
  · rintro ⟨h1, h2, h3⟩
    refine ⟨e.n, List.mem_range.2 (by omega), ?_⟩
    have : val L (ct W k e.n) e.n = some e.v := (val_mem hs).2 (by rw [← h3]; exact h1)
    rw [this, ← h3]; rfl
theorem ct_iff {W k : Nat} {e : En} (h : e.k % 2 ^ (W - e.n) = 0) : k / 2 ^ (W - e.n) = e.k / 2 ^ (W - e.n) ↔ e.k = ct W k e.n := by
  unfold ct
  have hp : 0 < 2 ^ (W - e.n) := Nat.pow_pos (by decide)
  generalize 2 ^ (W - e.n) = p at *
  have h1 := Nat.div_add_mod k p
  have h2 := Nat.div_add_mod e.k p
  rw [h, Nat.add_zero] at h2
  constructor
  · intro q
    rw [← q] at h2
    omega
  · intro q
    have h3 : p * (e.k / p) = p * (k / p) := by omega
    exact (Nat.eq_of_mul_eq_mul_left hp h3).symm
theorem abv_filter {W : Nat} {L : List En} (hs : srt L) (hm : ∀ e ∈ L, May W e.k e.n) (k : Nat) : abvD W L k (W : Int) = L.filter (bgn W k) := by
  unfold abvD
  by_cases hk : k < 2 ^ W
  · have hb : mayB W k (W : Int) = true := mayB_iff.2 ⟨W, rfl, Nat.le_refl _, hk, by rw [Nat.sub_self, Nat.pow_zero, Nat.mod_one]⟩
    rw [if_pos hb, Int.toNat_natCast]
    refine srt_ext (abv_srt _ _ _ _) (List.Pairwise.filter _ hs) fun e => ?_
    rw [abv_mem hs, List.mem_filter]
    constructor
    · rintro ⟨h1, h2, h3⟩
      refine ⟨h1, ?_⟩
      unfold bgn
      rw [Bool.and_eq_true]
      exact ⟨decide_eq_true (Nat.div_eq_of_lt hk), decide_eq_true ((ct_iff (hm e h1).2.2).2 h3)⟩
    · rintro ⟨h1, h2⟩
      unfold bgn at h2
      rw [Bool.and_eq_true] at h2
      exact ⟨h1, (hm e h1).1, (ct_iff (hm e h1).2.2).1 (of_decide_eq_true h2.2)⟩
  · have hb : mayB W k (W : Int) ≠ true := fun q => by
      obtain ⟨m, hm1, hm2⟩ := mayB_iff.1 q
      exact hk hm2.2.1
    rw [if_neg hb]
    symm
    rw [List.filter_eq_nil_iff]
    intro e he h2
    unfold bgn at h2
    rw [Bool.and_eq_true] at h2
    have h3 := of_decide_eq_true h2.1
    rcases (Nat.div_eq_zero_iff).1 h3 with h4 | h4
    · have : 0 < 2 ^ W := Nat.pow_pos (by decide)
      omega
    · exact hk h4
theorem get_held {W : Nat} {L : List En} (hs : srt L) {e : En} (he : e ∈ L) (hm : May W e.k e.n) : getV W L e.k (e.n : Int) = some e.v := by
  unfold getV
  rw [if_pos (mayB_iff.2 ⟨e.n, rfl, hm⟩), Int.toNat_natCast]
  exact (val_mem hs).2 he
theorem srt_next {L : List En} (hs : srt L) {i j : Nat} (hij : j + 1 = i) (hi : i < L.length) : ltE (L[j]'(by omega)) (L[i]'hi) :=
  List.pairwise_iff_getElem.1 hs j i (by omega) hi (by omega)
theorem take_filter {L : List En} (f : En → Bool) {i : Nat} (hi : i < L.length) : (L.take (i + 1)).filter f = if f (L[i]'hi) then (L.take i).filter f ++ [L[i]'hi] else (L.take i).filter f := by
  rw [List.take_succ_eq_append_getElem hi, List.filter_append]
  by_cases h : f (L[i]'hi) = true
  · rw [if_pos h]; simp [List.filter_cons, h]
  · rw [if_neg h]; simp [List.filter_cons, h]
theorem own_cnt {w W : World} {t : Nat} {v : Value} {Wd M : Nat} {L : List En} {ar : Nat} (h : Own w W t v Wd M L ar) : L.length ≤ cntL Wd 0 none L ∧ cntL Wd 0 none L ≤ ar ∧ ar ≤ 1048576 := by
  obtain ⟨a, b, c⟩ := h.tr.cntA
  refine ⟨?_, a, Nat.le_trans c h.hm⟩
  obtain ⟨A, r, f, c, h1, h2, h3⟩ := h.tr
  have := h2.len
  rw [← h2.cnt]
  omega
theorem src_cells {l : List En} {W : World} {ad : Option Addr} {m cap : Nat} (h : SrcE W (.slice ad m cap) l) (h0 : 0 < l.length) : ∃ g off, ad = some ⟨g, off, none⟩ ∧ ∀ W, SrcE W (.slice ad m cap) l → ∀ i (hi : i < l.length), W.cell? ⟨g, off + i * 3, none⟩ = some (.int .u32 ((l[i]'hi).k : Int)) ∧ W.cell? ⟨g, off + i * 3 + 1, none⟩ = some (.int .i64 ((l[i]'hi).n : Int)) ∧ W.cell? ⟨g, off + i * 3 + 2, none⟩ = some (.int .i64 (l[i]'hi).v) := by
  obtain ⟨ad', cap', e, _, h2⟩ := h
  cases e
  obtain ⟨g, off, rfl, _⟩ := h2 h0
  refine ⟨g, off, rfl, fun W h i hi => ?_⟩
  obtain ⟨ad', cap', e, _, h2⟩ := h
  cases e
  obtain ⟨g', off', e, hc⟩ := h2 h0
  cases e
  exact ⟨hc i hi 0 (by decide), hc i hi 1 (by decide), hc i hi 2 (by decide)⟩
theorem range3 {w : World} {b o : Nat} {v0 v1 v2 : Value} (h0 : w.cell? ⟨b, o, none⟩ = some v0) (h1 : w.cell? ⟨b, o + 1, none⟩ = some v1) (h2 : w.cell? ⟨b, o + 2, none⟩ = some v2) : w.rangeAt b o (#[v0, v1, v2] : Array Value).toList := by
  intro j u hj
  match j with
  | 0 => simp at hj; subst hj; exact h0
  | 1 => simp at hj; subst hj; exact h1
  | 2 => simp at hj; subst hj; exact h2
  | j + 3 => simp at hj
theorem wpList_load_mid {P : Program} {ops : Array Oper} {rest : List Oper} {op : Oper} {a : Act} {w : World} {Q : Exit → Act → World → Prop} (hgd : op.guard = none) (ty : TypeId) (x : Operand) (ho : op.op = .load ty x)
    (B o : Nat) (cs : Array Value) (hx : a.eval x = .pointer (some ⟨B, o, none⟩)) (h : w.rangeAt B o cs.toList) {d : TypeDesc} (hu : P.underlying ty = some d) (hd : d.isRow = true) (hi : (P.info? ty).map (·.size) = some cs.size)
    (hk : wpList P ops Q rest (a.put op.dst (.agg cs)) w) : wpList P ops Q (op :: rest) a w := by
  refine wpList_plain hgd fun K hK => ?_
  have hl := run_loadVar_mid (P := P) w B o ty cs.toList d h hu hd (by simpa using hi)
  unfold Oper.wp execOp
  simp only [ho, hx, Instr.loadAt, Instr.sureAddr, Sem.run_bind, Sem.run_pure, Result.andThen_ok, hl]
  exact hK _ _ hk
end Go.Proofs.Ytfbkjghipahipaa
