/-
  (*Table).Match: the first match, by the iterator. Written by tools/mkTbQ.py.
-/
import Derived.Test.YtlghbcdahnjcpaaTbP
namespace Go.Proofs.Ytlghbcdahnjcpaa
open Go.RowKit Go.Shelf
set_option linter.unusedVariables false
set_option linter.unusedSimpArgs false
attribute [local go_sem] Oper.semAt_some

/-- None of them matches. -/
def noneM (h : Hd) (xs : List Rux) : Prop := ∀ x ∈ xs, matchR x.1.2 h = false
theorem noneM_snoc {h : Hd} {xs : List Rux} {x : Rux} (hn : noneM h xs) (hx : matchR x.1.2 h = false) : noneM h (xs ++ [x]) := by
  intro y hy
  rw [List.mem_append] at hy
  rcases hy with hy | hy
  · exact hn y hy
  · rw [List.mem_singleton] at hy; subst hy; exact hx
theorem allX_at : ∀ (l : List Ru) (b k : Nat) (hk : k < l.length), (allX l b)[k]'(by rw [allX_length]; exact hk) = rux (b + k) (l[k]'hk)
  | R :: l, b, 0, hk => by simp [allX]
  | R :: l, b, k + 1, hk => by
    have := allX_at l (b + 1) k (by simpa using hk)
    simp only [allX, List.getElem_cons_succ]
    rw [this, show b + 1 + k = b + (k + 1) by omega]
theorem mat_gen (h : Hd) : ∀ (l : List Ru) (b : Nat), (∀ R ∈ l, matchR R h = false) → matK h l b = -1
  | [], b, _ => rfl
  | R :: l, b, hn => by
    unfold matK
    rw [if_neg (by rw [hn R (by simp)]; decide)]
    exact mat_gen h l (b + 1) (fun S hS => hn S (by simp [hS]))
theorem mat_at_gen (h : Hd) : ∀ (l : List Ru) (b k : Nat) (hk : k < l.length), (∀ j (hj : j < k), matchR (l[j]'(by omega)) h = false) → matchR (l[k]'hk) h = true → matK h l b = ((b + k : Nat) : Int)
  | R :: l, b, 0, hk, _, hm => by
    unfold matK; rw [if_pos (by simpa using hm)]; rfl
  | R :: l, b, k + 1, hk, hn, hm => by
    unfold matK
    rw [if_neg (by have := hn 0 (by omega); simp at this; simp [this]), mat_at_gen h l (b + 1) k (by simpa using hk) (fun j hj => by simpa using hn (j + 1) (by omega)) (by simpa using hm)]
    congr 1; omega
/-- All gone through, none matched. -/
theorem mat_none {l : List Ru} {h : Hd} (hbd : ∀ k (hk : k < l.length), BdR (l[k]'hk)) (hn : noneM h (allX l 0)) : mat l h = -1 := by
  refine mat_gen h l 0 (fun R hR => ?_)
  obtain ⟨k, hk, rfl⟩ := List.mem_iff_getElem.1 hR
  have h1 := hn _ (List.getElem_mem (l := allX l 0) (n := k) (by rw [allX_length]; exact hk))
  rw [allX_at l 0 k hk, Nat.zero_add, rux_in k (hbd k hk)] at h1
  exact h1
/-- Left at the first that matched. -/
theorem mat_stop {l : List Ru} {h : Hd} {pre : List Rux} {x : Rux} (hbd : ∀ k (hk : k < l.length), BdR (l[k]'hk)) (hp : pre ++ [x] <+: allX l 0) (hn : noneM h pre) (hm : matchR x.1.2 h = true) :
    ∃ hk : pre.length < l.length, x.1 = (pre.length, l[pre.length]'hk) ∧ mat l h = (pre.length : Int) := by
  obtain ⟨rest, hr⟩ := hp
  have hlen : (allX l 0).length = l.length := allX_length l 0
  have hk : pre.length < l.length := by rw [← hlen, ← hr]; simp
  have hx : x = rux pre.length (l[pre.length]'hk) := by
    have := allX_at l 0 pre.length hk
    rw [Nat.zero_add] at this
    rw [← this]
    simp [← hr]
  have hx1 : x.1 = (pre.length, l[pre.length]'hk) := by rw [hx, rux_in _ (hbd _ hk)]
  refine ⟨hk, hx1, ?_⟩
  have := mat_at_gen h l 0 pre.length hk (fun j hj => ?_) (by rw [hx1] at hm; exact hm)
  · unfold mat; rw [this, Nat.zero_add]
  · have hj' : j < l.length := by omega
    have h1 := allX_at l 0 j hj'
    rw [Nat.zero_add] at h1
    have h2 : (allX l 0)[j]'(by rw [hlen]; exact hj') = pre[j]'hj := by simp [← hr, List.getElem_append_left, hj]
    have h3 := hn (pre[j]'hj) (List.getElem_mem hj)
    rw [← h2, h1, rux_in _ (hbd _ hj')] at h3
    exact h3
theorem results_two {P : Program} {fn : Func} {tmps : Array Value} {w : World} {t u : Tmp} {ty T ty2 : TypeId} {d : TypeDesc} {B C : Nat} {cs : Array Value} {fr : Nat × Nat} {k : IntKind} {x : Int} (h : fn.results = #[.cell t ty, .cell u ty2]) (hp : tmps.getD t undef = .pointer (some ⟨B, 0, none⟩)) (hq : tmps.getD u undef = .pointer (some ⟨C, 0, none⟩))
    (hb : w.heap[B]? = some (.cells cs T fr)) (hu : P.underlying ty = some d) (hd : d.isRow = true) (hi : (P.info? ty).map (·.size) = some cs.size) (hl2 : (loadVar ty2 ⟨C, 0, none⟩).run P w = .ok (.int k x) w) : (results fn tmps).run P w = .ok (.tuple #[.agg cs, .int k x]) w := by
  have hl := run_loadVar_mid (P := P) w B 0 ty cs.toList d (by have := World.rangeAt_of_block hb 0 cs.size; simpa using this) hu hd (by simpa using hi)
  have hp2 : tmps[t]?.getD undef = .pointer (some ⟨B, 0, none⟩) := by simpa using hp
  have hq2 : tmps[u]?.getD undef = .pointer (some ⟨C, 0, none⟩) := by simpa using hq
  simp [results, h, hp2, hq2, asAddr, hl, hl2]
/-- What stays while the rules are gone through. -/
def Stay (w : World) (h : Hd) (V : World) : Prop := V.heap[w.heap.size]? = some (.cells #[.int .u32 (h.s : Int), .int .u32 (h.d : Int), .int .u16 (h.p : Int), .int .u16 (h.q : Int), .int .u8 (h.r : Int)] 45) ∧ V.heap[w.heap.size + 1]? = some (.cells #[.bool false, .int .i64 0, .int .i64 0] 56) ∧ V.heap[w.heap.size + 1 + 1]? = some (.cells #[.int .i64 0] 3)
/-- What is left where one matched. -/
def Hit (w : World) (p : Nat × Ru) (V : World) : Prop := V.heap[w.heap.size + 1]? = some (.cells #[.bool true, .int .i64 p.2.i, .int .i64 p.2.act] 56) ∧ V.heap[w.heap.size + 1 + 1]? = some (.cells #[.int .i64 (p.1 : Int)] 3)
theorem blk_kept {W W' : World} {row : Option Nat} {B : Nat} {cs : Array Value} {ty : TypeId} {fr : Nat × Nat} (h : W.heap[B]? = some (.cells cs ty fr)) (hg : W.grownBy W' row) (hrow : ∀ r, row = some r → ∃ o : Obj, W.heap[r]? = some o ∧ o.isCells = false) : W'.heap[B]? = some (.cells cs ty fr) := by
  rw [hg.block B (blk_lt h) (fun e => ?_)]
  · exact h
  · obtain ⟨o, ho, hc⟩ := hrow B e.symm
    rw [h] at ho
    cases ho
    cases hc
theorem put4 (V : World) (B C : Nat) (hBC : B ≠ C) {a b c d : Value} (a' b' c' d' : Value) {T U : TypeId} (h1 : V.heap[B]? = some (.cells #[a, b, c] T (0, 0))) (h2 : V.heap[C]? = some (.cells #[d] U (0, 0))) (W : World)
    (hW : W = (((V.setCell ⟨B, 0, none⟩ a').setCell ⟨B, 1, none⟩ b').setCell ⟨B, 2, none⟩ c').setCell ⟨C, 0, none⟩ d') :
    W.heap[B]? = some (.cells #[a', b', c'] T (0, 0)) ∧ W.heap[C]? = some (.cells #[d'] U (0, 0)) ∧ KeepsOthers V W ∧ ∀ n, n ≤ B → n ≤ C → Below n V W := by
  subst hW
  have q1 := blk_set h1 (j := 0) a'
  have q2 := blk_set q1 (j := 1) b'
  have q3 := blk_set q2 (j := 2) c'
  have p1 := blk_far h2 (Ne.symm hBC) (j := 0) a'
  have p2 := blk_far p1 (Ne.symm hBC) (j := 1) b'
  have p3 := blk_far p2 (Ne.symm hBC) (j := 2) c'
  refine ⟨by simpa using blk_far q3 hBC (j := 0) d', by simpa using blk_set p3 (j := 0) d', ((((KeepsOthers.setCell _ _ _).trans (KeepsOthers.setCell _ _ _)).trans (KeepsOthers.setCell _ _ _)).trans (KeepsOthers.setCell _ _ _)), fun n hB hC => ?_⟩
  exact Below.setCell (p := ⟨C, 0, none⟩) (Below.setCell (p := ⟨B, 2, none⟩) (Below.setCell (p := ⟨B, 1, none⟩) (Below.setCell (p := ⟨B, 0, none⟩) (Below.refl n V) hB _) hB _) hB _) hC _
/-- The mark of the loop is taken off, and the two answers are told. -/
theorem tells {P : Program} {V : World} {B C D : Nat} {ds : List Deferred} {cs : Array Value} {T U ty ty2 : TypeId} {d : TypeDesc} {fn : Func} {tmps : Array Value} {t u : Tmp} {k : IntKind} {x : Int} (h1 : V.heap[B]? = some (.cells cs T (0, 0))) (h2 : V.heap[C]? = some (.cells #[.int k x] U (0, 0))) (hD : V.heap[D]? = some (.deferred (some ds)))
    (h : fn.results = #[.cell t ty, .cell u ty2]) (hp : tmps.getD t undef = .pointer (some ⟨B, 0, none⟩)) (hq : tmps.getD u undef = .pointer (some ⟨C, 0, none⟩)) (hu : P.underlying ty = some d) (hd : d.isRow = true) (hi : (P.info? ty).map (·.size) = some cs.size)
    (hl2 : ∀ w : World, w.cell? ⟨C, 0, none⟩ = some (.int k x) → (loadVar ty2 ⟨C, 0, none⟩).run P w = .ok (.int k x) w) : (results fn tmps).run P (V.putObj D (.deferred none)) = .ok (.tuple #[.agg cs, .int k x]) (V.putObj D (.deferred none)) := by
  have hg := grownBy_putObj' V D (.deferred none)
  have hr : ∀ r, some D = some r → ∃ o : Obj, V.heap[r]? = some o ∧ o.isCells = false := fun r e => by cases e; exact ⟨_, hD, rfl⟩
  exact results_two h hp hq (blk_kept h1 hg hr) hu hd hi (hl2 _ (blk_cell (blk_kept h2 hg hr) rfl))
theorem load_int (C : Nat) (x : Int) (w : World) (h : w.cell? ⟨C, 0, none⟩ = some (.int .i64 x)) : (loadVar 3 ⟨C, 0, none⟩).run Try.prog w = .ok (.int .i64 x) w := by
  simp [go_sem, h]
set_option maxRecDepth 100000 in
set_option maxHeartbeats 8000000 in
theorem matchT (t : Nat) (v : Value) (M A : Int) (l : List Ru) (h : Hd) (w : World) (hT : Tab w t v M A l) (hl : l.length ≤ 200000) (hbd : ∀ k (hk : k < l.length), BdR (l[k]'hk)) (oh : OkH h) :
    Calls Try.prog 19 #[.pointer (some ⟨t, 0, none⟩), .agg #[.int .u32 (h.s : Int), .int .u32 (h.d : Int), .int .u16 (h.p : Int), .int .u16 (h.q : Int), .int .u8 (h.r : Int)]] w fun e w' => e = .returned (.tuple #[.agg #[.bool (vdH (mat l h)), .int .i64 (vdI l (mat l h)), .int .i64 (vdA A l (mat l h))], .int .i64 (mat l h)]) ∧ Below w.heap.size w w' := by
  have HT : Hid (Tab w t v M A l) := hT
  have hlt := hT.lt
  have hown : ∀ k, v.ownBlock = some k → k < w.heap.size := fun k e => hT.own e
  obtain ⟨E, hE⟩ : ∃ E, E = Ending.returned (.tuple #[.agg #[.bool (vdH (mat l h)), .int .i64 (vdI l (mat l h)), .int .i64 (vdA A l (mat l h))], .int .i64 (mat l h)]) := ⟨_, rfl⟩
  rw [← hE]
  have HE : Hid (E = Ending.returned (.tuple #[.agg #[.bool (vdH (mat l h)), .int .i64 (vdI l (mat l h)), .int .i64 (vdA A l (mat l h))], .int .i64 (mat l h)])) := hE
  clear hE hT
  refine callsIn_wide.1 (callsIn_of_wp_marks (n := 9) Try.func19 rfl trivial ?_ rfl)
  simp only [Try.ntmps19, List.size_toArray, List.length_cons, List.length_nil, Nat.reduceAdd, Nat.reduceSub, Array.replicate_succ, Array.replicate_zero, List.push_toArray, List.append_toArray, List.nil_append, List.cons_append]
  refine wpIn_wide.2 ?_
  go_wp2_with (fail)
  refine (allC (some ⟨t, 0, none⟩) _).mono ?_
  rintro e w' ⟨rfl, hw⟩
  obtain ⟨W0, hW0⟩ : ∃ W0, W0 = w' := ⟨_, rfl⟩
  have hSt : Stay w h W0 := by
    rw [hW0, hw]
    exact ⟨blk_alloc (blk_alloc (blk_alloc (blk_new w _) _) _) _, blk_alloc (blk_alloc (by simpa using blk_new (w.alloc (.cells #[.int .u32 (h.s : Int), .int .u32 (h.d : Int), .int .u16 (h.p : Int), .int .u16 (h.q : Int), .int .u8 (h.r : Int)] 45)) (.cells #[.bool false, .int .i64 0, .int .i64 0] 56)) _) _, blk_alloc (by simpa using blk_new ((w.alloc (.cells #[.int .u32 (h.s : Int), .int .u32 (h.d : Int), .int .u16 (h.p : Int), .int .u16 (h.q : Int), .int .u8 (h.r : Int)] 45)).alloc (.cells #[.bool false, .int .i64 0, .int .i64 0] 56)) (.cells #[.int .i64 0] 3)) _⟩
  have hcn : W0.cell? ⟨w.heap.size + 1 + 1 + 1, 0, none⟩ = some (.pointer (some ⟨t, 0, none⟩)) := by
    rw [hW0, hw]
    exact blk_cell (by simpa using blk_new (((w.alloc (.cells #[.int .u32 (h.s : Int), .int .u32 (h.d : Int), .int .u16 (h.p : Int), .int .u16 (h.q : Int), .int .u8 (h.r : Int)] 45)).alloc (.cells #[.bool false, .int .i64 0, .int .i64 0] 56)).alloc (.cells #[.int .i64 0] 3)) (.cells #[.pointer (some ⟨t, 0, none⟩)] 27)) rfl
  have hz0 : W0.heap.size = w.heap.size + 1 + 1 + 1 + 1 := by rw [hW0, hw]; simp
  have hb0 : Below w.heap.size w W0 := by
    rw [hW0, hw]
    exact ((((Below.refl _ _).alloc (Nat.le_refl _) _).alloc (by simp) _).alloc (by simp; omega) _).alloc (by simp; omega) _
  rw [← hW0]
  have HS : Hid (Stay w h W0) := hSt
  have HB0 : Hid (Below w.heap.size w W0) := hb0
  clear hW0 hw hSt hb0
  go_wp2_with (fail)
  refine (wpIn_wide (n := 9)).1 ?_
  refine range_top 13 14 6 7 rfl (n₀ := W0.heap.size) (Nat.le_refl _) (all_stops 8 (by decide) (w.heap.size + 1 + 1 + 1) W0.heap.size t v M A l hl hbd W0 (by omega) (by omega) (fun k e => by have := hown k e; omega) (Nat.le_refl _) hcn (HT.out.on HB0.out))
    (fun pre V => Stay w h V ∧ Below w.heap.size w V ∧ (W0.heap.size ≤ V.heap.size ∧ noneM h pre))
    (fun cc pre V => cc = .ret ∧ ∃ (pr : List Rux) (x : Rux), pre = pr ++ [x] ∧ noneM h pr ∧ matchR x.1.2 h = true ∧ Hit w x.1 V ∧ Below w.heap.size w V)
    ?hI ?hIx ?h0 ?assign (fun pre V hi => hi.2.2.1) ?body ?done ?stop
  case hI =>
    rintro s X Y row ⟨⟨a1, a2, a3⟩, b1, b2, b3⟩ hg hr
    have hr' : ∀ r, row = some r → ∃ o : Obj, X.heap[r]? = some o ∧ o.isCells = false := fun r e => (hr r e).2
    exact ⟨⟨blk_kept a1 hg hr', blk_kept a2 hg hr', blk_kept a3 hg hr'⟩, b1.grown hg (by have := b1.size; omega) (fun k e => by have := (hr k e).1; omega), Nat.le_trans b2 hg.size, b3⟩
  case hIx =>
    rintro cc s X Y row ⟨rfl, pr, x, a1, a2, a3, ⟨a4, a5⟩, b1⟩ hg hr
    have hr' : ∀ r, row = some r → ∃ o : Obj, X.heap[r]? = some o ∧ o.isCells = false := fun r e => (hr r e).2
    exact ⟨rfl, pr, x, a1, a2, a3, ⟨blk_kept a4 hg hr', blk_kept a5 hg hr'⟩, b1.grown hg (by have := b1.size; omega) (fun k e => by have := (hr k e).1; omega)⟩
  case h0 => exact ⟨HS.out, HB0.out, Nat.le_refl _, fun x hx => by cases hx⟩
  case assign =>
    intro l pre x V K2 hi hz hK2
    simp only [List.setIfInBounds_toArray, List.set_cons_succ, List.set_cons_zero] at hK2 ⊢
    gi_wp2
    exact hK2
  case body =>
    rintro l' pre ⟨⟨k, p⟩, hp⟩ Bx V hl' ⟨r, hr⟩ hBx hX ⟨⟨s1, s2, s3⟩, hbV, hzV, hn⟩ hN
    simp only [List.setIfInBounds_toArray, List.set_cons_succ, List.set_cons_zero]
    have hX : V.heap[Bx]? = some (.cells #[.int .i64 p.i, .int .u32 (p.s : Int), .int .i64 p.sl, .int .u32 (p.d : Int), .int .i64 p.dl, .int .u16 (p.p.1 : Int), .int .u16 (p.p.2 : Int), .int .u16 (p.q.1 : Int), .int .u16 (p.q.2 : Int), .int .u8 (p.m.1 : Int), .int .u8 (p.m.2 : Int), .int .i64 p.act] 43) := hX
    have hp : BdR p := hp
    have hM := fun W => matchC p h W hp oh
    obtain ⟨d0, d1, d2, d3, d4, d5, d6, d7, d8, d9, d10, d11⟩ := blk12 hX
    obtain ⟨e0, e1, e2, e3, e4⟩ := blk5 s1
    cases hm : matchR p h
    · rw [hm] at hM
      have hQ : ∀ a V', Below V.heap.size V V' → ownPostG W0.heap.size (Below W0.heap.size) (fun pre V => Stay w h V ∧ Below w.heap.size w V ∧ (W0.heap.size ≤ V.heap.size ∧ noneM h pre)) (fun cc pre V => cc = .ret ∧ ∃ (pr : List Rux) (x : Rux), pre = pr ++ [x] ∧ noneM h pr ∧ matchR x.1.2 h = true ∧ Hit w x.1 V ∧ Below w.heap.size w V) (pre ++ [⟨(k, p), hp⟩]) V .normal a V' := fun a V' hb =>
        ⟨⟨hb.size, fun q o _ hq _ => by rw [hb.block q (blk_lt hq)]; exact hq⟩, hb.mono hzV, ⟨blk_on s1 hb, blk_on s2 hb, blk_on s3 hb⟩, hbV.trans (hb.mono hbV.size), Nat.le_trans hzV hb.size, noneM_snoc hn hm⟩
      generalize hQ2 : ownPostG _ _ _ _ _ _ = Q2 at hQ ⊢
      clear hQ2 s1 s2 s3 hX hr hl' hN hn hbV
      gi_wp2_with (refine ⟨trivial, ?_⟩; gi_at_call 44; refine (CallsIn.inRound l' (callsIn_wide.2 (hM _))).mono ?_; rintro e V1 ⟨rfl, hb1⟩)
    · rw [hm] at hM
      have hQ : ∀ a V', KeepsFrom W0.heap.size V V' → Hit w (k, p) V' → Below w.heap.size w V' → ownPostG W0.heap.size (Below W0.heap.size) (fun pre V => Stay w h V ∧ Below w.heap.size w V ∧ (W0.heap.size ≤ V.heap.size ∧ noneM h pre)) (fun cc pre V => cc = .ret ∧ ∃ (pr : List Rux) (x : Rux), pre = pr ++ [x] ∧ noneM h pr ∧ matchR x.1.2 h = true ∧ Hit w x.1 V ∧ Below w.heap.size w V) (pre ++ [⟨(k, p), hp⟩]) V .ret a V' := fun a V' hk hh hb =>
        ⟨hk, rfl, pre, ⟨(k, p), hp⟩, rfl, hn, hm, hh, hb⟩
      generalize hQ2 : ownPostG _ _ _ _ _ _ = Q2 at hQ ⊢
      clear hQ2 hr hl' hN hn
      gi_wp2_with (refine ⟨trivial, ?_⟩; gi_at_call 44; refine (CallsIn.inRound l' (callsIn_wide.2 (hM _))).mono ?_; rintro e V1 ⟨rfl, hb1⟩; obtain ⟨g0, g1, g2, g3, g4, g5, g6, g7, g8, g9, g10, g11⟩ := blk12 (blk_on hX hb1); have t2 := blk_on s2 hb1; have t3 := blk_on s3 hb1; obtain ⟨v0, v1, v2⟩ := blk3 t2; have i0 := blk_cell t3 (j := 0) rfl; have f0 := blk_free t2 0; have f1 := blk_free t2 1; have f2 := blk_free t2 2; have f3 := blk_free t3 0)
      have hP := put4 V1 (w.heap.size + 1) (w.heap.size + 1 + 1) (by omega) (.bool true) (.int .i64 p.i) (.int .i64 p.act) (.int .i64 (k : Int)) t2 t3 _ rfl
      have hkf : KeepsFrom W0.heap.size V V1 := ⟨hb1.size, fun q o _ hq _ => by rw [hb1.block q (blk_lt hq)]; exact hq⟩
      exact hQ _ _ (hkf.trans (hP.2.2.1.from _)) ⟨hP.1, hP.2.1⟩ ((hbV.trans (hb1.mono hbV.size)).trans (hP.2.2.2 w.heap.size (by omega) (by omega)))
  case done =>
    rintro D xs V hD hxs ⟨hSt, hbV, hzV, hn⟩ hK
    subst hxs
    have hmt := mat_none hbd hn
    have HE2 : Hid (E = .returned (.tuple #[.agg #[.bool false, .int .i64 0, .int .i64 A], .int .i64 (-1)])) := by show _ = _; rw [HE.out, hmt]; rfl
    have HbV : Hid (Below w.heap.size w V) := hbV
    obtain ⟨s1, s2, s3⟩ := hSt
    obtain ⟨c0, c1, c2⟩ := blk3 (HT.out.on hbV).1
    obtain ⟨v0, v1, v2⟩ := blk3 s2
    have i0 := blk_cell s3 (j := 0) rfl
    have f0 := blk_free s2 0
    have f1 := blk_free s2 1
    have f2 := blk_free s2 2
    have f3 := blk_free s3 0
    have HD : Hid (V.heap[D]? = some (.deferred (some []))) := hK
    have H2 : Hid (V.heap[w.heap.size + 1]? = some (.cells #[.bool false, .int .i64 0, .int .i64 0] 56)) := s2
    have H3 : Hid (V.heap[w.heap.size + 1 + 1]? = some (.cells #[.int .i64 0] 3)) := s3
    have hneV : ¬ t = w.heap.size + 1 := by omega
    clear hK hn hbV s1 s2 s3 HE hmt
    go_wp2
    have hP := put4 V (w.heap.size + 1) (w.heap.size + 1 + 1) (by omega) (.bool false) (.int .i64 0) (.int .i64 A) (.int .i64 (-1)) H2.out H3.out _ rfl
    have hK' := hP.2.2.1.same D _ HD.out rfl
    refine ⟨by simp, .inl ⟨_, _, rfl, run_takeDeferred hK', ?_⟩⟩
    refine ⟨_, tells hP.1 hP.2.1 hK' Try.results19 rfl rfl Try.underlying56 rfl (by kernel_rfl) (load_int _ _), HE2.out.symm, ?_⟩
    exact (HbV.out.trans (hP.2.2.2 w.heap.size (by omega) (by omega))).trans (belowK_b (w := w) (Nat.le_refl _) _ D _ _ (by omega) hK' rfl rfl)
  case stop =>
    rintro D cc pre V hD hpre ⟨rfl, pr, x, rfl, hn, hm, ⟨h1, h2⟩, hbV⟩ hK
    obtain ⟨hk, hx1, hmt⟩ := mat_stop hbd hpre hn hm
    have HE2 : Hid (E = .returned (.tuple #[.agg #[.bool true, .int .i64 x.1.2.i, .int .i64 x.1.2.act], .int .i64 (x.1.1 : Int)])) := by
      show _ = _
      rw [HE.out, hmt, vdI_at hk, vdA_at hk, hx1]
      have : vdH (pr.length : Int) = true := decide_eq_true (by omega)
      rw [this]
    refine wpIn_wide.2 ?_
    go_wp2
    refine ⟨by simp, .inl ⟨_, _, rfl, run_takeDeferred hK, ?_⟩⟩
    refine ⟨_, tells h1 h2 hK Try.results19 rfl rfl Try.underlying56 rfl (by kernel_rfl) (load_int _ _), HE2.out.symm, ?_⟩
    exact hbV.trans (belowK_b (w := w) (Nat.le_refl _) _ D _ _ (by omega) hK rfl rfl)
end Go.Proofs.Ytlghbcdahnjcpaa
