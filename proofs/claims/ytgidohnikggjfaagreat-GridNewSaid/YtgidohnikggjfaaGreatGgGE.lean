/-
  GgGE: GvE GvK GvI GvA, one behind the other (tools/merge.py).
-/
import Derived.Test.YtgidohnikggjfaaGreatGgGH
import Derived.Test.YtgidohnikggjfaaGreatGgGA
import Derived.Test.YtgidohnikggjfaaGreatTbN
import Derived.Test.YtgidohnikggjfaaGreatTbJ
import Derived.Test.YtgidohnikggjfaaGreatTbD
/-
  An engine in memory; what its calls leave as it was. Lists that may be.
-/
namespace Go.Proofs.YtgidohnikggjfaaGreat
open Go.RowKit
set_option linter.unusedVariables false
set_option linter.unusedSimpArgs false

/-- A list that may be: each rule may be, no id twice, at most 64. -/
structure OkN (l : List Ru) : Prop where
  may : ∀ R ∈ l, okR R = true
  one : (l.map Ru.i).Nodup
  few : l.length ≤ 64
theorem OkN.nil : OkN [] := ⟨by simp, by simp, by simp⟩
theorem OkN.fnd {l : List Ru} (o : OkN l) {k : Nat} (hk : k < l.length) : fnd (l.take k) l[k].i = -1 := by
  rw [fnd_none]
  intro R hR e
  obtain ⟨j, hj, rfl⟩ := List.mem_iff_getElem.1 hR
  rw [List.length_take] at hj
  rw [List.getElem_take] at e
  have h1 := o.one
  rw [List.nodup_iff_pairwise_ne, List.pairwise_iff_getElem] at h1
  exact h1 j k (by simp; omega) (by simp; omega) (by omega) (by simpa using e)
theorem OkN.set {l : List Ru} (o : OkN l) : setE l 64 = 0 := by
  have key : ∀ d, d ≤ l.length → setK 64 (l.take (l.length - d)) (l.drop (l.length - d)) = 0 := fun d => by
    induction d with
    | zero => intro _; exact setK_end (Nat.le_refl _)
    | succ d ih =>
      intro hd
      have hk : l.length - (d + 1) < l.length := by omega
      have hj : joinE (l.take (l.length - (d + 1))) l[l.length - (d + 1)] = 0 := joinE_ok.2 ⟨(okR_err _).1 (o.may _ (List.getElem_mem hk)), o.fnd hk⟩
      have hf := o.few
      rw [setK_next hk hj (by omega), show l.length - (d + 1) + 1 = l.length - d by omega]
      exact ih (by omega)
  have := key l.length (Nat.le_refl _)
  rw [Nat.sub_self] at this
  exact this
theorem OkN.of_set {l : List Ru} {M : Int} (h : setE l M = 0) (hM : M ≤ 64) : OkN l := by
  have o := setE_ok h
  refine ⟨fun R hR => ?_, ?_, ?_⟩
  · obtain ⟨k, hk, rfl⟩ := List.mem_iff_getElem.1 hR
    exact o.may k hk
  · rw [List.nodup_iff_pairwise_ne, List.pairwise_iff_getElem]
    intro i j hi hj hij
    have := o.ne (j := i) (k := j) hij (by simpa using hj)
    simpa using this
  · rcases o.few with e | e
    · rw [e]; simp
    · omega
theorem okN_ins {l : List Ru} (o : OkN l) {M p : Int} {R : Ru} (h : insE l M p R = 0) (hM : M ≤ 64) : OkN (putL l p.toNat R) := by
  have hj : joinE l R = 0 := by
    unfold insE at h
    by_cases e : joinE l R = 0
    · exact e
    · rw [if_neg e] at h; exact absurd h e
  have hlt : (l.length : Int) < M := by
    unfold insE at h
    rw [if_pos hj] at h
    by_cases e : 0 ≤ p ∧ p ≤ l.length
    · rw [if_pos e] at h
      by_cases e2 : M ≤ l.length
      · rw [if_pos e2] at h; exact absurd h (by decide)
      · omega
    · rw [if_neg e] at h; exact absurd h (by decide)
  obtain ⟨j1, j2⟩ := joinE_ok.1 hj
  have hp : (putL l p.toNat R).Perm (R :: l) := by
    unfold putL
    refine (List.perm_middle).trans ?_
    rw [List.take_append_drop]
  refine ⟨fun S hS => ?_, ?_, ?_⟩
  · rcases List.mem_cons.1 (hp.mem_iff.1 hS) with rfl | hS
    · exact (okR_err _).2 j1
    · exact o.may S hS
  · rw [(hp.map Ru.i).nodup_iff, List.map_cons, List.nodup_cons]
    refine ⟨fun hm => ?_, o.one⟩
    obtain ⟨S, hS, e⟩ := List.mem_map.1 hm
    exact (fnd_none.1 j2) S hS e
  · rw [hp.length_eq, List.length_cons]; omega
theorem outL_sub (l : List Ru) (k : Nat) : (outL l k).Sublist l := by
  unfold outL
  conv => rhs; rw [← List.take_append_drop k l]
  exact List.Sublist.append_left (List.drop_sublist_drop_left l (Nat.le_succ k)) _
theorem okN_sub {l m : List Ru} (o : OkN l) (h : m.Sublist l) : OkN m := ⟨fun R hR => o.may R (h.subset hR), (h.map Ru.i).nodup o.one, Nat.le_trans h.length_le o.few⟩
theorem delL_sub (l : List Ru) (x : Int) : (delL l x).Sublist l := by
  unfold delL; split
  · exact outL_sub l _
  · exact List.Sublist.refl l
theorem putL_mem {l : List Ru} {p : Nat} {R S : Ru} (h : S ∈ putL l p R) : S = R ∨ S ∈ l := by
  unfold putL at h
  rcases List.mem_append.1 h with h | h
  · exact .inr (List.mem_of_mem_take h)
  · rcases List.mem_cons.1 h with h | h
    · exact .inl h
    · exact .inr (List.mem_of_mem_drop h)
theorem OkN.all {l : List Ru} (o : OkN l) (b : ∀ R ∈ l, BdR R) : OkA l := fun R hR => ⟨b R hR, o.may R hR⟩

/-- The blocks that an engine has besides its own. -/
def Foot (t : Nat) (v nv lv : Value) (vs : List Value) (k : Nat) : Prop := k = t ∨ v.ownBlock = some k ∨ nv.ownBlock = some k ∨ lv.ownBlock = some k ∨ ∃ u ∈ vs, u.ownBlock = some k
def CE (t : Nat) (c : Cf) (nv lv : Value) : Obj := .cells #[.pointer (some ⟨t, 0, none⟩), .int .i64 c.a, .int .i64 c.g, nv, lv] 78 (0, 0)
structure EngF (w : World) (X : Nat) (c : Cf) (l : List Ru) (N : List Gn) (LS : List (List Nat)) (t : Nat) (v nv lv : Value) (vs : List Value) : Prop where
  blk : w.heap[X]? = some (CE t c nv lv)
  tab : Tab w t v c.m c.a l
  fr : Fr w nv lv N LS
/-- The engine in block X; S: where its parts lie. -/
structure Eng (w : World) (X : Nat) (c : Cf) (l : List Ru) (N : List Gn) (LS : List (List Nat)) (S : Nat → Prop) : Prop where
  at' : ∃ t v nv lv vs, EngF w X c l N LS t v nv lv vs ∧ ∀ k, Foot t v nv lv vs k → S k
  plt : Plg l N LS
  ok : OkN l
  bd : ∀ R ∈ l, BdR R
  nX : ¬ S X
theorem Eng.lt {w : World} {X : Nat} {c : Cf} {l : List Ru} {N : List Gn} {LS : List (List Nat)} {S : Nat → Prop} (h : Eng w X c l N LS S) : X < w.heap.size := by
  obtain ⟨t, v, nv, lv, vs, e, _⟩ := h.at'
  exact blk_lt e.blk
theorem tab_stay {w w1 : World} {t : Nat} {v : Value} {M A : Int} {l : List Ru} (h : Tab w t v M A l) (ht : w1.heap[t]? = w.heap[t]?) (hv : ∀ k, v.ownBlock = some k → w1.heap[k]? = w.heap[k]?) : Tab w1 t v M A l := by
  refine ⟨ht.trans h.1, ?_, h.2.2⟩
  refine ⟨h.2.1.1, ?_⟩
  rcases h.2.1.2 with h2 | ⟨g, cap, cur, e, hg, hh, q⟩
  · exact .inl h2
  · exact .inr ⟨g, cap, cur, e, hg, by rw [hv g (by rw [e]; rfl)]; exact hh, q⟩
theorem EngF.stay {w w1 : World} {X : Nat} {c : Cf} {l : List Ru} {N : List Gn} {LS : List (List Nat)} {t : Nat} {v nv lv : Value} {vs : List Value} (h : EngF w X c l N LS t v nv lv vs) (hs : w.heap.size ≤ w1.heap.size) (hk : ∀ k, k < w.heap.size → (k = X ∨ Foot t v nv lv vs k) → w1.heap[k]? = w.heap[k]?) : EngF w1 X c l N LS t v nv lv vs :=
  ⟨(hk X (blk_lt h.blk) (.inl rfl)).trans h.blk, tab_stay h.tab (hk t h.tab.lt (.inr (.inl rfl))) (fun k e => hk k (h.tab.own e) (.inr (.inr (.inl e)))),
    fr_stay h.fr (fun k e => hk k (h.fr.nod.lt k e).2 (.inr (.inr (.inr (.inl e))))) (fun k e => hk k (h.fr.lw k e) (.inr (.inr (.inr (.inr (.inl e))))))⟩
theorem Eng.stay {w w1 : World} {X : Nat} {c : Cf} {l : List Ru} {N : List Gn} {LS : List (List Nat)} {S : Nat → Prop} (h : Eng w X c l N LS S) (hs : w.heap.size ≤ w1.heap.size) (hk : ∀ k, k < w.heap.size → (k = X ∨ S k) → w1.heap[k]? = w.heap[k]?) : Eng w1 X c l N LS S := by
  obtain ⟨t, v, nv, lv, vs, e, f⟩ := h.at'
  exact ⟨⟨t, v, nv, lv, vs, e.stay hs (fun k h1 h2 => hk k h1 (h2.imp id (f k))), f⟩, h.plt, h.ok, h.bd, h.nX⟩
theorem Eng.on {w w1 : World} {X : Nat} {c : Cf} {l : List Ru} {N : List Gn} {LS : List (List Nat)} {S : Nat → Prop} (h : Eng w X c l N LS S) (hb : Below w.heap.size w w1) : Eng w1 X c l N LS S := h.stay hb.size (fun k hk _ => hb.block k hk)
/-- Another engine was written. -/
theorem Eng.apart {w w1 : World} {X Y : Nat} {c : Cf} {l : List Ru} {N : List Gn} {LS : List (List Nat)} {S : Nat → Prop} (h : Eng w X c l N LS S) (hg : w.grownBy w1 (some Y)) (h1 : X ≠ Y) (h2 : ¬ S Y) : Eng w1 X c l N LS S :=
  h.stay hg.size (fun k hk e => hg.block k hk (fun e' => by
    injection e' with e'
    subst e'
    rcases e with e | e
    · exact h1 e.symm
    · exact h2 e))
theorem Eng.mono {w : World} {X : Nat} {c : Cf} {l : List Ru} {N : List Gn} {LS : List (List Nat)} {S S' : Nat → Prop} (h : Eng w X c l N LS S) (hs : ∀ k, S k → S' k) (hX : ¬ S' X) : Eng w X c l N LS S' := by
  obtain ⟨t, v, nv, lv, vs, e, f⟩ := h.at'
  exact ⟨⟨t, v, nv, lv, vs, e, fun k hk => hs k (f k hk)⟩, h.plt, h.ok, h.bd, hX⟩
theorem grown_below2 {w w1 w2 : World} {X : Nat} (hb : Below w.heap.size w w1) (hg : w1.grownBy w2 (some X)) : w.grownBy w2 (some X) :=
  ⟨hg.os.trans hb.os, hg.tape.trans hb.tape, hg.output.trans hb.output, Nat.le_trans hb.size hg.size, fun k hk e => by rw [hg.block k (Nat.lt_of_lt_of_le hk hb.size) e, hb.block k hk]⟩
theorem grown_then {w w1 w2 : World} {X : Nat} (hg : w.grownBy w1 (some X)) (hb : Below w1.heap.size w1 w2) : w.grownBy w2 (some X) :=
  ⟨hb.os.trans hg.os, hb.tape.trans hg.tape, hb.output.trans hg.output, Nat.le_trans hg.size hb.size, fun k hk e => by rw [hb.block k (Nat.lt_of_lt_of_le hk hg.size), hg.block k hk e]⟩
theorem grown_of {w w' : World} (X : Nat) (h : Below w.heap.size w w') : w.grownBy w' (some X) := ⟨h.os, h.tape, h.output, h.size, fun k hk _ => h.block k hk⟩
theorem only_grown {w w' : World} {X : Nat} (h : Only X w w') : w.grownBy w' (some X) := ⟨h.os, h.tape, h.output, Nat.le_of_eq h.size.symm, fun k _ e => h.block k (fun e' => e (by rw [e']))⟩
end Go.Proofs.YtgidohnikggjfaaGreat
/-
  The engine's calls that change it: New, Insert, Delete, Set.
-/
namespace Go.Proofs.YtgidohnikggjfaaGreat
open Go.RowKit
set_option linter.unusedVariables false
set_option linter.unusedSimpArgs false

theorem blkE {w : World} {X t : Nat} {c : Cf} {nv lv : Value} (h : w.heap[X]? = some (CE t c nv lv)) : w.cell? ⟨X, 0, none⟩ = some (.pointer (some ⟨t, 0, none⟩)) ∧ w.cell? ⟨X, 1, none⟩ = some (.int .i64 c.a) ∧ w.cell? ⟨X, 2, none⟩ = some (.int .i64 c.g) ∧ w.cell? ⟨X, 3, none⟩ = some nv ∧ w.cell? ⟨X, 4, none⟩ = some lv ∧ ∀ j, w.frozen? ⟨X, j, none⟩ = false :=
  ⟨blk_cell h rfl, blk_cell h rfl, blk_cell h rfl, blk_cell h rfl, blk_cell h rfl, blk_free h⟩
set_option maxHeartbeats 1000000 in
theorem keepPC (X t t' : Nat) (c : Cf) (nv lv : Value) (w : World) (h : w.heap[X]? = some (CE t c nv lv)) :
    Calls Tryz.prog 75 #[.pointer (some ⟨X, 0, none⟩), .pointer (some ⟨t', 0, none⟩)] w fun e w' => e = .returned (.tuple #[]) ∧ w'.heap[X]? = some (CE t' c nv lv) ∧ Only X w w' := by
  have HX : Hid ((w.setCell ⟨X, 0, none⟩ (.pointer (some ⟨t', 0, none⟩))).heap[X]? = some (CE t' c nv lv)) := blk_set h _
  have HO : Hid (Only X w (w.setCell ⟨X, 0, none⟩ (.pointer (some ⟨t', 0, none⟩)))) := only_setCellF w X 0 _
  obtain ⟨c0, _, _, _, _, hz⟩ := blkE h
  have hz0 := hz 0
  clear hz h
  go_enter Tryz.func75, Tryz.ntmps75
  go_wp2_with (fail)
  go_end0
  exact ⟨rfl, HX.out, HO.out⟩
set_option maxHeartbeats 1000000 in
theorem draftPC (X t : Nat) (c : Cf) (nv lv v : Value) (l : List Ru) (w : World) (h : w.heap[X]? = some (CE t c nv lv)) (hT : Tab w t v c.m c.a l) (hl : l.length ≤ 64) :
    Calls Tryz.prog 34 #[.pointer (some ⟨X, 0, none⟩)] w fun e w' => ∃ (t' : Nat) (v' : Value), e = .returned (.pointer (some ⟨t', 0, none⟩)) ∧ Tab w' t' v' c.m c.a l ∧ w.heap.size ≤ t' ∧ (∀ k, v'.ownBlock = some k → w.heap.size ≤ k) ∧ Below w.heap.size w w' := by
  have hC := cloneC t v c.m c.a l w hT (by omega)
  obtain ⟨c0, _, _, _, _, _⟩ := blkE h
  clear h hT hl
  go_enter Tryz.func34, Tryz.ntmps34
  go_wp2_with (go_at_call 50; fail)
  refine hC.mono ?_
  rintro e w1 ⟨t', v', rfl, a1, a2, a3, a4⟩
  have H1 : Hid _ := a1
  have H2 : Hid _ := a2
  have H3 : Hid _ := a3
  have H4 : Hid _ := a4
  clear a1 a2 a3 a4 hC
  go_wp2_with (fail)
  go_ret
  exact ⟨_, v', rfl, H1.out, H2.out, H3.out, H4.out⟩
set_option maxHeartbeats 4000000 in
set_option maxRecDepth 20000 in
theorem takePC (X t0 t b : Nat) (c : Cf) (nv0 lv0 v : Value) (l : List Ru) (w : World) (h : w.heap[X]? = some (CE t0 c nv0 lv0)) (hT : Tab w t v c.m c.a l) (hXb : X < b) (hbt : b ≤ t) (hbv : ∀ k, v.ownBlock = some k → b ≤ k) (hbw : b ≤ w.heap.size) (ok : OkN l) (bd : ∀ R ∈ l, BdR R) :
    Calls Tryz.prog 54 #[.pointer (some ⟨X, 0, none⟩), .pointer (some ⟨t, 0, none⟩)] w fun e w' => e = .returned (.tuple #[]) ∧ ∃ (N : List Gn) (LS : List (List Nat)), Eng w' X c l N LS (fun k => b ≤ k) ∧ w.grownBy w' (some X) := by
  have hK := keepPC X t0 t c nv0 lv0 w h
  have HT : Hid (Tab w t v c.m c.a l) := hT
  have Hok : Hid (OkN l) := ok
  have Hbd : Hid (∀ R ∈ l, BdR R) := bd
  have Hv : Hid (∀ k, v.ownBlock = some k → b ≤ k) := hbv
  clear h hT ok bd hbv
  go_enter Tryz.func54, Tryz.ntmps54
  go_wp2_with (go_at_call 75; fail)
  refine hK.mono ?_
  rintro e w1 ⟨rfl, hX1, ho1⟩
  have HX1 : Hid _ := hX1
  have HO1 : Hid (Only X w w1) := ho1
  have HT1 : Hid (Tab w1 t v c.m c.a l) := tab_stay HT.out (ho1.block t (by omega)) (fun k e => ho1.block k (by have := Hv.out k e; omega))
  have hR := rulesC t v c.m c.a l w1 HT1.out (Nat.le_trans Hok.out.few (by decide))
  clear hX1 ho1 hK
  go_wp2_with (go_at_call 53; fail)
  refine hR.mono ?_
  rintro e w2 ⟨u, rfl, hr2, hb2⟩
  have HB2 : Hid (Below w1.heap.size w1 w2) := hb2
  have hP := plantC l u w2 hr2.src Hok.out.few (Hok.out.all Hbd.out)
  obtain ⟨au, cu, rfl, _⟩ := hr2.form
  clear hr2 hb2 hR
  go_wp2_with (go_at_call 76; fail)
  refine hP.mono ?_
  rintro e w3 ⟨nv, lv, N, LS, rfl, hf3, hpl3, hfn3, hb3⟩
  have HF3 : Hid (Fr w3 nv lv N LS) := hf3
  have HP3 : Hid (Plg l N LS) := hpl3
  have HN3 : Hid (Frn w2.heap.size nv lv) := hfn3
  have HB3 : Hid (Below w1.heap.size w1 w3) := HB2.out.trans (hb3.mono HB2.out.size)
  have HX3 : Hid (w3.heap[X]? = some (CE t c nv0 lv0)) := blk_on HX1.out HB3.out
  obtain ⟨adn, capn, hnv, _, _⟩ := hf3.nod.form
  obtain ⟨C, hC, _⟩ := hf3.lst
  obtain ⟨adl, capl, hlv, _⟩ := hC.form
  generalize N.length = nn at hnv
  generalize C.length = nl at hlv
  subst hnv hlv
  clear hC hf3 hpl3 hfn3 hb3 hP
  have hw1 : w1.heap.size = w.heap.size := HO1.out.size
  go_wp2_with (refine wpList_store_blk rfl 76 (.tmp 14) (.tmp 12) rfl X 3 #[.slice adn nn capn, .slice adl nl capl] #[.pointer (some ⟨t, 0, none⟩), .int .i64 c.a, .int .i64 c.g, .slice adn nn capn, .slice adl nl capl] rfl rfl 78 _ HX3.out (Nat.le_of_ble_eq_true rfl) rfl (by kernel_rfl) rfl ?_; intro w4 hw4 how4)
  go_end0
  have s2 := HB2.out.size
  have f1 : ∀ k, (Value.slice adn nn capn).ownBlock = some k → b ≤ k := fun k e => by have := HN3.out.1 k e; omega
  have f2 : ∀ k, (Value.slice adl nl capl).ownBlock = some k → b ≤ k := fun k e => by have := HN3.out.2 k e; omega
  refine ⟨rfl, ⟨N, LS, ⟨⟨t, v, .slice adn nn capn, .slice adl nl capl, [], ⟨hw4, tab_stay (HT1.out.on HB3.out) (how4.block t (by omega)) (fun k e => how4.block k (by have := Hv.out k e; omega)), HF3.out.only how4 (fun e => by have := f1 _ e; omega) (fun e => by have := f2 _ e; omega)⟩, ?_⟩, HP3.out, Hok.out, Hbd.out, by omega⟩⟩, ?_⟩
  · rintro k (rfl | e | e | e | ⟨u, hu, e⟩)
    · exact hbt
    · exact Hv.out k e
    · exact f1 k e
    · exact f2 k e
    · simp at hu
  · exact (World.grownBy.trans (only_grown HO1.out) (grown_then (grown_of X HB3.out) (Below.refl _ _))).trans (only_grown how4)
/-- Room: how large the rules are. -/
def grdZ (l : List Ru) : Int := (grdN witX (l.map pr) : Nat)
theorem grdL_ok {l : List Ru} (o : OkN l) : grdL l = grdN witX (l.map pr) := if_pos o.set
def roomE (c : Cf) (l : List Ru) : Int := if c.g < grdZ l then 170 else 0
set_option maxHeartbeats 4000000 in
set_option maxRecDepth 20000 in
theorem takeIfRoomPC (X t0 t b : Nat) (c : Cf) (nv0 lv0 v : Value) (l : List Ru) (w : World) (h : w.heap[X]? = some (CE t0 c nv0 lv0)) (hT : Tab w t v c.m c.a l) (hXb : X < b) (hbt : b ≤ t) (hbv : ∀ k, v.ownBlock = some k → b ≤ k) (hbw : b ≤ w.heap.size) (ok : OkN l) (bd : ∀ R ∈ l, BdR R) :
    Calls Tryz.prog 36 #[.pointer (some ⟨X, 0, none⟩), .pointer (some ⟨t, 0, none⟩)] w fun e w' => e = .returned (.int .i64 (roomE c l)) ∧ ((roomE c l ≠ 0 ∧ Below w.heap.size w w') ∨ (roomE c l = 0 ∧ ∃ (N : List Gn) (LS : List (List Nat)), Eng w' X c l N LS (fun k => b ≤ k) ∧ w.grownBy w' (some X))) := by
  have hR := rulesC t v c.m c.a l w hT (Nat.le_trans ok.few (by decide))
  have HX : Hid (w.heap[X]? = some (CE t0 c nv0 lv0)) := h
  have HT : Hid (Tab w t v c.m c.a l) := hT
  have Hok : Hid (OkN l) := ok
  have Hbd : Hid (∀ R ∈ l, BdR R) := bd
  have Hv : Hid (∀ k, v.ownBlock = some k → b ≤ k) := hbv
  clear h hT ok bd hbv
  go_enter Tryz.func36, Tryz.ntmps36
  go_wp2_with (go_at_call 53; fail)
  refine hR.mono ?_
  rintro e w2 ⟨u, rfl, hr2, hb2⟩
  have HB2 : Hid (Below w.heap.size w w2) := hb2
  have hP := gridC l u w2 hr2.src (Nat.le_trans Hok.out.few (by decide)) Hbd.out
  rw [Hok.out.set, grdL_ok Hok.out] at hP
  obtain ⟨au, cu, rfl, _⟩ := hr2.form
  clear hr2 hb2 hR
  go_wp2_with (go_at_call 52; fail)
  refine hP.mono ?_
  rintro e w3 ⟨rfl, hb3⟩
  have HB3 : Hid (Below w.heap.size w w3) := HB2.out.trans (hb3.mono HB2.out.size)
  have HX3 : Hid (w3.heap[X]? = some (CE t0 c nv0 lv0)) := blk_on HX.out HB3.out
  obtain ⟨_, _, x2, _, _, _⟩ := blkE HX3.out
  have Hz : Hid (grdZ l = ((grdN witX (l.map pr) : Nat) : Int)) := rfl
  generalize grdN witX (l.map pr) = Q at *
  clear hb3 hP
  by_cases hr : c.g < grdZ l
  · have HE : Hid (roomE c l = 170) := if_pos hr
    have hq : c.g < (Q : Int) := by rw [← Hz.out]; exact hr
    clear hr
    go_wp2_with (fail)
    go_ret
    exact ⟨ret_int HE.out.symm, .inl ⟨by rw [HE.out]; decide, HB3.out⟩⟩
  · have HE : Hid (roomE c l = 0) := if_neg hr
    have hq : ¬ c.g < (Q : Int) := by rw [← Hz.out]; exact hr
    have hTk := takePC X t0 t b c nv0 lv0 v l w3 HX3.out (HT.out.on HB3.out) hXb hbt Hv.out (Nat.le_trans hbw HB3.out.size) Hok.out Hbd.out
    clear hr
    go_wp2_with (go_at_call 54; fail)
    refine hTk.mono ?_
    rintro e w4 ⟨rfl, N, LS, he4, hg4⟩
    have HE4 : Hid _ := he4
    have HG4 : Hid _ := hg4
    clear he4 hg4 hTk
    go_wp2_with (fail)
    go_ret
    exact ⟨ret_int HE.out.symm, .inr ⟨HE.out, N, LS, HE4.out, grown_below2 HB3.out HG4.out⟩⟩
end Go.Proofs.YtgidohnikggjfaaGreat
/-
  The engine's New, Insert, Delete, Set.
-/
namespace Go.Proofs.YtgidohnikggjfaaGreat
open Go.RowKit
set_option linter.unusedVariables false
set_option linter.unusedSimpArgs false

def CfV (c : Cf) : Value := .agg #[.int .i64 c.m, .int .i64 c.a, .int .i64 c.p, .int .i64 c.g, .int .i64 c.t, .int .i64 c.b, .int .i64 c.d]
set_option maxHeartbeats 1000000 in
theorem newE (c : Cf) (o : BdC c) (h : okC c = true) (w : World) : Calls Tryz.prog 7 #[.agg #[.int .i64 c.m, .int .i64 c.a, .int .i64 c.p, .int .i64 c.g, .int .i64 c.t, .int .i64 c.b, .int .i64 c.d]] w fun e w' =>
    ∃ X : Nat, e = .returned (.tuple #[.pointer (some ⟨X, 0, none⟩), .int .i64 0]) ∧ Eng w' X c [] [] [] (fun k => w.heap.size ≤ k ∧ k < X) ∧ w.heap.size ≤ X ∧ Below w.heap.size w w' := by
  have hC := newOk c o h (w.alloc (.cells #[.int .i64 c.m, .int .i64 c.a, .int .i64 c.p, .int .i64 c.g, .int .i64 c.t, .int .i64 c.b, .int .i64 c.d] 24))
  clear h o
  go_enter Tryz.func7, Tryz.ntmps7
  go_wp2_with (go_at_call 15; fail)
  refine hC.mono ?_
  rintro e w1 ⟨t, rfl, hT1, ht1, hb1⟩
  have HB1 : Hid (Below w.heap.size w w1) := ((Below.refl _ _).alloc (Nat.le_refl _) _).trans (hb1.mono (by simp))
  have HT1 : Hid (Tab w1 t (.slice none 0 0) c.m c.a []) := hT1
  have Ht1 : Hid (w.heap.size < t) := by simp at ht1; show _ < _; omega
  have x1 : w1.cell? ⟨w.heap.size, 1, none⟩ = some (.int .i64 c.a) := cell_on1 hb1 (blk_cell (blk_new w _) rfl)
  have x2 : w1.cell? ⟨w.heap.size, 3, none⟩ = some (.int .i64 c.g) := cell_on1 hb1 (blk_cell (blk_new w _) rfl)
  clear hb1 hC hT1 ht1
  go_wp2_with (fail)
  refine bodyPost_ret (v := .tuple #[.pointer (some ⟨w1.heap.size, 0, none⟩), .int .i64 0]) (by simp [results, Tryz.results7, go_sem]) rfl ?_
  have hb2 : Below w1.heap.size w1 (w1.alloc (.cells #[.pointer (some ⟨t, 0, none⟩), .int .i64 c.a, .int .i64 c.g, .slice none 0 0, .slice none 0 0] 78)) := (Below.refl _ _).alloc (Nat.le_refl _) _
  refine ⟨_, rfl, ⟨⟨t, .slice none 0 0, .slice none 0 0, .slice none 0 0, [], ⟨blk_new w1 _, HT1.out.on hb2, Fr.nil _⟩, ?_⟩, .inl ⟨rfl, rfl, rfl⟩, OkN.nil, by simp, by omega⟩, HB1.out.size, HB1.out.alloc HB1.out.size _⟩
  rintro k (rfl | e | e | e | ⟨u, hu, e⟩)
  · exact ⟨Nat.le_of_lt Ht1.out, HT1.out.lt⟩
  · simp [Value.ownBlock] at e
  · simp [Value.ownBlock] at e
  · simp [Value.ownBlock] at e
  · simp at hu
set_option maxHeartbeats 1000000 in
theorem newNo (c : Cf) (o : BdC c) (h : okC c = false) (w : World) : Calls Tryz.prog 7 #[.agg #[.int .i64 c.m, .int .i64 c.a, .int .i64 c.p, .int .i64 c.g, .int .i64 c.t, .int .i64 c.b, .int .i64 c.d]] w fun e w' =>
    e = .returned (.tuple #[.pointer none, .int .i64 110]) ∧ Below w.heap.size w w' := by
  have hC := newBad c o h (w.alloc (.cells #[.int .i64 c.m, .int .i64 c.a, .int .i64 c.p, .int .i64 c.g, .int .i64 c.t, .int .i64 c.b, .int .i64 c.d] 24))
  clear h o
  go_enter Tryz.func7, Tryz.ntmps7
  go_wp2_with (go_at_call 15; fail)
  refine hC.mono ?_
  rintro e w1 ⟨rfl, hb1⟩
  have HB1 : Hid (Below w.heap.size w w1) := ((Below.refl _ _).alloc (Nat.le_refl _) _).trans (hb1.mono (by simp))
  clear hb1 hC
  go_wp2_with (fail)
  refine bodyPost_ret (v := .tuple #[.pointer none, .int .i64 110]) (by simp [results, Tryz.results7, go_sem]) rfl ?_
  exact ⟨rfl, HB1.out⟩
def pinE (c : Cf) (l : List Ru) (p : Int) (R : Ru) : Int := if insE l c.m p R = 0 then roomE c (putL l p.toNat R) else insE l c.m p R
def pinL (c : Cf) (l : List Ru) (p : Int) (R : Ru) : List Ru := if pinE c l p R = 0 then putL l p.toNat R else l
def psetE (c : Cf) (m : List Ru) : Int := if setE m c.m = 0 then roomE c m else setE m c.m
def psetL (c : Cf) (m l : List Ru) : List Ru := if psetE c m = 0 then m else l
theorem room_ne {c : Cf} {l : List Ru} (h : roomE c l ≠ 0) : roomE c l = 170 := by
  unfold roomE at h ⊢
  split
  · rfl
  · rename_i e; rw [if_neg e] at h; exact absurd rfl h
/-- What a call that may change an engine does. -/
def Did (w w' : World) (X : Nat) (c : Cf) (l' : List Ru) (S : Nat → Prop) : Prop := ∃ (N' : List Gn) (LS' : List (List Nat)), Eng w' X c l' N' LS' (fun k => S k ∨ w.heap.size ≤ k) ∧ w.grownBy w' (some X)
theorem Eng.did {w w' : World} {X : Nat} {c : Cf} {l : List Ru} {N : List Gn} {LS : List (List Nat)} {S : Nat → Prop} (h : Eng w X c l N LS S) (hb : Below w.heap.size w w') : Did w w' X c l S :=
  ⟨N, LS, (h.on hb).mono (fun k e => .inl e) (fun e => by
    rcases e with e | e
    · exact h.nX e
    · have := h.lt; omega), grown_of X hb⟩
theorem Eng.did2 {w w1 w' : World} {X : Nat} {c : Cf} {l l' : List Ru} {N N' : List Gn} {LS LS' : List (List Nat)} {S : Nat → Prop} (h : Eng w X c l N LS S) (hb : Below w.heap.size w w1) (he : Eng w' X c l' N' LS' (fun k => w.heap.size ≤ k)) (hg : w1.grownBy w' (some X)) : Did w w' X c l' S :=
  ⟨N', LS', he.mono (fun k e => .inr e) (fun e => by
    rcases e with e | e
    · exact h.nX e
    · have := h.lt; omega), grown_below2 hb hg⟩
set_option maxHeartbeats 4000000 in
set_option maxRecDepth 20000 in
theorem insertE (X : Nat) (c : Cf) (l : List Ru) (N : List Gn) (LS : List (List Nat)) (S : Nat → Prop) (p : Int) (R : Ru) (w : World) (h : Eng w X c l N LS S) (b : BdR R) (hc : BdC c) (hm : c.m ≤ 64) :
    Calls Tryz.prog 18 #[.pointer (some ⟨X, 0, none⟩), .int .i64 p, .agg #[.int .i64 R.i, .int .u32 (R.s : Int), .int .i64 R.sl, .int .u32 (R.d : Int), .int .i64 R.dl, .int .u16 (R.p.1 : Int), .int .u16 (R.p.2 : Int), .int .u16 (R.q.1 : Int), .int .u16 (R.q.2 : Int), .int .u8 (R.m.1 : Int), .int .u8 (R.m.2 : Int), .int .i64 R.act]] w fun e w' => e = .returned (.int .i64 (pinE c l p R)) ∧ Did w w' X c (pinL c l p R) S := by
  have HE : Hid (Eng w X c l N LS S) := h
  obtain ⟨t, v, nv, lv, vs, he, hf⟩ := h.at'
  have hXl := h.lt
  have hb0 : Below w.heap.size w (w.alloc (.cells #[.int .i64 R.i, .int .u32 (R.s : Int), .int .i64 R.sl, .int .u32 (R.d : Int), .int .i64 R.dl, .int .u16 (R.p.1 : Int), .int .u16 (R.p.2 : Int), .int .u16 (R.q.1 : Int), .int .u16 (R.q.2 : Int), .int .u8 (R.m.1 : Int), .int .u8 (R.m.2 : Int), .int .i64 R.act] 64)) := (Below.refl _ _).alloc (Nat.le_refl _) _
  have HB0 : Hid (Below w.heap.size w (w.alloc (.cells #[.int .i64 R.i, .int .u32 (R.s : Int), .int .i64 R.sl, .int .u32 (R.d : Int), .int .i64 R.dl, .int .u16 (R.p.1 : Int), .int .u16 (R.p.2 : Int), .int .u16 (R.q.1 : Int), .int .u16 (R.q.2 : Int), .int .u8 (R.m.1 : Int), .int .u8 (R.m.2 : Int), .int .i64 R.act] 64))) := hb0
  have HX0 : Hid (w.heap[X]? = some (CE t c nv lv)) := he.blk
  have hD := draftPC X t c nv lv v l (w.alloc (.cells #[.int .i64 R.i, .int .u32 (R.s : Int), .int .i64 R.sl, .int .u32 (R.d : Int), .int .i64 R.dl, .int .u16 (R.p.1 : Int), .int .u16 (R.p.2 : Int), .int .u16 (R.q.1 : Int), .int .u16 (R.q.2 : Int), .int .u8 (R.m.1 : Int), .int .u8 (R.m.2 : Int), .int .i64 R.act] 64)) (blk_on he.blk hb0) (he.tab.on hb0) h.ok.few
  obtain ⟨y0, y1, y2, y3, y4, y5, y6, y7, y8, y9, y10, y11⟩ := blk12 (blk_new w (.cells #[.int .i64 R.i, .int .u32 (R.s : Int), .int .i64 R.sl, .int .u32 (R.d : Int), .int .i64 R.dl, .int .u16 (R.p.1 : Int), .int .u16 (R.p.2 : Int), .int .u16 (R.q.1 : Int), .int .u16 (R.q.2 : Int), .int .u8 (R.m.1 : Int), .int .u8 (R.m.2 : Int), .int .i64 R.act] 64))
  have Hy : Hid ((w.alloc (.cells #[.int .i64 R.i, .int .u32 (R.s : Int), .int .i64 R.sl, .int .u32 (R.d : Int), .int .i64 R.dl, .int .u16 (R.p.1 : Int), .int .u16 (R.p.2 : Int), .int .u16 (R.q.1 : Int), .int .u16 (R.q.2 : Int), .int .u8 (R.m.1 : Int), .int .u8 (R.m.2 : Int), .int .i64 R.act] 64)).heap[w.heap.size]? = some (.cells #[.int .i64 R.i, .int .u32 (R.s : Int), .int .i64 R.sl, .int .u32 (R.d : Int), .int .i64 R.dl, .int .u16 (R.p.1 : Int), .int .u16 (R.p.2 : Int), .int .u16 (R.q.1 : Int), .int .u16 (R.q.2 : Int), .int .u8 (R.m.1 : Int), .int .u8 (R.m.2 : Int), .int .i64 R.act] 64 (0, 0))) := blk_new w _
  clear he hf hb0 h y0 y1 y2 y3 y4 y5 y6 y7 y8 y9 y10 y11
  go_enter Tryz.func18, Tryz.ntmps18
  go_wp2_with (go_at_call 34; fail)
  refine hD.mono ?_
  rintro e w1 ⟨t1, v1, rfl, hT1, ht1, hv1, hb1⟩
  have hz0 : (w.alloc (.cells #[.int .i64 R.i, .int .u32 (R.s : Int), .int .i64 R.sl, .int .u32 (R.d : Int), .int .i64 R.dl, .int .u16 (R.p.1 : Int), .int .u16 (R.p.2 : Int), .int .u16 (R.q.1 : Int), .int .u16 (R.q.2 : Int), .int .u8 (R.m.1 : Int), .int .u8 (R.m.2 : Int), .int .i64 R.act] 64)).heap.size = w.heap.size + 1 := by simp
  have HB1 : Hid (Below w.heap.size w w1) := HB0.out.trans (hb1.mono HB0.out.size)
  have Ht1 : Hid (w.heap.size < t1) := by show _ < _; omega
  have Hv1 : Hid (∀ k, v1.ownBlock = some k → w.heap.size < k) := fun k e => by have := hv1 k e; omega
  have hI := insertC t1 v1 c.m c.a l p R w1 hT1 (Nat.le_trans HE.out.ok.few (by decide)) b hc.1
  obtain ⟨y0, y1, y2, y3, y4, y5, y6, y7, y8, y9, y10, y11⟩ := blk12 (blk_on Hy.out hb1)
  clear hT1 ht1 hv1 hb1 hD hz0
  go_wp2_with (go_at_call 35; fail)
  refine hI.mono ?_
  rintro e w2 ⟨rfl, v2, hT2, hm2⟩
  have HB2 : Hid (Below w.heap.size w w2) := hm2.below' HB1.out HB1.out.size (Nat.le_of_lt Ht1.out) (fun k e => Nat.le_of_lt (Hv1.out k e))
  have Hv2 : Hid (∀ k, v2.ownBlock = some k → w.heap.size ≤ k) := hm2.ge HB1.out.size (fun k e => Nat.le_of_lt (Hv1.out k e))
  have HT2 : Hid (Tab w2 t1 v2 c.m c.a (insL l c.m p R)) := hT2
  clear hT2 hm2 hI y0 y1 y2 y3 y4 y5 y6 y7 y8 y9 y10 y11
  by_cases h0 : insE l c.m p R = 0
  · have Hp : Hid (pinE c l p R = roomE c (putL l p.toNat R)) := if_pos h0
    have HoN : Hid (OkN (putL l p.toNat R)) := okN_ins HE.out.ok h0 hm
    have HbN : Hid (∀ S ∈ putL l p.toNat R, BdR S) := fun S hS => by
      rcases putL_mem hS with rfl | hS
      · exact b
      · exact HE.out.bd S hS
    have hT3 := HT2.out
    rw [show insL l c.m p R = putL l p.toNat R from if_pos h0] at hT3
    have hTk := takeIfRoomPC X t t1 w.heap.size c nv lv v2 (putL l p.toNat R) w2 (blk_on HX0.out HB2.out) hT3 hXl (Nat.le_of_lt Ht1.out) Hv2.out HB2.out.size HoN.out HbN.out
    have Hpl : Hid (roomE c (putL l p.toNat R) = 0 → pinL c l p R = putL l p.toNat R) := fun e => if_pos (by rw [Hp.out]; exact e)
    have Hpn : Hid (roomE c (putL l p.toNat R) ≠ 0 → pinL c l p R = l) := fun e => if_neg (by rw [Hp.out]; exact e)
    rw [h0]
    clear h0 hT3
    go_wp2_with (go_at_call 36; fail)
    refine hTk.mono ?_
    rintro e w4 ⟨rfl, hw4⟩
    have HW4 : Hid _ := hw4
    clear hw4 hTk
    generalize roomE c (putL l p.toNat R) = E4 at *
    go_wp2_with (fail)
    go_ret
    refine ⟨ret_int Hp.out.symm, ?_⟩
    rcases HW4.out with ⟨e0, hb4⟩ | ⟨e0, N4, LS4, he4, hg4⟩
    · rw [Hpn.out e0]
      exact HE.out.did (HB2.out.trans (hb4.mono HB2.out.size))
    · rw [Hpl.out e0]
      exact HE.out.did2 HB2.out he4 hg4
  · have Hp : Hid (pinE c l p R = insE l c.m p R) := if_neg h0
    have Hpl : Hid (pinL c l p R = l) := if_neg (by rw [Hp.out]; exact h0)
    have h0' : (insE l c.m p R != 0) = true := by simpa using h0
    generalize insE l c.m p R = E2 at *
    go_wp2_with (fail)
    go_ret
    exact ⟨ret_int Hp.out.symm, by rw [Hpl.out]; exact HE.out.did HB2.out⟩
set_option maxHeartbeats 4000000 in
set_option maxRecDepth 20000 in
theorem deleteE (X : Nat) (c : Cf) (l : List Ru) (N : List Gn) (LS : List (List Nat)) (S : Nat → Prop) (x : Int) (w : World) (h : Eng w X c l N LS S) :
    Calls Tryz.prog 146 #[.pointer (some ⟨X, 0, none⟩), .int .i64 x] w fun e w' => e = .returned (.int .i64 (delE l x)) ∧ Did w w' X c (delL l x) S := by
  have HE : Hid (Eng w X c l N LS S) := h
  obtain ⟨t, v, nv, lv, vs, he, hf⟩ := h.at'
  have hXl := h.lt
  have HX0 : Hid (w.heap[X]? = some (CE t c nv lv)) := he.blk
  have hD := draftPC X t c nv lv v l w he.blk he.tab h.ok.few
  clear he hf h
  go_enter Tryz.func146, Tryz.ntmps146
  go_wp2_with (go_at_call 34; fail)
  refine hD.mono ?_
  rintro e w1 ⟨t1, v1, rfl, hT1, ht1, hv1, hb1⟩
  have HB1 : Hid (Below w.heap.size w w1) := hb1
  have Ht1 : Hid (w.heap.size ≤ t1) := ht1
  have Hv1 : Hid (∀ k, v1.ownBlock = some k → w.heap.size ≤ k) := hv1
  have hI := deleteC t1 v1 c.m c.a l x w1 hT1 (Nat.le_trans HE.out.ok.few (by decide))
  clear hT1 ht1 hv1 hb1 hD
  go_wp2_with (go_at_call 148; fail)
  refine hI.mono ?_
  rintro e w2 ⟨rfl, v2, hT2, hm2⟩
  have HB2 : Hid (Below w.heap.size w w2) := hm2.below' HB1.out HB1.out.size Ht1.out Hv1.out
  have Hv2 : Hid (∀ k, v2.ownBlock = some k → w.heap.size ≤ k) := hm2.ge HB1.out.size Hv1.out
  have HT2 : Hid (Tab w2 t1 v2 c.m c.a (delL l x)) := hT2
  clear hT2 hm2 hI
  by_cases h0 : 0 ≤ fnd l x
  · have Hp : Hid (delE l x = 0) := if_pos h0
    have hTk := takePC X t t1 w.heap.size c nv lv v2 (delL l x) w2 (blk_on HX0.out HB2.out) HT2.out hXl Ht1.out Hv2.out HB2.out.size (okN_sub HE.out.ok (delL_sub l x)) (fun R hR => HE.out.bd R ((delL_sub l x).subset hR))
    rw [Hp.out]
    clear h0
    go_wp2_with (go_at_call 54; fail)
    refine hTk.mono ?_
    rintro e w4 ⟨rfl, N4, LS4, he4, hg4⟩
    have H4 : Hid _ := he4
    have H5 : Hid _ := hg4
    clear he4 hg4 hTk
    go_wp2_with (fail)
    go_ret
    exact ⟨ret_int Hp.out.symm, HE.out.did2 HB2.out H4.out H5.out⟩
  · have Hp : Hid (delE l x = 114) := if_neg h0
    have Hpl : Hid (delL l x = l) := if_neg h0
    rw [Hp.out]
    clear h0
    go_wp2_with (fail)
    go_ret
    exact ⟨ret_int Hp.out.symm, by rw [Hpl.out]; exact HE.out.did HB2.out⟩
set_option maxHeartbeats 4000000 in
set_option maxRecDepth 20000 in
theorem setEE (X : Nat) (c : Cf) (l : List Ru) (N : List Gn) (LS : List (List Nat)) (S : Nat → Prop) (u : Value) (m : List Ru) (w : World) (h : Eng w X c l N LS S) (hs : SrcU w u m) (hml : m.length ≤ 200000) (b : ∀ R ∈ m, BdR R) (hc : BdC c) (hm : c.m ≤ 64) :
    Calls Tryz.prog 147 #[.pointer (some ⟨X, 0, none⟩), u] w fun e w' => e = .returned (.int .i64 (psetE c m)) ∧ Did w w' X c (psetL c m l) S := by
  have HE : Hid (Eng w X c l N LS S) := h
  obtain ⟨t, v, nv, lv, vs, he, hf⟩ := h.at'
  have hXl := h.lt
  have HX0 : Hid (w.heap[X]? = some (CE t c nv lv)) := he.blk
  have hD := draftPC X t c nv lv v l w he.blk he.tab h.ok.few
  have HS : Hid (SrcU w u m) := hs
  obtain ⟨au, cu, hue, _⟩ := hs
  obtain ⟨n, hn⟩ : ∃ n, n = m.length := ⟨_, rfl⟩
  rw [← hn] at hue
  subst hue
  clear he hf h hn
  go_enter Tryz.func147, Tryz.ntmps147
  go_wp2_with (go_at_call 34; fail)
  refine hD.mono ?_
  rintro e w1 ⟨t1, v1, rfl, hT1, ht1, hv1, hb1⟩
  have HB1 : Hid (Below w.heap.size w w1) := hb1
  have Ht1 : Hid (w.heap.size ≤ t1) := ht1
  have Hv1 : Hid (∀ k, v1.ownBlock = some k → w.heap.size ≤ k) := hv1
  have hI := setC t1 v1 c.m c.a l _ m w1 hT1 (HS.out.keep hb1) hml hc.1 (fun k hk => b _ (List.getElem_mem hk))
  clear hT1 ht1 hv1 hb1 hD
  go_wp2_with (go_at_call 149; fail)
  refine hI.mono ?_
  rintro e w2 ⟨rfl, v2, hT2, hm2⟩
  have HB2 : Hid (Below w.heap.size w w2) := hm2.below' HB1.out HB1.out.size Ht1.out Hv1.out
  have Hv2 : Hid (∀ k, v2.ownBlock = some k → w.heap.size ≤ k) := hm2.ge HB1.out.size Hv1.out
  by_cases h0 : setE m c.m = 0
  · have Hp : Hid (psetE c m = roomE c m) := if_pos h0
    rw [if_pos h0] at hT2
    have HT2 : Hid (Tab w2 t1 v2 c.m c.a m) := hT2
    have hTk := takeIfRoomPC X t t1 w.heap.size c nv lv v2 m w2 (blk_on HX0.out HB2.out) hT2 hXl Ht1.out Hv2.out HB2.out.size (OkN.of_set h0 hm) b
    rw [h0]
    clear h0 hT2 hm2 hI
    go_wp2_with (go_at_call 36; fail)
    refine hTk.mono ?_
    rintro e w4 ⟨rfl, hw4⟩
    have HW4 : Hid _ := hw4
    clear hw4 hTk
    generalize roomE c m = E4 at *
    go_wp2_with (fail)
    go_ret
    refine ⟨ret_int Hp.out.symm, ?_⟩
    unfold psetL
    rw [Hp.out]
    rcases HW4.out with ⟨e0, hb4⟩ | ⟨e0, N4, LS4, he4, hg4⟩
    · rw [if_neg e0]
      exact HE.out.did (HB2.out.trans (hb4.mono HB2.out.size))
    · rw [if_pos e0]
      exact HE.out.did2 HB2.out he4 hg4
  · have Hp : Hid (psetE c m = setE m c.m) := if_neg h0
    have Hne : Hid (¬ setE m c.m = 0) := h0
    have h0' : (setE m c.m != 0) = true := by simpa using h0
    clear hT2 hm2 hI h0
    generalize setE m c.m = E2 at *
    go_wp2_with (fail)
    go_ret
    exact ⟨ret_int Hp.out.symm, by unfold psetL; rw [Hp.out, if_neg Hne.out]; exact HE.out.did HB2.out⟩
end Go.Proofs.YtgidohnikggjfaaGreat
/-
  The engine's Ask and Stats.
-/
namespace Go.Proofs.YtgidohnikggjfaaGreat
open Go.RowKit
set_option linter.unusedVariables false
set_option linter.unusedSimpArgs false

theorem results_rows2 {P : Program} {fn : Func} {tmps : Array Value} {w : World} {t u : Tmp} {ty ty2 T U : TypeId} {d d2 : TypeDesc} {B C : Nat} {cs ds : Array Value} {fr fr2 : Nat × Nat} (h : fn.results = #[.cell t ty, .cell u ty2]) (hp : tmps.getD t undef = .pointer (some ⟨B, 0, none⟩)) (hq : tmps.getD u undef = .pointer (some ⟨C, 0, none⟩))
    (hb : w.heap[B]? = some (.cells cs T fr)) (hu : P.underlying ty = some d) (hd : d.isRow = true) (hi : (P.info? ty).map (·.size) = some cs.size)
    (hc : w.heap[C]? = some (.cells ds U fr2)) (hu2 : P.underlying ty2 = some d2) (hd2 : d2.isRow = true) (hi2 : (P.info? ty2).map (·.size) = some ds.size) : (results fn tmps).run P w = .ok (.tuple #[.agg cs, .agg ds]) w := by
  have hl := run_loadVar_mid (P := P) w B 0 ty cs.toList d (by have := World.rangeAt_of_block hb 0 cs.size; simpa using this) hu hd (by simpa using hi)
  have hl2 := run_loadVar_mid (P := P) w C 0 ty2 ds.toList d2 (by have := World.rangeAt_of_block hc 0 ds.size; simpa using this) hu2 hd2 (by simpa using hi2)
  have hp2 : tmps[t]?.getD undef = .pointer (some ⟨B, 0, none⟩) := by simpa using hp
  have hq2 : tmps[u]?.getD undef = .pointer (some ⟨C, 0, none⟩) := by simpa using hq
  simp [results, h, hp2, hq2, asAddr, hl, hl2]
/-- The lists that find tells, as lists of places. -/
def fndLs (N : List Gn) (LS : List (List Nat)) (h : Hd) : List (List Nat) := if N.length = 0 then [] else (fA N h).map fun i => LS.getD i []
def prA (l : List Ru) (h : Hd) : List (List Nat) := (List.range 33).map (prK l h)
/-- How many rules are held against a header. -/
def cntR (l : List Ru) (h : Hd) : Nat := (flA l h (prA l h) 64).2
theorem flA_skip (l : List Ru) (h : Hd) (P : Nat → Bool) (g : Nat → List Nat) : ∀ (K : List Nat) (b : Nat), (∀ k ∈ K, P k = false → g k = []) → flA l h ((K.filter P).map g) b = flA l h (K.map g) b
  | [], b, _ => rfl
  | k :: K, b, hK => by
    have ih := fun b => flA_skip l h P g K b fun x hx => hK x (List.mem_cons_of_mem _ hx)
    cases e : P k with
    | true =>
      rw [List.filter_cons, if_pos e, List.map_cons, List.map_cons, flA, flA, ih]
    | false =>
      rw [List.filter_cons, if_neg (by rw [e]; simp), List.map_cons, hK k (List.mem_cons_self ..) e, flA, ih]
      show _ = ((flA l h (K.map g) b).1, 0 + (flA l h (K.map g) b).2)
      rw [Nat.zero_add]
theorem prK_nil (h : Hd) (k : Nat) : prK [] h k = [] := rfl
theorem plg_lists {l : List Ru} {N : List Gn} {LS : List (List Nat)} (P : Plg l N LS) (o : OkA l) {h : Hd} (oh : OkH h) : ∃ Q : Nat → Bool, fndLs N LS h = ((List.range 33).filter Q).map (prK l h) ∧ ∀ k ∈ List.range 33, Q k = false → prK l h k = [] := by
  rcases P with ⟨rfl, rfl, rfl⟩ | ⟨_, N0, G, S, hs, hS, hj, rfl⟩
  · exact ⟨fun _ => false, by simp [fndLs], fun k _ _ => rfl⟩
  · have W := way_dst hs.gw hj h.s h.d
    have hlen : N.length = N0.length := by have := hj.len; rwa [List.length_map] at this
    have h2 : 1 < N0.length := by rw [hs.gw.wf.len]; exact pn_lt hs.gw.r1
    have hB : fB N h = nf G (Bf N0 G) (pth h.s 32) [] 33 := blo_way hs.gw hs.bk hj h.s (fun q => rfl) hs.c0
    have e0 : (if (0 : Nat) < 33 then nf G (Bf N0 G) (pth h.s 32) (pth h.d 0) 33 else 0) = fB N h := by rw [if_pos (by decide), pth_zero, hB]
    have e1 := W.wy 33 0 (by decide)
    rw [e0, W.all] at e1
    refine ⟨fun k => nf G (Bf N0 G) (pth h.s 32) (pth h.d k) 33 != 0, ?_, fun k hk e => ?_⟩
    · unfold fndLs
      rw [if_neg (by omega)]
      show (wy (N.map Gn.p) h.d 33 (fB N h) 0).map _ = _
      rw [e1, List.filter_map, List.map_map]
      have e2 : (List.range 33).filter ((fun x => x != 0) ∘ fun j => (fun k => if k < 33 then nf G (Bf N0 G) (pth h.s 32) (pth h.d k) 33 else 0) (0 + j)) = (List.range 33).filter (fun k => nf G (Bf N0 G) (pth h.s 32) (pth h.d k) 33 != 0) := List.filter_congr fun k hk => by
        show ((if 0 + k < 33 then nf G (Bf N0 G) (pth h.s 32) (pth h.d (0 + k)) 33 else 0) != 0) = _
        rw [Nat.zero_add, if_pos (List.mem_range.1 hk)]
      rw [e2]
      refine List.map_congr_left fun k hk => ?_
      obtain ⟨hk1, hk2⟩ := List.mem_filter.1 hk
      have hk3 := List.mem_range.1 hk1
      show (List.map (lstF (entL l N0 G S)) (List.range N0.length)).getD (if 0 + k < 33 then nf G (Bf N0 G) (pth h.s 32) (pth h.d (0 + k)) 33 else 0) [] = _
      rw [Nat.zero_add, if_pos hk3]
      have hlt := hs.gw.nf_lt (Bf N0 G) (pth h.s 32) (pth h.d k) 33
      rw [← (look hs o hS oh hk3).1 (by simpa using hk2)]
      simp [hlt]
    · exact (look hs o hS oh (List.mem_range.1 hk)).2 (by simpa using e)
theorem prA_mem {l : List Ru} (o : OkA l) {h : Hd} (p : Nat) : (∃ L ∈ prA l h, p ∈ L) ↔ p ∈ prsL l h := by
  constructor
  · rintro ⟨L, hL, hp⟩
    obtain ⟨k, _, rfl⟩ := List.mem_map.1 hL
    exact (List.mem_filter.1 hp).1
  · intro hp
    obtain ⟨k, hk, hk2⟩ := prs_prK o hp
    exact ⟨_, List.mem_map.2 ⟨k, List.mem_range.2 hk, rfl⟩, hk2⟩
theorem prA_sorted (l : List Ru) (h : Hd) : ∀ L ∈ prA l h, L.Pairwise (· < ·) := fun L hL => by
  obtain ⟨k, _, rfl⟩ := List.mem_map.1 hL
  exact prK_sorted l h k
theorem cntR_le (l : List Ru) (h : Hd) : cntR l h ≤ (prsL l h).length := Nat.le_trans (flA_ok l h (prA l h) 64 (prA_sorted l h)).few (prK_sum l h)
theorem cntR_pos {l : List Ru} (o : OkA l) (hl : l.length ≤ 64) {h : Hd} (hm : mat l h ≠ -1) : 1 ≤ cntR l h := by
  rcases flA_mat o hl (prA_sorted l h) (prA_mem o) with ⟨_, e⟩ | ⟨_, _, e⟩
  · exact absurd e hm
  · exact e
theorem fst_out {l : List Ru} {N : List Gn} {LS : List (List Nat)} (P : Plg l N LS) (o : OkA l) (hl : l.length ≤ 64) {h : Hd} (oh : OkH h) {A : Int} {e : Ending} (hf : FstOut A l (flA l h (fndLs N LS h) 64) e) : e = .returned (.tuple #[.agg #[.bool (vdH (mat l h)), .int .i64 (vdI l (mat l h)), .int .i64 (vdA A l (mat l h))], .int .i64 (cntR l h : Nat)]) := by
  obtain ⟨Q, e1, e2⟩ := plg_lists P o oh
  have e3 : flA l h (fndLs N LS h) 64 = flA l h (prA l h) 64 := by rw [e1]; exact flA_skip l h Q (prK l h) (List.range 33) 64 e2
  rw [e3] at hf
  obtain ⟨vb, vi, va, rfl, hv⟩ := hf
  have hm := flA_mat o hl (prA_sorted l h) (prA_mem o)
  rcases hm with ⟨a, b⟩ | ⟨a, b, _⟩
  · rcases hv with ⟨_, rfl, rfl, rfl⟩ | ⟨c, _⟩
    · rw [b]; rfl
    · exact absurd a c
  · rcases hv with ⟨c, _⟩ | ⟨_, rfl, rfl, rfl⟩
    · omega
    · obtain ⟨v1, v2, v3⟩ := vd_at (A := A) a
      rw [b, v1, v2, v3]; rfl
theorem Eng.size {w : World} {X : Nat} {c : Cf} {l : List Ru} {N : List Gn} {LS : List (List Nat)} {S : Nat → Prop} (h : Eng w X c l N LS S) : N.length ≤ 4200 ∧ pnTot LS ≤ 4096 ∧ l.length ≤ pnTot LS ∧ pnTot LS ≤ grdN witX (l.map pr) ∧ N.length ≤ 65 * l.length + 2 := by
  have hf := h.ok.few
  have ho := h.ok.all h.bd
  rcases h.plt with ⟨e1, e2, e3⟩ | ⟨_, N0, G, S, hs, hS, hj, rfl⟩
  · rw [e1, e2, e3]; simp [pnTot]
  · have hlen : N.length = N0.length := by have := hj.len; rwa [List.length_map] at this
    have h1 := hs.few
    have h2 : pnTot ((List.range N0.length).map (lstF (entL l N0 G S))) = (entL l N0 G S).length := by rw [tot_off, offE_all fun e he => (ent_lt hs.gw e he).1]
    have h3 := ent_le (N := N0) (G := G) hS
    have h4 := ent_ge hs ho hS
    have h5 := grd_le l
    have h6 : l.length * l.length ≤ 64 * 64 := Nat.mul_le_mul hf hf
    rw [h2]
    omega
theorem fndLs_len (N : List Gn) (LS : List (List Nat)) (h : Hd) : (fndVs N h).length = (fndLs N LS h).length ∧ (fndLs N LS h).length ≤ 33 := by
  unfold fndVs fndLs
  split
  · simp
  · rw [List.length_map, List.length_map]
    exact ⟨rfl, wy_len _ _ _ _ _⟩
theorem fndLs_src {w : World} {nv lv : Value} {l : List Ru} {N : List Gn} {LS : List (List Nat)} (hF : Fr w nv lv N LS) (P : Plg l N LS) {h : Hd} (k : Nat) (x : Value) (L : List Nat) (hx : (fndVs N h)[k]? = some x) (hL : (fndLs N LS h)[k]? = some L) : SrcI w x (ofN L) := by
  unfold fndVs at hx
  unfold fndLs at hL
  by_cases h0 : N.length = 0
  · rw [if_pos h0] at hx; simp at hx
  · rw [if_neg h0] at hx hL
    rw [List.getElem?_map] at hx hL
    cases hi : (fA N h)[k]? with
    | none => rw [hi] at hx; simp at hx
    | some i =>
      rw [hi] at hx hL
      have ex : (gd N i).v = x := Option.some.inj hx
      have eL : LS.getD i [] = L := Option.some.inj hL
      have hne : l ≠ [] := fun e => by
        rcases P with ⟨_, e2, _⟩ | ⟨e2, _⟩
        · rw [e2] at h0; exact h0 rfl
        · exact e2 e
      obtain ⟨f1, f2, _, _, W2, e2, _, _⟩ := plg_ways P hne h
      have hlt := (way_mem W2 i (by rw [e2]; exact List.mem_of_getElem? hi)).2.2
      rw [List.length_map] at hlt
      have hg : N[i]? = some N[i] := List.getElem?_eq_getElem hlt
      have hl2 : i < LS.length := by rw [← hF.len]; exact hlt
      have := hF.src i N[i] LS[i] hg (List.getElem?_eq_getElem hl2)
      rw [← ex, ← eL, gd_at hg]
      simpa [hl2] using this
theorem fndLs_in {l : List Ru} {N : List Gn} {LS : List (List Nat)} (P : Plg l N LS) (o : OkA l) (hl : l.length ≤ 64) {h : Hd} (oh : OkH h) : ∀ L ∈ fndLs N LS h, (∀ p ∈ L, p < l.length) ∧ L.length ≤ 64 := by
  intro L hL
  obtain ⟨Q, e1, _⟩ := plg_lists P o oh
  rw [e1] at hL
  obtain ⟨k, _, rfl⟩ := List.mem_map.1 hL
  refine ⟨fun p hp => prK_lt hp, Nat.le_trans (List.length_filter_le _ _) (Nat.le_trans (List.length_filter_le _ _) (by simpa using hl))⟩
/-- A verdict, steps, as values. -/
def vdV (c : Cf) (l : List Ru) (h : Hd) : Value := .agg #[.bool (vdH (mat l h)), .int .i64 (vdI l (mat l h)), .int .i64 (vdA c.a l (mat l h))]
def stV (N : List Gn) (l : List Ru) (h : Hd) : Value := .agg #[.int .i64 (fndN N h : Nat), .int .i64 (cntR l h : Nat), .int .i64 0, .int .i64 0, .int .i64 0]
def saV (N : List Gn) (LS : List (List Nat)) : Value := .agg #[.int .i64 ((N.length - 1 : Nat) : Int), .int .i64 (pnTot LS : Nat), .int .i64 0, .int .i64 0]
set_option maxHeartbeats 8000000 in
set_option maxRecDepth 20000 in
theorem askE (X : Nat) (c : Cf) (l : List Ru) (N : List Gn) (LS : List (List Nat)) (S : Nat → Prop) (h : Hd) (w : World) (hE : Eng w X c l N LS S) (oh : OkH h) :
    Calls Tryz.prog 9 #[.pointer (some ⟨X, 0, none⟩), .agg #[.int .u32 (h.s : Int), .int .u32 (h.d : Int), .int .u16 (h.p : Int), .int .u16 (h.q : Int), .int .u8 (h.r : Int)]] w fun e w' => e = .returned (.tuple #[vdV c l h, stV N l h]) ∧ Below w.heap.size w w' := by
  have hsz := hE.size
  have okA := hE.ok.all hE.bd
  have hP := hE.plt
  have hfew := hE.ok.few
  obtain ⟨t, v, nv, lv, vs, he, _⟩ := hE.at'
  obtain ⟨x0, x1, x2, x3, x4, _⟩ := blkE he.blk
  have hFo : Fo w X 3 nv N := ⟨x3, he.fr.nod⟩
  have hFd : ∀ W, Below w.heap.size w W → Calls Tryz.prog 19 #[.pointer (some ⟨X, 3, none⟩), .agg #[.int .u32 (h.s : Int), .int .u32 (h.d : Int), .int .u16 (h.p : Int), .int .u16 (h.q : Int), .int .u8 (h.r : Int)]] W fun e w' => ∃ v' : Value, e = .returned (.tuple #[v', .int .i64 (fndN N h : Nat)]) ∧ RowL w' W.heap.size v' (fndVs N h) ∧ Below W.heap.size W w' := fun W hb => findFC X 3 nv N LS l h W (hFo.on hb) hP oh (by omega)
  have HFi : Hid (∀ (fv : Value) (W : World), Below w.heap.size w W → RowL W 0 fv (fndVs N h) → Calls Tryz.prog 20 #[.pointer (some ⟨X, 0, none⟩), fv, .agg #[.int .u32 (h.s : Int), .int .u32 (h.d : Int), .int .u16 (h.p : Int), .int .u16 (h.q : Int), .int .u8 (h.r : Int)]] W fun e w' => e = .returned (.tuple #[.agg #[.bool (vdH (mat l h)), .int .i64 (vdI l (mat l h)), .int .i64 (vdA c.a l (mat l h))], .int .i64 (cntR l h : Nat)]) ∧ Below W.heap.size W w') := fun fv W hb hr => (firstC X t v c.m c.a c.a l h fv (fndVs N h) (fndLs N LS h) W (cell_on1 hb x0) (cell_on1 hb x1) (he.tab.on hb) hr (fndLs_len N LS h).1 (fndLs_len N LS h).2 (fun k x L => fndLs_src (he.fr.on hb) hP k x L) (fndLs_in hP okA hfew oh) okA hfew oh).mono fun e w' hh => ⟨fst_out hP okA hfew oh hh.1, hh.2⟩
  unfold vdV stV
  have hK66 : fndN N h ≤ 66 := fndN_le N h
  have hC64 : cntR l h ≤ 64 := Nat.le_trans (cntR_le l h) (Nat.le_trans (Nat.le_trans (List.length_filter_le _ _) (by simp)) hfew)
  generalize fndN N h = K at *
  generalize cntR l h = C at *
  generalize vdH (mat l h) = vb at *
  generalize vdI l (mat l h) = vi at *
  generalize vdA c.a l (mat l h) = va at *
  have hXl : X < w.heap.size := blk_lt he.blk
  obtain ⟨w0, hw0⟩ : ∃ w0, w0 = ((w.alloc (.cells #[.int .u32 (h.s : Int), .int .u32 (h.d : Int), .int .u16 (h.p : Int), .int .u16 (h.q : Int), .int .u8 (h.r : Int)] 28)).alloc (.cells #[.bool false, .int .i64 0, .int .i64 0] 36)).alloc (.cells #[.int .i64 0, .int .i64 0, .int .i64 0, .int .i64 0, .int .i64 0] 38) := ⟨_, rfl⟩
  have HB0 : Hid (Below w.heap.size w w0) := by rw [hw0]; exact (((Below.refl _ _).alloc (Nat.le_refl _) _).alloc (by simp) _).alloc (by simp; omega) _
  have HH0 : Hid (w0.heap[w.heap.size]? = some (.cells #[.int .u32 (h.s : Int), .int .u32 (h.d : Int), .int .u16 (h.p : Int), .int .u16 (h.q : Int), .int .u8 (h.r : Int)] 28 (0, 0))) := by rw [hw0]; exact blk_alloc (blk_alloc (blk_new w _) _) _
  have HV0 : Hid (w0.heap[w.heap.size + 1]? = some (.cells #[.bool false, .int .i64 0, .int .i64 0] 36 (0, 0))) := by
    have := blk_alloc (blk_new (w.alloc (.cells #[.int .u32 (h.s : Int), .int .u32 (h.d : Int), .int .u16 (h.p : Int), .int .u16 (h.q : Int), .int .u8 (h.r : Int)] 28)) (.cells #[.bool false, .int .i64 0, .int .i64 0] 36)) (.cells #[.int .i64 0, .int .i64 0, .int .i64 0, .int .i64 0, .int .i64 0] 38)
    rw [← hw0] at this
    show _ = _
    simpa using this
  have HS0 : Hid (w0.heap[w.heap.size + 1 + 1]? = some (.cells #[.int .i64 0, .int .i64 0, .int .i64 0, .int .i64 0, .int .i64 0] 38 (0, 0))) := by
    have := blk_new ((w.alloc (.cells #[.int .u32 (h.s : Int), .int .u32 (h.d : Int), .int .u16 (h.p : Int), .int .u16 (h.q : Int), .int .u8 (h.r : Int)] 28)).alloc (.cells #[.bool false, .int .i64 0, .int .i64 0] 36)) (.cells #[.int .i64 0, .int .i64 0, .int .i64 0, .int .i64 0, .int .i64 0] 38)
    rw [← hw0] at this
    show _ = _
    simpa using this
  have hw0s : ((w.alloc (.cells #[.int .u32 (h.s : Int), .int .u32 (h.d : Int), .int .u16 (h.p : Int), .int .u16 (h.q : Int), .int .u8 (h.r : Int)] 28)).alloc (.cells #[.bool false, .int .i64 0, .int .i64 0] 36)).alloc (.cells #[.int .i64 0, .int .i64 0, .int .i64 0, .int .i64 0, .int .i64 0] 38) = w0 := hw0.symm
  obtain ⟨Bv, hBv⟩ : ∃ B, B = w.heap.size + 1 := ⟨_, rfl⟩
  obtain ⟨Bs, hBs⟩ : ∃ B, B = w.heap.size + 1 + 1 := ⟨_, rfl⟩
  have HBv : Hid (w.heap.size ≤ Bv) := by show _ ≤ _; omega
  have HBs : Hid (w.heap.size ≤ Bs) := by show _ ≤ _; omega
  have HBn : Hid (Bs ≠ Bv) := by show _ ≠ _; omega
  rw [← hBs] at HS0
  rw [← hBv] at HV0
  have He1 : Hid (w.heap.size + 1 + 1 = Bs) := hBs.symm
  have He2 : Hid (w.heap.size + 1 = Bv) := hBv.symm
  clear hBs hBv
  clear hw0 hFo he x0 x1 x2 x3 x4 hP okA hE hsz
  go_enter Tryz.func9, Tryz.ntmps9
  go_upto_region 3 with (fail)
  have e1 := He1.out
  have e2 := He2.out
  try simp only [hw0s, World.size_alloc, e1]
  try simp only [e2]
  clear hw0s e1 e2 He1 He2
  obtain ⟨z0, z1, z2, z3, z4⟩ := blk5 HH0.out
  have hzb : w.heap.size < w0.heap.size := blk_lt HH0.out
  have hHd0 : ∀ W, Below w0.heap.size w0 W → W.cell? ⟨w.heap.size, 0, none⟩ = some (.int .u32 (h.s : Int)) ∧ W.cell? ⟨w.heap.size, 1, none⟩ = some (.int .u32 (h.d : Int)) ∧ W.cell? ⟨w.heap.size, 2, none⟩ = some (.int .u16 (h.p : Int)) ∧ W.cell? ⟨w.heap.size, 3, none⟩ = some (.int .u16 (h.q : Int)) ∧ W.cell? ⟨w.heap.size, 4, none⟩ = some (.int .u8 (h.r : Int)) := fun W hb => ⟨cell_on1 hb z0, cell_on1 hb z1, cell_on1 hb z2, cell_on1 hb z3, cell_on1 hb z4⟩
  refine wp_region_held_drew (S := fun w' => Below w0.heap.size w0 w') (by kernel_rfl) (Below.refl _ _).drew (fun hS0 => ?_)
  show wpAnyH _ _ _ _ _ 10 _ _ _
  refine wpAnyH_take (i := 0) (v := .pointer (some ⟨X, 0, none⟩)) rfl (by kernel_rfl) (by kernel_rfl) (by kernel_rfl) (fun _ _ _ h => h) (.inl ⟨rfl, fun _ _ => by simp [execOp, go_sem]⟩) hS0 ?_
  simp only [List.getElem_toArray, List.getElem_cons_succ, List.getElem_cons_zero, Act.put, List.setIfInBounds_toArray, List.set_cons_zero, List.set_cons_succ]
  refine wpAnyH_take (i := 1) (v := .pointer (some ⟨X, 0, none⟩)) rfl (by kernel_rfl) (by kernel_rfl) (by kernel_rfl) (fun _ _ _ h => h) (.inl ⟨rfl, fun _ _ => by simp [execOp, go_sem]⟩) hS0 ?_
  simp only [List.getElem_toArray, List.getElem_cons_succ, List.getElem_cons_zero, Act.put, List.setIfInBounds_toArray, List.set_cons_zero, List.set_cons_succ]
  refine wpAnyH_take (i := 2) (v := .pointer (some ⟨X, 3, none⟩)) rfl (by kernel_rfl) (by kernel_rfl) (by kernel_rfl) (fun _ _ _ h => h) (.inl ⟨rfl, fun _ _ => by simp [execOp, go_sem]⟩) hS0 ?_
  simp only [List.getElem_toArray, List.getElem_cons_succ, List.getElem_cons_zero, Act.put, List.setIfInBounds_toArray, List.set_cons_zero, List.set_cons_succ]
  refine wpAnyH_take (i := 3) (v := .agg #[.int .u32 (h.s : Int), .int .u32 (h.d : Int), .int .u16 (h.p : Int), .int .u16 (h.q : Int), .int .u8 (h.r : Int)]) rfl (by kernel_rfl) (by kernel_rfl) (by kernel_rfl) (fun _ _ _ h => h) (.inl ⟨rfl, fun w' hw' => by obtain ⟨k0, k1, k2, k3, k4⟩ := hHd0 w' hw'; simp [execOp, go_sem, k0, k1, k2, k3, k4]⟩) hS0 ?_
  simp only [List.getElem_toArray, List.getElem_cons_succ, List.getElem_cons_zero, Act.put, List.setIfInBounds_toArray, List.set_cons_zero, List.set_cons_succ]
  refine wpAnyH_all (rs := [4]) (by kernel_rfl) (by simp) ?_
  intro i hi
  simp only [List.mem_cons, List.not_mem_nil, or_false] at hi
  subst hi
  refine wpOp_of_wp rfl rfl (fun K' hK' => ?_)
  have hBc := HB0.out.trans ((hS0).mono HB0.out.size)
  go_wp2_with (go_at_call 19; fail)
  refine (hFd _ hBc).mono ?_
  rintro e wq ⟨fv, rfl, hrq, hbq⟩
  have hq : Below w0.heap.size w0 wq := hS0.trans (hbq.mono hS0.size)
  have HRq : Hid (RowL wq 0 fv (fndVs N h)) := hrq.base (Nat.zero_le _)
  obtain ⟨fa, fc, hfv, _⟩ := hrq.form
  generalize (fndVs N h).length = fn at hfv
  subst hfv
  refine hK' _ _ ⟨hq, ?_⟩
  try simp only [List.getElem_toArray, List.getElem_cons_succ, List.getElem_cons_zero, Act.put, List.setIfInBounds_toArray, List.set_cons_zero, List.set_cons_succ]
  refine wpAnyH_take (i := 5) (v := .tuple #[.slice fa fn fc, .int .i64 (K : Int)]) rfl (by kernel_rfl) (by kernel_rfl) (by kernel_rfl) (fun _ _ _ h => h) (.inl ⟨rfl, fun _ _ => by simp [execOp, go_sem]⟩) hq ?_
  simp only [List.getElem_toArray, List.getElem_cons_succ, List.getElem_cons_zero, Act.put, List.setIfInBounds_toArray, List.set_cons_zero, List.set_cons_succ]
  refine wpAnyH_take (i := 6) (v := .slice fa fn fc) rfl (by kernel_rfl) (by kernel_rfl) (by kernel_rfl) (fun _ _ _ h => h) (.inl ⟨rfl, fun _ _ => by simp [execOp, go_sem]⟩) hq ?_
  simp only [List.getElem_toArray, List.getElem_cons_succ, List.getElem_cons_zero, Act.put, List.setIfInBounds_toArray, List.set_cons_zero, List.set_cons_succ]
  refine wpAnyH_take (i := 7) (v := .int .i64 (K : Int)) rfl (by kernel_rfl) (by kernel_rfl) (by kernel_rfl) (fun _ _ _ h => h) (.inl ⟨rfl, fun _ _ => by simp [execOp, go_sem]⟩) hq ?_
  simp only [List.getElem_toArray, List.getElem_cons_succ, List.getElem_cons_zero, Act.put, List.setIfInBounds_toArray, List.set_cons_zero, List.set_cons_succ]
  refine wpAnyH_take (i := 8) (v := .slice fa fn fc) rfl (by kernel_rfl) (by kernel_rfl) (by kernel_rfl) (fun _ _ _ h => h) (.inl ⟨rfl, fun _ _ => by simp [execOp, go_sem]⟩) hq ?_
  simp only [List.getElem_toArray, List.getElem_cons_succ, List.getElem_cons_zero, Act.put, List.setIfInBounds_toArray, List.set_cons_zero, List.set_cons_succ]
  refine wpAnyH_take (i := 9) (v := .int .i64 (K : Int)) rfl (by kernel_rfl) (by kernel_rfl) (by kernel_rfl) (fun _ _ _ h => h) (.inl ⟨rfl, fun _ _ => by simp [execOp, go_sem]⟩) hq ?_
  simp only [List.getElem_toArray, List.getElem_cons_succ, List.getElem_cons_zero, Act.put, List.setIfInBounds_toArray, List.set_cons_zero, List.set_cons_succ]
  refine wpAnyH_done (by kernel_rfl) ?_ _
  try simp only [List.getElem_toArray, List.getElem_cons_succ, List.getElem_cons_zero, Act.put, List.setIfInBounds_toArray, List.set_cons_zero, List.set_cons_succ]
  clear hS0 hBc hrq hbq hHd0
  have HBq : Hid (Below w.heap.size w wq) := HB0.out.trans (hq.mono HB0.out.size)
  have HHq : Hid (wq.heap[w.heap.size]? = some (.cells #[.int .u32 (h.s : Int), .int .u32 (h.d : Int), .int .u16 (h.p : Int), .int .u16 (h.q : Int), .int .u8 (h.r : Int)] 28 (0, 0))) := blk_on HH0.out hq
  have HVq : Hid (wq.heap[Bv]? = some (.cells #[.bool false, .int .i64 0, .int .i64 0] 36 (0, 0))) := blk_on HV0.out hq
  have HSq : Hid (wq.heap[Bs]? = some (.cells #[.int .i64 0, .int .i64 0, .int .i64 0, .int .i64 0, .int .i64 0] 38 (0, 0))) := blk_on HS0.out hq
  have hFi : ∀ W, Below wq.heap.size wq W → Calls Tryz.prog 20 #[.pointer (some ⟨X, 0, none⟩), .slice fa fn fc, .agg #[.int .u32 (h.s : Int), .int .u32 (h.d : Int), .int .u16 (h.p : Int), .int .u16 (h.q : Int), .int .u8 (h.r : Int)]] W fun e w' => e = .returned (.tuple #[.agg #[.bool vb, .int .i64 vi, .int .i64 va], .int .i64 (C : Nat)]) ∧ Below W.heap.size W w' := fun W hb => HFi.out _ W (HBq.out.trans (hb.mono HBq.out.size)) (HRq.out.on hb)
  clear hq hFd z0 z1 z2 z3 z4 HB0 HH0 HV0 HS0 hzb HRq HFi
  clear hK'
  go_upto_region 4 with (fail)
  have hz := blk5 HHq.out
  have hHd : ∀ W, Below wq.heap.size wq W → W.cell? ⟨w.heap.size, 0, none⟩ = some (.int .u32 (h.s : Int)) ∧ W.cell? ⟨w.heap.size, 1, none⟩ = some (.int .u32 (h.d : Int)) ∧ W.cell? ⟨w.heap.size, 2, none⟩ = some (.int .u16 (h.p : Int)) ∧ W.cell? ⟨w.heap.size, 3, none⟩ = some (.int .u16 (h.q : Int)) ∧ W.cell? ⟨w.heap.size, 4, none⟩ = some (.int .u8 (h.r : Int)) := fun W hb => ⟨cell_on1 hb hz.1, cell_on1 hb hz.2.1, cell_on1 hb hz.2.2.1, cell_on1 hb hz.2.2.2.1, cell_on1 hb hz.2.2.2.2⟩
  clear hz
  refine wp_region_held_drew (S := fun w' => Below wq.heap.size wq w') (by kernel_rfl) (Below.refl _ _).drew (fun hS0 => ?_)
  show wpAnyH _ _ _ _ _ 12 _ _ _
  refine wpAnyH_take (i := 0) (v := .pointer (some ⟨X, 0, none⟩)) rfl (by kernel_rfl) (by kernel_rfl) (by kernel_rfl) (fun _ _ _ h => h) (.inl ⟨rfl, fun _ _ => by simp [execOp, go_sem]⟩) hS0 ?_
  simp only [List.getElem_toArray, List.getElem_cons_succ, List.getElem_cons_zero, Act.put, List.setIfInBounds_toArray, List.set_cons_zero, List.set_cons_succ]
  refine wpAnyH_take (i := 1) (v := .pointer (some ⟨X, 0, none⟩)) rfl (by kernel_rfl) (by kernel_rfl) (by kernel_rfl) (fun _ _ _ h => h) (.inl ⟨rfl, fun _ _ => by simp [execOp, go_sem]⟩) hS0 ?_
  simp only [List.getElem_toArray, List.getElem_cons_succ, List.getElem_cons_zero, Act.put, List.setIfInBounds_toArray, List.set_cons_zero, List.set_cons_succ]
  refine wpAnyH_take (i := 2) (v := .pointer (some ⟨X, 0, none⟩)) rfl (by kernel_rfl) (by kernel_rfl) (by kernel_rfl) (fun _ _ _ h => h) (.inl ⟨rfl, fun _ _ => by simp [execOp, go_sem]⟩) hS0 ?_
  simp only [List.getElem_toArray, List.getElem_cons_succ, List.getElem_cons_zero, Act.put, List.setIfInBounds_toArray, List.set_cons_zero, List.set_cons_succ]
  refine wpAnyH_take (i := 3) (v := .slice fa fn fc) rfl (by kernel_rfl) (by kernel_rfl) (by kernel_rfl) (fun _ _ _ h => h) (.inl ⟨rfl, fun _ _ => by simp [execOp, go_sem]⟩) hS0 ?_
  simp only [List.getElem_toArray, List.getElem_cons_succ, List.getElem_cons_zero, Act.put, List.setIfInBounds_toArray, List.set_cons_zero, List.set_cons_succ]
  refine wpAnyH_take (i := 4) (v := .agg #[.int .u32 (h.s : Int), .int .u32 (h.d : Int), .int .u16 (h.p : Int), .int .u16 (h.q : Int), .int .u8 (h.r : Int)]) rfl (by kernel_rfl) (by kernel_rfl) (by kernel_rfl) (fun _ _ _ h => h) (.inl ⟨rfl, fun w' hw' => by obtain ⟨k0, k1, k2, k3, k4⟩ := hHd w' hw'; simp [execOp, go_sem, k0, k1, k2, k3, k4]⟩) hS0 ?_
  simp only [List.getElem_toArray, List.getElem_cons_succ, List.getElem_cons_zero, Act.put, List.setIfInBounds_toArray, List.set_cons_zero, List.set_cons_succ]
  refine wpAnyH_all (rs := [5, 9]) (by kernel_rfl) (by simp) ?_
  intro i0 hi0
  simp only [List.mem_cons, List.not_mem_nil, or_false] at hi0
  rcases hi0 with hi0 | hi0
  · subst hi0
    refine wpOp_of_wp rfl rfl (fun K' hK' => ?_)
    have hBc := HBq.out.trans ((hS0).mono HBq.out.size)
    go_wp2_with (go_at_call 20; refine (hFi _ (by assumption)).mono ?_; rintro e w3 ⟨rfl, hb3⟩)
    have hS3 : Below wq.heap.size wq w3 := hS0.trans (hb3.mono hS0.size)
    refine ⟨hS3, ?_⟩
    try simp only [List.getElem_toArray, List.getElem_cons_succ, List.getElem_cons_zero, Act.put, List.setIfInBounds_toArray, List.set_cons_zero, List.set_cons_succ]
    refine wpAnyH_take (i := 6) (v := .tuple #[.agg #[.bool vb, .int .i64 vi, .int .i64 va], .int .i64 (C : Int)]) rfl (by kernel_rfl) (by kernel_rfl) (by kernel_rfl) (fun _ _ _ h => h) (.inl ⟨rfl, fun _ _ => by simp [execOp, go_sem]⟩) hS3 ?_
    simp only [List.getElem_toArray, List.getElem_cons_succ, List.getElem_cons_zero, Act.put, List.setIfInBounds_toArray, List.set_cons_zero, List.set_cons_succ]
    refine wpAnyH_take (i := 7) (v := .agg #[.bool vb, .int .i64 vi, .int .i64 va]) rfl (by kernel_rfl) (by kernel_rfl) (by kernel_rfl) (fun _ _ _ h => h) (.inl ⟨rfl, fun _ _ => by simp [execOp, go_sem]⟩) hS3 ?_
    simp only [List.getElem_toArray, List.getElem_cons_succ, List.getElem_cons_zero, Act.put, List.setIfInBounds_toArray, List.set_cons_zero, List.set_cons_succ]
    refine wpAnyH_take (i := 8) (v := .int .i64 (C : Int)) rfl (by kernel_rfl) (by kernel_rfl) (by kernel_rfl) (fun _ _ _ h => h) (.inl ⟨rfl, fun _ _ => by simp [execOp, go_sem]⟩) hS3 ?_
    simp only [List.getElem_toArray, List.getElem_cons_succ, List.getElem_cons_zero, Act.put, List.setIfInBounds_toArray, List.set_cons_zero, List.set_cons_succ]
    refine wpAnyH_all (rs := [9]) (by kernel_rfl) (by simp) ?_
    intro i0 hi0
    simp only [List.mem_cons, List.not_mem_nil, or_false] at hi0
    subst hi0
    refine wpOp_of_wp rfl rfl (fun K' hK' => ?_)
    have hS6 : Below wq.heap.size wq (w3.alloc (.cells #[.bool false, .int .i64 0, .int .i64 0] 36)) := hS3.alloc hS3.size _
    have h6 : (w3.alloc (.cells #[.bool false, .int .i64 0, .int .i64 0] 36)).heap[w3.heap.size]? = some (.cells #[.bool false, .int .i64 0, .int .i64 0] 36 (0, 0)) := blk_new w3 _
    have hB6 : wq.heap.size ≤ w3.heap.size := hS3.size
    go_wp2_with (fail)
    refine ⟨hS6, ?_⟩
    try simp only [List.getElem_toArray, List.getElem_cons_succ, List.getElem_cons_zero, Act.put, List.setIfInBounds_toArray, List.set_cons_zero, List.set_cons_succ]
    refine wpAnyH_all (rs := [10]) (by kernel_rfl) (by simp) ?_
    intro i0 hi0
    simp only [List.mem_cons, List.not_mem_nil, or_false] at hi0
    subst hi0
    refine wpOp_of_wp rfl rfl (fun K' hK' => ?_)
    refine wp_store_blk 36 (.tmp 8) (.tmp 29) rfl w3.heap.size 0 #[.bool vb, .int .i64 vi, .int .i64 va] #[.bool vb, .int .i64 vi, .int .i64 va] rfl rfl 36 _ h6 (Nat.le_of_ble_eq_true rfl) rfl (by kernel_rfl) rfl ?_
    intro w7 h7 ho7
    have hS7 : Below wq.heap.size wq w7 := hS6.trans (ho7.below hB6)
    refine hK' _ _ ⟨hS7, ?_⟩
    try simp only [List.getElem_toArray, List.getElem_cons_succ, List.getElem_cons_zero, Act.put, List.setIfInBounds_toArray, List.set_cons_zero, List.set_cons_succ]
    refine wpAnyH_take (i := 11) (v := .int .i64 (C : Int)) rfl (by kernel_rfl) (by kernel_rfl) (by kernel_rfl) (fun _ _ _ h => h) (.inl ⟨rfl, fun _ _ => by simp [execOp, go_sem]⟩) hS7 ?_
    simp only [List.getElem_toArray, List.getElem_cons_succ, List.getElem_cons_zero, Act.put, List.setIfInBounds_toArray, List.set_cons_zero, List.set_cons_succ]
    refine wpAnyH_done (by kernel_rfl) ?_ _
    try simp only [List.getElem_toArray, List.getElem_cons_succ, List.getElem_cons_zero, Act.put, List.setIfInBounds_toArray, List.set_cons_zero, List.set_cons_succ]
    have HB7 : Hid (Below w.heap.size w w7) := HBq.out.trans (hS7.mono HBq.out.size)
    have HV7 : Hid (w7.heap[Bv]? = some (.cells #[.bool false, .int .i64 0, .int .i64 0] 36 (0, 0))) := blk_on HVq.out hS7
    have HS7 : Hid (w7.heap[Bs]? = some (.cells #[.int .i64 0, .int .i64 0, .int .i64 0, .int .i64 0, .int .i64 0] 38 (0, 0))) := blk_on HSq.out hS7
    obtain ⟨q0, q1, q2⟩ := blk3 h7
    generalize hB6e : w3.heap.size = B6 at *
    clear h7 ho7 hS7 h6 hS6 hB6 hB6e hHd hFi
    go_wp2_with (first | (refine wpList_store_blk rfl 36 (.tmp 4) (.tmp 31) rfl Bv 0 #[.bool vb, .int .i64 vi, .int .i64 va] #[.bool vb, .int .i64 vi, .int .i64 va] rfl rfl 36 _ HV7.out (Nat.le_of_ble_eq_true rfl) rfl (by kernel_rfl) rfl ?_; intro w8 hw8 how8; have HS8 : Hid (w8.heap[Bs]? = some (.cells #[.int .i64 0, .int .i64 0, .int .i64 0, .int .i64 0, .int .i64 0] 38 (0, 0))) := (how8.block Bs HBn.out).trans HS7.out) | (refine wpList_store_blk rfl 38 (.tmp 5) (.tmp 34) rfl Bs 0 #[.int .i64 (K : Int), .int .i64 (C : Int), .int .i64 0, .int .i64 0, .int .i64 0] #[.int .i64 (K : Int), .int .i64 (C : Int), .int .i64 0, .int .i64 0, .int .i64 0] rfl rfl 38 _ HS8.out (Nat.le_of_ble_eq_true rfl) rfl (by kernel_rfl) rfl ?_; intro w9 hw9 how9))
    refine bodyPost_ret (results_rows2 Tryz.results9 rfl rfl ((how9.block Bv (fun e => HBn.out e.symm)).trans hw8) Tryz.underlying36 rfl (by kernel_rfl) hw9 Tryz.underlying38 rfl (by kernel_rfl)) rfl ?_
    exact ⟨rfl, (HB7.out.trans (how8.below HBv.out)).trans (how9.below HBs.out)⟩
  · subst hi0
    refine wpOp_of_wp rfl rfl (fun K' hK' => ?_)
    have hS4 : Below wq.heap.size wq (wq.drew.alloc (.cells #[.bool false, .int .i64 0, .int .i64 0] 36)) := hS0.alloc (Nat.le_refl _) _
    have h4 : (wq.drew.alloc (.cells #[.bool false, .int .i64 0, .int .i64 0] 36)).heap[wq.drew.heap.size]? = some (.cells #[.bool false, .int .i64 0, .int .i64 0] 36 (0, 0)) := blk_new wq.drew _
    go_wp2_with (fail)
    refine ⟨hS4, ?_⟩
    try simp only [List.getElem_toArray, List.getElem_cons_succ, List.getElem_cons_zero, Act.put, List.setIfInBounds_toArray, List.set_cons_zero, List.set_cons_succ]
    refine wpAnyH_all (rs := [5]) (by kernel_rfl) (by simp) ?_
    intro i0 hi0
    simp only [List.mem_cons, List.not_mem_nil, or_false] at hi0
    subst hi0
    refine wpOp_of_wp rfl rfl (fun K' hK' => ?_)
    have hBc := HBq.out.trans ((hS4).mono HBq.out.size)
    go_wp2_with (go_at_call 20; refine (hFi _ (by assumption)).mono ?_; rintro e w3 ⟨rfl, hb3⟩)
    have hS6 : Below wq.heap.size wq w3 := hS4.trans (hb3.mono hS4.size)
    have h6 : w3.heap[wq.heap.size]? = some (.cells #[.bool false, .int .i64 0, .int .i64 0] 36 (0, 0)) := blk_on h4 hb3
    have hB6 : wq.heap.size ≤ wq.heap.size := Nat.le_refl _
    refine ⟨hS6, ?_⟩
    try simp only [List.getElem_toArray, List.getElem_cons_succ, List.getElem_cons_zero, Act.put, List.setIfInBounds_toArray, List.set_cons_zero, List.set_cons_succ]
    refine wpAnyH_take (i := 6) (v := .tuple #[.agg #[.bool vb, .int .i64 vi, .int .i64 va], .int .i64 (C : Int)]) rfl (by kernel_rfl) (by kernel_rfl) (by kernel_rfl) (fun _ _ _ h => h) (.inl ⟨rfl, fun _ _ => by simp [execOp, go_sem]⟩) hS6 ?_
    simp only [List.getElem_toArray, List.getElem_cons_succ, List.getElem_cons_zero, Act.put, List.setIfInBounds_toArray, List.set_cons_zero, List.set_cons_succ]
    refine wpAnyH_take (i := 7) (v := .agg #[.bool vb, .int .i64 vi, .int .i64 va]) rfl (by kernel_rfl) (by kernel_rfl) (by kernel_rfl) (fun _ _ _ h => h) (.inl ⟨rfl, fun _ _ => by simp [execOp, go_sem]⟩) hS6 ?_
    simp only [List.getElem_toArray, List.getElem_cons_succ, List.getElem_cons_zero, Act.put, List.setIfInBounds_toArray, List.set_cons_zero, List.set_cons_succ]
    refine wpAnyH_take (i := 8) (v := .int .i64 (C : Int)) rfl (by kernel_rfl) (by kernel_rfl) (by kernel_rfl) (fun _ _ _ h => h) (.inl ⟨rfl, fun _ _ => by simp [execOp, go_sem]⟩) hS6 ?_
    simp only [List.getElem_toArray, List.getElem_cons_succ, List.getElem_cons_zero, Act.put, List.setIfInBounds_toArray, List.set_cons_zero, List.set_cons_succ]
    refine wpAnyH_all (rs := [10]) (by kernel_rfl) (by simp) ?_
    intro i0 hi0
    simp only [List.mem_cons, List.not_mem_nil, or_false] at hi0
    subst hi0
    refine wpOp_of_wp rfl rfl (fun K' hK' => ?_)
    refine wp_store_blk 36 (.tmp 8) (.tmp 29) rfl wq.heap.size 0 #[.bool vb, .int .i64 vi, .int .i64 va] #[.bool vb, .int .i64 vi, .int .i64 va] rfl rfl 36 _ h6 (Nat.le_of_ble_eq_true rfl) rfl (by kernel_rfl) rfl ?_
    intro w7 h7 ho7
    have hS7 : Below wq.heap.size wq w7 := hS6.trans (ho7.below hB6)
    refine hK' _ _ ⟨hS7, ?_⟩
    try simp only [List.getElem_toArray, List.getElem_cons_succ, List.getElem_cons_zero, Act.put, List.setIfInBounds_toArray, List.set_cons_zero, List.set_cons_succ]
    refine wpAnyH_take (i := 11) (v := .int .i64 (C : Int)) rfl (by kernel_rfl) (by kernel_rfl) (by kernel_rfl) (fun _ _ _ h => h) (.inl ⟨rfl, fun _ _ => by simp [execOp, go_sem]⟩) hS7 ?_
    simp only [List.getElem_toArray, List.getElem_cons_succ, List.getElem_cons_zero, Act.put, List.setIfInBounds_toArray, List.set_cons_zero, List.set_cons_succ]
    refine wpAnyH_done (by kernel_rfl) ?_ _
    try simp only [List.getElem_toArray, List.getElem_cons_succ, List.getElem_cons_zero, Act.put, List.setIfInBounds_toArray, List.set_cons_zero, List.set_cons_succ]
    have HB7 : Hid (Below w.heap.size w w7) := HBq.out.trans (hS7.mono HBq.out.size)
    have HV7 : Hid (w7.heap[Bv]? = some (.cells #[.bool false, .int .i64 0, .int .i64 0] 36 (0, 0))) := blk_on HVq.out hS7
    have HS7 : Hid (w7.heap[Bs]? = some (.cells #[.int .i64 0, .int .i64 0, .int .i64 0, .int .i64 0, .int .i64 0] 38 (0, 0))) := blk_on HSq.out hS7
    obtain ⟨q0, q1, q2⟩ := blk3 h7
    generalize hB6e : wq.heap.size = B6 at *
    clear h7 ho7 hS7 h6 hS6 hB6 hB6e hHd hFi
    go_wp2_with (first | (refine wpList_store_blk rfl 36 (.tmp 4) (.tmp 31) rfl Bv 0 #[.bool vb, .int .i64 vi, .int .i64 va] #[.bool vb, .int .i64 vi, .int .i64 va] rfl rfl 36 _ HV7.out (Nat.le_of_ble_eq_true rfl) rfl (by kernel_rfl) rfl ?_; intro w8 hw8 how8; have HS8 : Hid (w8.heap[Bs]? = some (.cells #[.int .i64 0, .int .i64 0, .int .i64 0, .int .i64 0, .int .i64 0] 38 (0, 0))) := (how8.block Bs HBn.out).trans HS7.out) | (refine wpList_store_blk rfl 38 (.tmp 5) (.tmp 34) rfl Bs 0 #[.int .i64 (K : Int), .int .i64 (C : Int), .int .i64 0, .int .i64 0, .int .i64 0] #[.int .i64 (K : Int), .int .i64 (C : Int), .int .i64 0, .int .i64 0, .int .i64 0] rfl rfl 38 _ HS8.out (Nat.le_of_ble_eq_true rfl) rfl (by kernel_rfl) rfl ?_; intro w9 hw9 how9))
    refine bodyPost_ret (results_rows2 Tryz.results9 rfl rfl ((how9.block Bv (fun e => HBn.out e.symm)).trans hw8) Tryz.underlying36 rfl (by kernel_rfl) hw9 Tryz.underlying38 rfl (by kernel_rfl)) rfl ?_
    exact ⟨rfl, (HB7.out.trans (how8.below HBv.out)).trans (how9.below HBs.out)⟩
set_option maxHeartbeats 8000000 in
set_option maxRecDepth 20000 in
theorem statsE (X : Nat) (c : Cf) (l : List Ru) (N : List Gn) (LS : List (List Nat)) (S : Nat → Prop) (w : World) (hE : Eng w X c l N LS S) :
    Calls Tryz.prog 11 #[.pointer (some ⟨X, 0, none⟩)] w fun e w' => e = .returned (saV N LS) ∧ Below w.heap.size w w' := by
  have hsz := hE.size
  obtain ⟨t, v, nv, lv, vs, he, _⟩ := hE.at'
  obtain ⟨x0, x1, x2, x3, x4, _⟩ := blkE he.blk
  have hFo : Fo w X 3 nv N := ⟨x3, he.fr.nod⟩
  have hEn : ∀ W, Below w.heap.size w W → Calls Tryz.prog 23 #[.pointer (some ⟨X, 3, none⟩)] W fun e w' => e = .returned (.int .i64 ((N.length - 1 : Nat) : Int)) ∧ w' = W := fun W hb => sizeC X 3 nv N W (hFo.on hb) (by omega)
  obtain ⟨Cl, hCl, hCt⟩ := he.fr.lst
  obtain ⟨adl, capl, hlv, _⟩ := hCl.form
  rw [hCt] at hlv
  unfold saV
  have hXl : X < w.heap.size := blk_lt he.blk
  generalize pnTot LS = T at *
  generalize N.length - 1 = n at *
  subst hlv
  have hx3 : ∀ W, Below w.heap.size w W → W.cell? ⟨X, 4, none⟩ = some (.slice adl T capl) := fun W hb => cell_on1 hb x4
  have HR0 : Hid ((w.alloc (.cells #[.int .i64 0, .int .i64 0, .int .i64 0, .int .i64 0] 43)).heap[w.heap.size]? = some (.cells #[.int .i64 0, .int .i64 0, .int .i64 0, .int .i64 0] 43 (0, 0))) := blk_new w _
  have HB0 : Hid (Below w.heap.size w (w.alloc (.cells #[.int .i64 0, .int .i64 0, .int .i64 0, .int .i64 0] 43))) := (Below.refl _ _).alloc (Nat.le_refl _) _
  clear hFo he x0 x1 x2 x3 x4 hE hCl hCt
  go_enter Tryz.func11, Tryz.ntmps11
  go_upto_region 3 with (fail)
  generalize w.alloc (.cells #[.int .i64 0, .int .i64 0, .int .i64 0, .int .i64 0] 43) = w0 at *
  refine wp_region_held_drew (S := fun w' => Below w.heap.size w w') (by kernel_rfl) HB0.out.drew (fun hS0 => ?_)
  show wpAnyH _ _ _ _ _ 12 _ _ _
  refine wpAnyH_take (i := 0) (v := .pointer (some ⟨X, 0, none⟩)) rfl (by kernel_rfl) (by kernel_rfl) (by kernel_rfl) (fun _ _ _ h => h) (.inl ⟨rfl, fun _ _ => by simp [execOp, go_sem]⟩) hS0 ?_
  simp only [List.getElem_toArray, List.getElem_cons_succ, List.getElem_cons_zero, Act.put, List.setIfInBounds_toArray, List.set_cons_zero, List.set_cons_succ]
  refine wpAnyH_take (i := 1) (v := .pointer (some ⟨X, 0, none⟩)) rfl (by kernel_rfl) (by kernel_rfl) (by kernel_rfl) (fun _ _ _ h => h) (.inl ⟨rfl, fun _ _ => by simp [execOp, go_sem]⟩) hS0 ?_
  simp only [List.getElem_toArray, List.getElem_cons_succ, List.getElem_cons_zero, Act.put, List.setIfInBounds_toArray, List.set_cons_zero, List.set_cons_succ]
  refine wpAnyH_take (i := 2) (v := .pointer (some ⟨X, 3, none⟩)) rfl (by kernel_rfl) (by kernel_rfl) (by kernel_rfl) (fun _ _ _ h => h) (.inl ⟨rfl, fun _ _ => by simp [execOp, go_sem]⟩) hS0 ?_
  simp only [List.getElem_toArray, List.getElem_cons_succ, List.getElem_cons_zero, Act.put, List.setIfInBounds_toArray, List.set_cons_zero, List.set_cons_succ]
  refine wpAnyH_take (i := 4) (v := .pointer (some ⟨X, 0, none⟩)) rfl (by kernel_rfl) (by kernel_rfl) (by kernel_rfl) (fun _ _ _ h => h) (.inl ⟨rfl, fun _ _ => by simp [execOp, go_sem]⟩) hS0 ?_
  simp only [List.getElem_toArray, List.getElem_cons_succ, List.getElem_cons_zero, Act.put, List.setIfInBounds_toArray, List.set_cons_zero, List.set_cons_succ]
  refine wpAnyH_take (i := 5) (v := .pointer (some ⟨X, 0, none⟩)) rfl (by kernel_rfl) (by kernel_rfl) (by kernel_rfl) (fun _ _ _ h => h) (.inl ⟨rfl, fun _ _ => by simp [execOp, go_sem]⟩) hS0 ?_
  simp only [List.getElem_toArray, List.getElem_cons_succ, List.getElem_cons_zero, Act.put, List.setIfInBounds_toArray, List.set_cons_zero, List.set_cons_succ]
  refine wpAnyH_take (i := 6) (v := .pointer (some ⟨X, 3, none⟩)) rfl (by kernel_rfl) (by kernel_rfl) (by kernel_rfl) (fun _ _ _ h => h) (.inl ⟨rfl, fun _ _ => by simp [execOp, go_sem]⟩) hS0 ?_
  simp only [List.getElem_toArray, List.getElem_cons_succ, List.getElem_cons_zero, Act.put, List.setIfInBounds_toArray, List.set_cons_zero, List.set_cons_succ]
  refine wpAnyH_take (i := 7) (v := .pointer (some ⟨X, 4, none⟩)) rfl (by kernel_rfl) (by kernel_rfl) (by kernel_rfl) (fun _ _ _ h => h) (.inl ⟨rfl, fun _ _ => by simp [execOp, go_sem]⟩) hS0 ?_
  simp only [List.getElem_toArray, List.getElem_cons_succ, List.getElem_cons_zero, Act.put, List.setIfInBounds_toArray, List.set_cons_zero, List.set_cons_succ]
  refine wpAnyH_take (i := 8) (v := .slice adl T capl) rfl (by kernel_rfl) (by kernel_rfl) (by kernel_rfl) (fun _ _ _ h => h) (.inl ⟨rfl, fun w' hw' => by have hcc := hx3 w' hw'; simp [execOp, go_sem, hcc]⟩) hS0 ?_
  simp only [List.getElem_toArray, List.getElem_cons_succ, List.getElem_cons_zero, Act.put, List.setIfInBounds_toArray, List.set_cons_zero, List.set_cons_succ]
  refine wpAnyH_take (i := 9) (v := .int .i64 (T : Int)) rfl (by kernel_rfl) (by kernel_rfl) (by kernel_rfl) (fun _ _ _ h => h) (.inl ⟨rfl, fun _ _ => by simp [execOp, go_sem]⟩) hS0 ?_
  simp only [List.getElem_toArray, List.getElem_cons_succ, List.getElem_cons_zero, Act.put, List.setIfInBounds_toArray, List.set_cons_zero, List.set_cons_succ]
  refine wpAnyH_all (rs := [3]) (by kernel_rfl) (by simp) ?_
  intro i hi
  simp only [List.mem_cons, List.not_mem_nil, or_false] at hi
  subst hi
  refine wpOp_of_wp rfl rfl (fun K' hK' => ?_)
  go_wp2_with (go_at_call 23; refine (hEn _ hS0).mono ?_; rintro e w3 ⟨rfl, hw3⟩; obtain rfl := hw3.symm; clear hw3)
  have hS3 : Below w.heap.size w w0.drew := hS0
  have h3 : w0.drew.heap[w.heap.size]? = some (.cells #[.int .i64 0, .int .i64 0, .int .i64 0, .int .i64 0] 43 (0, 0)) := HR0.out
  try refine ⟨hS3, ?_⟩
  try simp only [List.getElem_toArray, List.getElem_cons_succ, List.getElem_cons_zero, Act.put, List.setIfInBounds_toArray, List.set_cons_zero, List.set_cons_succ]
  refine wpAnyH_take (i := 10) (v := .agg #[.int .i64 (n : Int), .int .i64 (T : Int), .int .i64 0, .int .i64 0]) rfl (by kernel_rfl) (by kernel_rfl) (by kernel_rfl) (fun _ _ _ h => h) (.inl ⟨rfl, fun _ _ => by simp [execOp, go_sem]⟩) hS3 ?_
  simp only [List.getElem_toArray, List.getElem_cons_succ, List.getElem_cons_zero, Act.put, List.setIfInBounds_toArray, List.set_cons_zero, List.set_cons_succ]
  refine wpAnyH_all (rs := [11]) (by kernel_rfl) (by simp) ?_
  intro i0 hi0
  simp only [List.mem_cons, List.not_mem_nil, or_false] at hi0
  subst hi0
  refine wpOp_of_wp rfl rfl (fun K' hK' => ?_)
  refine wp_store_blk 43 (.tmp 2) (.tmp 16) rfl w.heap.size 0 #[.int .i64 (n : Int), .int .i64 (T : Int), .int .i64 0, .int .i64 0] #[.int .i64 (n : Int), .int .i64 (T : Int), .int .i64 0, .int .i64 0] rfl rfl 43 _ h3 (Nat.le_of_ble_eq_true rfl) rfl (by kernel_rfl) rfl ?_
  intro w7 h7 ho7
  have hS7 : Below w.heap.size w w7 := hS3.trans (ho7.below (Nat.le_refl _))
  refine hK' _ _ ⟨hS7, ?_⟩
  refine wpAnyH_done (by kernel_rfl) ?_ _
  try simp only [List.getElem_toArray, List.getElem_cons_succ, List.getElem_cons_zero, Act.put, List.setIfInBounds_toArray, List.set_cons_zero, List.set_cons_succ]
  go_wp2_with (fail)
  exact bodyPost_ret (results_blk Tryz.results11 rfl h7 Tryz.underlying43 rfl (by kernel_rfl)) rfl ⟨rfl, hS7⟩
end Go.Proofs.YtgidohnikggjfaaGreat
